/- Texts of El Sb Hx Sd Se, joined. -/
import Derived.Test.YtknodedhcdpbiaaGreatDoorP7GuardOnce
set_option maxRecDepth 20000
set_option maxHeartbeats 64000000
namespace Go.Proofs.YtknodedhcdpbiaaGreatDoor
open Go.RowKit
def pkf (e:Int) (s a b:Nat→Int) (m:Int):List Value:=[[Value.int .i64 e],row .u8 32 s,row .u8 32 a,row .u8 32 b,[Value.int .i64 m]].flatten
theorem two_one (a b:Nat→Int):∀ u∈row .u8 32 a++row .u8 32 b,u.oneCell'=true:=fun u hu=>(List.mem_append.1 hu).elim (row_one .u8 32 a u) (row_one .u8 32 b u)
theorem two_len (a b:Nat→Int):(row .u8 32 a++row .u8 32 b).length=64:=by rw [List.length_append,row32,row32]
theorem pk_two (x y:Value) (s a b c d:List Value) (hs:s.length=32) (ha:a.length=32) (hb:b.length=32) (hc:c.length=32) (hd:d.length=32):setL [[x],s,a,b,[y]].flatten 33 (c++d)=[[x],s,c,d,[y]].flatten:=by
 have h5:∀ a b:List Value,[[x],s,a,b,[y]].flatten=[[x],s,a++b,[y]].flatten:=fun a b=>by simp
 rw [h5,h5,flat_set [[x],s,a++b,[y]] [1,32,64,1] (by simp [hs,ha,hb]) 2 33 (a++b) (c++d) rfl rfl (by simp [ha,hb,hc,hd])]
 rfl
theorem pk_twoR (e m:Int) (s a b c d:Nat→Int):setL [[Value.int .i64 e],row .u8 32 s,row .u8 32 a,row .u8 32 b,[Value.int .i64 m]].flatten 33 (row .u8 32 c++row .u8 32 d)=[[Value.int .i64 e],row .u8 32 s,row .u8 32 c,row .u8 32 d,[Value.int .i64 m]].flatten:=pk_two _ _ _ _ _ _ _ (row32 _) (row32 _) (row32 _) (row32 _) (row32 _)
def kyK (e m:Int) (a b:Nat→Int) (n:Int):Nat→Int:=if n=e then a else if n=e-1∧m=2 then b else fun _=>0
def kyE (e m n:Int):Int:=if n=e then 0 else if n=e-1∧m=2 then 0 else 150
theorem kyK_now {e m n:Int} {a b:Nat→Int} (h:n=e):kyK e m a b n=a:=if_pos h
theorem kyE_now {e m n:Int} (h:n=e):kyE e m n=0:=if_pos h
theorem kyK_last {e m n:Int} {a b:Nat→Int} (h:n=e-1) (h2:m=2):kyK e m a b n=b:=by unfold kyK; rw [if_neg (by omega),if_pos ⟨h,h2⟩]
theorem kyE_last {e m n:Int} (h:n=e-1) (h2:m=2):kyE e m n=0:=by unfold kyE; rw [if_neg (by omega),if_pos ⟨h,h2⟩]
theorem kyK_none {e m n:Int} {a b:Nat→Int} (h:¬ n=e) (h2:¬ (n=e-1∧m=2)):kyK e m a b n=fun _=>0:=by unfold kyK; rw [if_neg h,if_neg h2]
theorem kyE_none {e m n:Int} (h:¬ n=e) (h2:¬ (n=e-1∧m=2)):kyE e m n=150:=by unfold kyE; rw [if_neg h,if_neg h2]
theorem ktake_any (w0 w:World) (R:Nat) (l:List (Nat × List Value)) (e m m2:Int) (s a b:Nat→Int) (r:Nat→Int) (hr:In 256 32 r) (hm:0≤m∧m≤2∧m2=min (m+1) 2) (hg:BGlob w0) (M:Mm w0 ((R,pkf e s a b m)::l) w) :
 Calls Tryz.prog 34 #[.pointer (some ⟨R,0,none⟩),.agg (row .u8 32 r).toArray] w fun e' w'=>e'=.returned (.tuple #[])∧Mm w0 ((R,pkf e r (yof r) a m2)::l) w'∧Off [R] w w':=by
 replace M:Mm w0 ((R,[[Value.int .i64 e],row .u8 32 s,row .u8 32 a,row .u8 32 b,[Value.int .i64 m]].flatten)::l) w:=M
 have hb0:=M.below; have hwz:=xnR w.heap.size; have OF:=Off.refl [R] w
 go_enter Tryz.func34,Tryz.ntmps34
 obtain ⟨hm0,hm1,hm2⟩:=hm
 go_upto_region 0 with fail; refine wp_region_list ?_; have hlb:=(Below.refl w.heap.size w).alloc (xnR _) (.cells (row .u8 32 r).toArray 23); refine actL (w':=w.alloc (.cells (row .u8 32 r).toArray 23)) (.pointer (some ⟨w.heap.size,0,none⟩)) rfl (by kernel_rfl) ?_; simp only [aP,lI,l0,lS]; have hB_:=hwz; replace hwz:=xnT hwz hlb.size; replace OF:=OF.below hlb
 replace M:=M.box (row .u8 32 r).toArray 23 w.heap.size rfl; clear hlb; generalize w.alloc (.cells (row .u8 32 r).toArray 23)=w1 at M hwz OF ⊢; generalize eB_:w.heap.size=B1 at M ⊢
 have hB_B1:w.heap.size≤B1:=by rw [← eB_]; exact hB_
 clear hB_ eB_
 replace M:Mm w0 ((B1,row .u8 32 r)::(R,[[Value.int .i64 e],row .u8 32 s,row .u8 32 a,row .u8 32 b,[Value.int .i64 m]].flatten)::l) w1:=M
 refine xT ?_; go_upto_region 1 with fail; refine wp_region_list ?_; refine xpL (.pointer (some ⟨R,0,none⟩)) ?_; refine xaL (.agg (row .u8 32 r).toArray) (loadN 23 _ ⟨B1,0,none⟩ (row .u8 32 r) rfl rfl (fun _=>by kernel_rfl) (fun _=>by rw [row32]; kernel_rfl) (M.part mS 0 _ (by rw [List.drop_zero,List.take_length]))) ?_; refine xpL (.pointer (some ⟨R,0,none⟩)) ?_
 refine xpL (.pointer (some ⟨R,1,none⟩)) ?_; replace M:=M.swap
 refine skipOpL rfl (storeP (row .u8 32 r) R 1 23 _ _ rfl rfl rfl (M.thereP mS 1 32 (by rw [flat_len _ [1,32,32,32,1] (by simp [row_length])]; decide)) (by kernel_rfl) (row_one .u8 32 r)) ?_
 simp only [Act.put]; replace M:=M.setPart (row .u8 32 r) 1 (by rw [row32,flat_len _ [1,32,32,32,1] (by simp [row_length])]; decide)
 rw [flat_set _ [1,32,32,32,1] (by simp [row_length]) 1 1 _ (row .u8 32 r) rfl rfl (by rw [row32,row32])] at M
 replace hwz:=xnT hwz (Off.size ((Off.refl [R] _).setAll (b:=R) mS 1 (row .u8 32 r))); replace OF:=OF.and1 ((Off.refl [R] _).setAll (b:=R) mS 1 (row .u8 32 r)) (.inl (by simp)); generalize w1.setCells R 1 (row .u8 32 r)=w2 at M hwz OF ⊢
 replace M:Mm w0 ((R,[[Value.int .i64 e],row .u8 32 r,row .u8 32 a,row .u8 32 b,[Value.int .i64 m]].flatten)::(B1,row .u8 32 r)::l) w2:=M
 refine xT ?_; go_upto_region 2 with fail; refine wp_region_C (S:=fun w'=>Mm w0 ((R,[[Value.int .i64 e],row .u8 32 r,row .u8 32 a,row .u8 32 b,[Value.int .i64 m]].flatten)::(B1,row .u8 32 r)::l) w') 11 (by kernel_rfl) M.drew ?_; clear M; intro M; have hdr:=(Below.refl w2.heap.size w2).drew; replace hwz:=xnT hwz hdr.size; replace OF:=OF.below hdr; clear hdr
 generalize w2.drew=w3 at M hwz OF ⊢; refine readC (i:=0) (some 8) rfl (.pointer (some ⟨R,0,none⟩)) rfl rfl (by kernel_rfl) rfl (fun _ M=>(by kernel_rfl)) (by kernel_rfl) (by kernel_rfl) (by kernel_rfl) (by kernel_rfl) (fun _ _ _ h=>h) M ?_; simp only [aP,lI,l0,lS]
 refine readC (i:=1) (some 9) rfl (.agg (row .u8 32 r).toArray) rfl rfl (by kernel_rfl) rfl (fun _ M=>loadN 23 _ ⟨B1,0,none⟩ (row .u8 32 r) rfl rfl (fun _=>by kernel_rfl) (fun _=>by rw [row32]; kernel_rfl) (M.part (mT _ mS) 0 _ (by rw [List.drop_zero,List.take_length]))) (by kernel_rfl) (by kernel_rfl) (by kernel_rfl) (by kernel_rfl) (fun _ _ _ h=>h) M ?_; simp only [aP,lI,l0,lS]
 refine readC (i:=3) (some 11) rfl (.pointer (some ⟨R,0,none⟩)) rfl rfl (by kernel_rfl) rfl (fun _ M=>(by kernel_rfl)) (by kernel_rfl) (by kernel_rfl) (by kernel_rfl) (by kernel_rfl) (fun _ _ _ h=>h) M ?_; simp only [aP,lI,l0,lS]
 refine readC (i:=4) (some 12) rfl (.pointer (some ⟨R,0,none⟩)) rfl rfl (by kernel_rfl) rfl (fun _ M=>(by kernel_rfl)) (by kernel_rfl) (by kernel_rfl) (by kernel_rfl) (by kernel_rfl) (fun _ _ _ h=>h) M ?_; simp only [aP,lI,l0,lS]
 refine readC (i:=5) (some 13) rfl (.pointer (some ⟨R,33,none⟩)) rfl rfl (by kernel_rfl) rfl (fun _ M=>(by kernel_rfl)) (by kernel_rfl) (by kernel_rfl) (by kernel_rfl) (by kernel_rfl) (fun _ _ _ h=>h) M ?_; simp only [aP,lI,l0,lS]
 refine readC (i:=6) (some 14) rfl (.pointer (some ⟨R,33,none⟩)) rfl rfl (by kernel_rfl) rfl (fun _ M=>(by kernel_rfl)) (by kernel_rfl) (by kernel_rfl) (by kernel_rfl) (by kernel_rfl) (fun _ _ _ h=>h) M ?_; simp only [aP,lI,l0,lS]
 refine readC (i:=7) (some 15) rfl (.agg (row .u8 32 a).toArray) rfl rfl (by kernel_rfl) rfl (fun _ M=>loadN 23 _ ⟨R,33,none⟩ (row .u8 32 a) rfl rfl (fun _=>by kernel_rfl) (fun _=>by rw [row32]; kernel_rfl) (M.part mS 33 _ (flat_part _ [1,32,32,32,1] (by simp [row_length]) 2 33 _ rfl rfl))) (by kernel_rfl) (by kernel_rfl) (by kernel_rfl) (by kernel_rfl) (fun _ _ _ h=>h) M ?_
 simp only [aP,lI,l0,lS]; refine callMC (i:=2) (some 10) rfl (by kernel_rfl) rfl rfl (fun _=>by kernel_rfl) (kof_any r hr _ (hg.below M.below hg.size)) ?_; rintro e w4 ⟨rfl,l⟩; replace M:=M.call l; replace hwz:=xnT hwz l.size; replace OF:=OF.below l; clear l
 refine ⟨_,rfl,M,?_⟩
 simp only [aP,lI,l0,lS]; refine readC (i:=8) (some 16) rfl (.agg (row .u8 32 (yof r)++row .u8 32 a).toArray) rfl rfl (by kernel_rfl) rfl (fun _ M=>(by kernel_rfl)) (by kernel_rfl) (by kernel_rfl) (by kernel_rfl) (by kernel_rfl) (fun _ _ _ h=>h) M ?_; simp only [aP,lI,l0,lS]; refine xqC 9 17 rfl (.pointer (some ⟨R,0,none⟩)) (fun _=>(by kernel_rfl)) M ?_
 refine readC (i:=10) (some 18) rfl (.pointer (some ⟨R,33,none⟩)) rfl rfl (by kernel_rfl) rfl (fun _ M=>(by kernel_rfl)) (by kernel_rfl) (by kernel_rfl) (by kernel_rfl) (by kernel_rfl) (fun _ _ _ h=>h) M ?_; simp only [aP,lI,l0,lS]
 refine skipC (S2:=fun _=>True) none rfl (by kernel_rfl) rfl rfl (storeP (row .u8 32 (yof r)++row .u8 32 a) R 33 56 _ _ rfl rfl rfl (M.thereP mS 33 64 (by rw [flat_len _ [1,32,32,32,1] (by simp [row_length])]; decide)) (by kernel_rfl) (two_one _ _)) (by kernel_rfl) ?_
 simp only [Act.put]; replace M:=M.setPart (row .u8 32 (yof r)++row .u8 32 a) 33 (by rw [two_len,flat_len _ [1,32,32,32,1] (by simp [row_length])]; decide)
 rw [pk_twoR] at M
 replace hwz:=xnT hwz (Off.size ((Off.refl [R] _).setAll (b:=R) mS 33 (row .u8 32 (yof r)++row .u8 32 a))); replace OF:=OF.and1 ((Off.refl [R] _).setAll (b:=R) mS 33 (row .u8 32 (yof r)++row .u8 32 a)) (.inl (by simp)); generalize w4.setCells R 33 (row .u8 32 (yof r)++row .u8 32 a)=w5 at M hwz OF ⊢
 replace M:Mm w0 ((R,[[Value.int .i64 e],row .u8 32 r,row .u8 32 (yof r),row .u8 32 a,[Value.int .i64 m]].flatten)::(B1,row .u8 32 r)::l) w5:=M
 refine wpAnyH_done (by kernel_rfl) ?_ _
 first | show Exit.then _ _ _ _ _ | show Exit.inBlock _ _ _ _ _
 go_upto_region 3 with fail; refine wp_region_list ?_; refine xpL (.pointer (some ⟨R,0,none⟩)) ?_; refine xpL (.pointer (some ⟨R,0,none⟩)) ?_; refine xpL (.pointer (some ⟨R,0,none⟩)) ?_; refine xpL (.pointer (some ⟨R,97,none⟩)) ?_
 refine xaL (.int .i64 m) (load1 3 _ ⟨R,97,none⟩ _ rfl rfl (fun _=>by kernel_rfl) (M.get mS 97 _ (flat_get _ [1,32,32,32,1] (by simp [row_length]) 4 97 _ rfl rfl))) ?_; refine xaL (.int .i64 (m+1)) (addI .i64 _ _ _ _ _ _ _ rfl rfl rfl (by rw [xw6]; omega) _) ?_; refine xaL (.int .i64 m2) (minI .i64 .i64 _ _ _ _ _ _ _ rfl rfl rfl (by split <;> omega) _) ?_
 refine xpL (.pointer (some ⟨R,0,none⟩)) ?_; refine xpL (.pointer (some ⟨R,97,none⟩)) ?_
 refine skipOpL rfl (storeAny (.int .i64 m2) R 97 3 _ _ rfl rfl rfl rfl rfl (M.isSome mS 97 (by rw [flat_len _ [1,32,32,32,1] (by simp [row_length])]; decide)) (M.free mS 97 (by rw [flat_len _ [1,32,32,32,1] (by simp [row_length])]; decide)) (by kernel_rfl)) ?_
 simp only [Act.put]; replace M:=M.set 97 (by rw [flat_len _ [1,32,32,32,1] (by simp [row_length])]; decide) (.int .i64 m2)
 rw [flat_set1 _ [1,32,32,32,1] (by simp [row_length]) 4 97 _ (.int .i64 m2) rfl rfl] at M
 replace hwz:=xnT hwz (Off.size ((Off.refl [R] _).set (b:=R) mS 97 (.int .i64 m2))); replace OF:=OF.and1 ((Off.refl [R] _).set (b:=R) mS 97 (.int .i64 m2)) (.inl (by simp)); generalize w5.setCell ⟨R,97,none⟩ (.int .i64 m2)=w6 at M hwz OF ⊢
 replace M:Mm w0 ((R,[[Value.int .i64 e],row .u8 32 r,row .u8 32 (yof r),row .u8 32 a,[Value.int .i64 m2]].flatten)::(B1,row .u8 32 r)::l) w6:=M
 replace M:Mm w0 ((R,[[Value.int .i64 e],row .u8 32 r,row .u8 32 (yof r),row .u8 32 a,[Value.int .i64 m2]].flatten)::l) w6:=M.sub _ (List.cons_sublist_cons.2 (List.Sublist.cons _ (List.Sublist.refl _)))
 replace M:Mm w0 ((R,pkf e r (yof r) a m2)::l) w6:=M
 exact ⟨rfl,.tuple #[],by kernel_rfl,rfl,M,OF⟩
def ymn (k:Kys):Int:=if k.has=true then 2 else 1
def ylk (k:Kys):Nat→Int:=if k.has=true then yof k.last else fun _=>0
theorem ymn_or (k:Kys):ymn k=1∨ymn k=2:=by unfold ymn; split <;> omega
def kck (k:Kys):List Value:=pkf k.e k.now (yof k.now) (ylk k) (ymn k)
theorem kyK_is (k:Kys) (n:Int):kyK k.e (ymn k) (yof k.now) (ylk k) n=ykK k n:=by
 unfold kyK ykK ymn ylk
 cases k.has <;> simp
theorem kyE_is (k:Kys) (n:Int):kyE k.e (ymn k) n=ykE k n:=by
 unfold kyE ykE ymn
 cases k.has <;> simp
theorem kat_any (w0 w:World) (l:List (Nat × List Value)) (r:Nat→Int) (n:Int) (hg:BGlob w0) (hr:In 256 32 r) (M:Mm w0 l w) :
 Calls Tryz.prog 32 #[.agg (row .u8 32 r).toArray,.int .i64 n] w fun e' w'=>∃ R,e'=.returned (.pointer (some ⟨R,0,none⟩))∧w.heap.size≤R∧Mm w0 ((R,kck (yat r n))::l) w'∧Below w.heap.size w w':=by
 have hb0:=M.below; have hwz:=xnR w.heap.size; have OF:=Off.refl [] w
 go_enter Tryz.func32,Tryz.ntmps32
 go_upto_region 0 with fail; refine wp_region_list ?_; have hlb:=(Below.refl w.heap.size w).alloc (xnR _) (.cells (row .u8 32 r).toArray 23); refine actL (w':=w.alloc (.cells (row .u8 32 r).toArray 23)) (.pointer (some ⟨w.heap.size,0,none⟩)) rfl (by kernel_rfl) ?_; simp only [aP,lI,l0,lS]; have hB_:=hwz; replace hwz:=xnT hwz hlb.size; replace OF:=OF.below hlb
 replace M:=M.box (row .u8 32 r).toArray 23 w.heap.size rfl; clear hlb; generalize w.alloc (.cells (row .u8 32 r).toArray 23)=w1 at M hwz OF ⊢; generalize eB_:w.heap.size=B1 at M ⊢
 have hB_B1:w.heap.size≤B1:=by rw [← eB_]; exact hB_
 clear hB_ eB_
 replace M:Mm w0 ((B1,row .u8 32 r)::l) w1:=M
 refine xpL (.pointer none) ?_; refine xT ?_; go_upto_region 1 with fail; refine wp_region_list ?_; refine xpL (.int .i64 n) ?_; refine xaL (.int .i64 (max n 0)) (maxI .i64 .i64 _ _ _ _ _ _ _ rfl rfl rfl (by split <;> omega) _) ?_; refine xaL (.int .i64 (max 0 (min n 65535))) (minI .i64 .i64 _ _ _ _ _ _ _ rfl rfl rfl (by split <;> omega) _) ?_
 refine xpL (.agg ([[Value.int .i64 (max 0 (min n 65535))],row .u8 32 (fun _=>0),row .u8 32 (fun _=>0),row .u8 32 (fun _=>0),[Value.int .i64 0]].flatten).toArray) ?_; have hlb:=(Below.refl w1.heap.size w1).alloc (xnR _) (.cells ([[Value.int .i64 (max 0 (min n 65535))],row .u8 32 (fun _=>0),row .u8 32 (fun _=>0),row .u8 32 (fun _=>0),[Value.int .i64 0]].flatten).toArray 58)
 refine actL (w':=w1.alloc (.cells ([[Value.int .i64 (max 0 (min n 65535))],row .u8 32 (fun _=>0),row .u8 32 (fun _=>0),row .u8 32 (fun _=>0),[Value.int .i64 0]].flatten).toArray 58)) (.pointer (some ⟨w1.heap.size,0,none⟩)) rfl (by kernel_rfl) ?_; simp only [aP,lI,l0,lS]; have hB_:=hwz; replace hwz:=xnT hwz hlb.size; replace OF:=OF.below hlb
 replace M:=M.box ([[Value.int .i64 (max 0 (min n 65535))],row .u8 32 (fun _=>0),row .u8 32 (fun _=>0),row .u8 32 (fun _=>0),[Value.int .i64 0]].flatten).toArray 58 w1.heap.size rfl; clear hlb
 generalize w1.alloc (.cells ([[Value.int .i64 (max 0 (min n 65535))],row .u8 32 (fun _=>0),row .u8 32 (fun _=>0),row .u8 32 (fun _=>0),[Value.int .i64 0]].flatten).toArray 58)=w2 at M hwz OF ⊢; generalize eB_:w1.heap.size=B2 at M ⊢
 have hB_B2:w.heap.size≤B2:=by rw [← eB_]; exact hB_
 clear hB_ eB_
 replace M:Mm w0 ((B2,[[Value.int .i64 (max 0 (min n 65535))],row .u8 32 (fun _=>0),row .u8 32 (fun _=>0),row .u8 32 (fun _=>0),[Value.int .i64 0]].flatten)::(B1,row .u8 32 r)::l) w2:=M
 refine xpL (.pointer (some ⟨B2,0,none⟩)) ?_; refine xT ?_; go_upto_region 2 with fail; refine wp_region_list ?_; refine xpL (.pointer (some ⟨B2,0,none⟩)) ?_; refine xaL (.agg (row .u8 32 r).toArray) (loadN 23 _ ⟨B1,0,none⟩ (row .u8 32 r) rfl rfl (fun _=>by kernel_rfl) (fun _=>by rw [row32]; kernel_rfl) (M.part (mT _ mS) 0 _ (by rw [List.drop_zero,List.take_length]))) ?_
 replace M:Mm w0 ((B2,[[Value.int .i64 (max 0 (min n 65535))],row .u8 32 (fun _=>0),row .u8 32 (fun _=>0),row .u8 32 (fun _=>0),[Value.int .i64 0]].flatten)::(B1,row .u8 32 r)::l) w2:=M
 refine xcL (ktake_any w0 _ B2 _ (max 0 (min n 65535)) 0 1 (fun _=>0) (fun _=>0) (fun _=>0) r hr (by omega) hg M) ?_; rintro e w3 ⟨rfl,M',o1⟩; clear M; have M:=M'; clear M'; replace hwz:=xnT hwz (Off.size o1); replace OF:=OF.and1 o1 (.inr (by omega)); clear o1; refine xeL ?_; refine xT ?_; go_upto_region 3 with fail; refine wp_region_list ?_
 refine xpL (.pointer (some ⟨B2,0,none⟩)) ?_; refine xpL (.pointer (some ⟨B2,0,none⟩)) ?_; refine xT ?_
 replace M:Mm w0 ((B2,[[Value.int .i64 (max 0 (min n 65535))],row .u8 32 r,row .u8 32 (yof r),row .u8 32 (fun _=>0),[Value.int .i64 1]].flatten)::l) w3:=M.sub _ (List.cons_sublist_cons.2 (List.Sublist.cons _ (List.Sublist.refl _)))
 have hbel:Below w.heap.size w w3:=⟨M.below.os.trans hb0.os.symm,M.below.tape.trans hb0.tape.symm,M.below.output.trans hb0.output.symm,OF.size,fun b hb=>OF.blk b hb (fun h=>by cases h)⟩
 replace M:Mm w0 ((B2,kck (yat r n))::l) w3:=M
 have HS:=show Hid _ from (And.intro hB_B2 (And.intro M hbel)); clear M OF hbel hB_B2; go_wp2; go_ret
 exact ⟨B2,rfl,HS.out⟩
def pkp (pre:List Value) (e:Int) (s a b:Nat→Int) (m:Int) (post:List Value):List Value:=[pre,[Value.int .i64 e],row .u8 32 s,row .u8 32 a,row .u8 32 b,[Value.int .i64 m],post].flatten
theorem pkp_two {o:Nat} (pre post:List Value) (ho:pre.length=o) {e m:Int} {s a b c d:Nat→Int}:setL [pre,[Value.int .i64 e],row .u8 32 s,row .u8 32 a,row .u8 32 b,[Value.int .i64 m],post].flatten (o+33) (row .u8 32 c++row .u8 32 d)=[pre,[Value.int .i64 e],row .u8 32 s,row .u8 32 c,row .u8 32 d,[Value.int .i64 m],post].flatten:=by
 have h5:∀ a b:List Value,[pre,[Value.int .i64 e],row .u8 32 s,a,b,[Value.int .i64 m],post].flatten=[pre,[Value.int .i64 e],row .u8 32 s,a++b,[Value.int .i64 m],post].flatten:=fun a b=>by simp
 rw [h5,h5,flat_set [pre,[Value.int .i64 e],row .u8 32 s,row .u8 32 a++row .u8 32 b,[Value.int .i64 m],post] [o,1,32,64,1,post.length] (by simp [row_length,ho]) 3 (o+33) (row .u8 32 a++row .u8 32 b) (row .u8 32 c++row .u8 32 d) rfl rfl (by simp [row_length])]
 rfl
theorem pepoch_any (w0 w:World) (R:Nat) (l:List (Nat × List Value)) (o:Nat) (pre post:List Value) (ho:pre.length=o) (e:Int) (s a b:Nat→Int) (m:Int) (M:Mm w0 ((R,pkp pre e s a b m post)::l) w) :
 Calls Tryz.prog 22 #[.pointer (some ⟨R,o,none⟩)] w fun e' w'=>e'=.returned (.int .i64 e)∧Below w.heap.size w w':=by
 replace M:Mm w0 ((R,[pre,[Value.int .i64 e],row .u8 32 s,row .u8 32 a,row .u8 32 b,[Value.int .i64 m],post].flatten)::l) w:=M
 have hb0:=M.below; have hwz:=xnR w.heap.size; have OF:=Off.refl [] w
 go_enter Tryz.func22,Tryz.ntmps22
 go_upto_region 0 with fail; refine wp_region_list ?_; refine xpL (.int .i64 0) ?_; refine xT ?_; go_upto_region 1 with fail; refine wp_region_list ?_; refine xpL (.pointer (some ⟨R,o,none⟩)) ?_; refine xpL (.pointer (some ⟨R,o,none⟩)) ?_; refine xpL (.pointer (some ⟨R,o,none⟩)) ?_
 refine xaL (.int .i64 e) (load1 3 _ ⟨R,o,none⟩ _ rfl rfl (fun _=>by kernel_rfl) (M.get mS o _ (flat_get _ [o,1,32,32,32,1,post.length] (by simp [row_length,ho]) 1 o _ rfl rfl))) ?_; refine xpL (.int .i64 e) ?_; refine xT ?_
 have hbel:Below w.heap.size w w:=⟨M.below.os.trans hb0.os.symm,M.below.tape.trans hb0.tape.symm,M.below.output.trans hb0.output.symm,OF.size,fun b hb=>OF.blk b hb (fun h=>by cases h)⟩
 have HS:=show Hid _ from hbel; clear M OF hbel; go_wp2; go_ret
 exact ⟨rfl,HS.out⟩
theorem pended_any (w0 w:World) (R:Nat) (l:List (Nat × List Value)) (o:Nat) (pre post:List Value) (ho:pre.length=o) (e:Int) (s a b:Nat→Int) (m:Int) (q:Bool) (hq:decide (e≥65535)=q) (M:Mm w0 ((R,pkp pre e s a b m post)::l) w) :
 Calls Tryz.prog 33 #[.pointer (some ⟨R,o,none⟩)] w fun e' w'=>e'=.returned (.bool q)∧Below w.heap.size w w':=by
 replace M:Mm w0 ((R,[pre,[Value.int .i64 e],row .u8 32 s,row .u8 32 a,row .u8 32 b,[Value.int .i64 m],post].flatten)::l) w:=M
 have hb0:=M.below; have hwz:=xnR w.heap.size; have OF:=Off.refl [] w
 go_enter Tryz.func33,Tryz.ntmps33
 go_upto_region 0 with fail; refine wp_region_list ?_; refine xpL (.bool false) ?_; refine xT ?_; go_upto_region 1 with fail; refine wp_region_list ?_; refine xpL (.pointer (some ⟨R,o,none⟩)) ?_; refine xpL (.pointer (some ⟨R,o,none⟩)) ?_; refine xpL (.pointer (some ⟨R,o,none⟩)) ?_
 refine xaL (.int .i64 e) (load1 3 _ ⟨R,o,none⟩ _ rfl rfl (fun _=>by kernel_rfl) (M.get mS o _ (flat_get _ [o,1,32,32,32,1,post.length] (by simp [row_length,ho]) 1 o _ rfl rfl))) ?_; refine xaL (.bool q) (geqI .i64 _ _ _ _ _ _ rfl rfl rfl q hq _) ?_; refine xpL (.bool q) ?_; refine xT ?_
 have hbel:Below w.heap.size w w:=⟨M.below.os.trans hb0.os.symm,M.below.tape.trans hb0.tape.symm,M.below.output.trans hb0.output.symm,OF.size,fun b hb=>OF.blk b hb (fun h=>by cases h)⟩
 have HS:=show Hid _ from hbel; clear M OF hbel; go_wp2; go_ret
 exact ⟨rfl,HS.out⟩
theorem ptake_any (w0 w:World) (R:Nat) (l:List (Nat × List Value)) (o:Nat) (pre post:List Value) (ho:pre.length=o) (e m m2:Int) (s a b:Nat→Int) (r:Nat→Int) (hr:In 256 32 r) (hm:0≤m∧m≤2∧m2=min (m+1) 2) (hg:BGlob w0) (M:Mm w0 ((R,pkp pre e s a b m post)::l) w) :
 Calls Tryz.prog 34 #[.pointer (some ⟨R,o,none⟩),.agg (row .u8 32 r).toArray] w fun e' w'=>e'=.returned (.tuple #[])∧Mm w0 ((R,pkp pre e r (yof r) a m2 post)::l) w'∧Off [R] w w':=by
 replace M:Mm w0 ((R,[pre,[Value.int .i64 e],row .u8 32 s,row .u8 32 a,row .u8 32 b,[Value.int .i64 m],post].flatten)::l) w:=M
 have hb0:=M.below; have hwz:=xnR w.heap.size; have OF:=Off.refl [R] w
 go_enter Tryz.func34,Tryz.ntmps34
 obtain ⟨hm0,hm1,hm2⟩:=hm
 go_upto_region 0 with fail; refine wp_region_list ?_; have hlb:=(Below.refl w.heap.size w).alloc (xnR _) (.cells (row .u8 32 r).toArray 23); refine actL (w':=w.alloc (.cells (row .u8 32 r).toArray 23)) (.pointer (some ⟨w.heap.size,0,none⟩)) rfl (by kernel_rfl) ?_; simp only [aP,lI,l0,lS]; have hB_:=hwz; replace hwz:=xnT hwz hlb.size; replace OF:=OF.below hlb
 replace M:=M.box (row .u8 32 r).toArray 23 w.heap.size rfl; clear hlb; generalize w.alloc (.cells (row .u8 32 r).toArray 23)=w1 at M hwz OF ⊢; generalize eB_:w.heap.size=B1 at M ⊢
 have hB_B1:w.heap.size≤B1:=by rw [← eB_]; exact hB_
 clear hB_ eB_
 replace M:Mm w0 ((B1,row .u8 32 r)::(R,[pre,[Value.int .i64 e],row .u8 32 s,row .u8 32 a,row .u8 32 b,[Value.int .i64 m],post].flatten)::l) w1:=M
 refine xT ?_; go_upto_region 1 with fail; refine wp_region_list ?_; refine xpL (.pointer (some ⟨R,o,none⟩)) ?_; refine xaL (.agg (row .u8 32 r).toArray) (loadN 23 _ ⟨B1,0,none⟩ (row .u8 32 r) rfl rfl (fun _=>by kernel_rfl) (fun _=>by rw [row32]; kernel_rfl) (M.part mS 0 _ (by rw [List.drop_zero,List.take_length]))) ?_; refine xpL (.pointer (some ⟨R,o,none⟩)) ?_
 refine xpL (.pointer (some ⟨R,(o+1),none⟩)) ?_; replace M:=M.swap
 refine skipOpL rfl (storeP (row .u8 32 r) R (o+1) 23 _ _ rfl rfl rfl (M.thereP mS (o+1) 32 (by rw [flat_len _ [o,1,32,32,32,1,post.length] (by simp [row_length,ho])]; first | decide | (simp only [List.sum_cons,List.sum_nil]; omega))) (by kernel_rfl) (row_one .u8 32 r)) ?_
 simp only [Act.put]; replace M:=M.setPart (row .u8 32 r) (o+1) (by rw [row32,flat_len _ [o,1,32,32,32,1,post.length] (by simp [row_length,ho])]; first | decide | (simp only [List.sum_cons,List.sum_nil]; omega))
 rw [flat_set _ [o,1,32,32,32,1,post.length] (by simp [row_length,ho]) 2 (o+1) _ (row .u8 32 r) rfl rfl (by rw [row32,row32])] at M
 replace hwz:=xnT hwz (Off.size ((Off.refl [R] _).setAll (b:=R) mS (o+1) (row .u8 32 r))); replace OF:=OF.and1 ((Off.refl [R] _).setAll (b:=R) mS (o+1) (row .u8 32 r)) (.inl (by simp)); generalize w1.setCells R (o+1) (row .u8 32 r)=w2 at M hwz OF ⊢
 replace M:Mm w0 ((R,[pre,[Value.int .i64 e],row .u8 32 r,row .u8 32 a,row .u8 32 b,[Value.int .i64 m],post].flatten)::(B1,row .u8 32 r)::l) w2:=M
 refine xT ?_; go_upto_region 2 with fail; refine wp_region_C (S:=fun w'=>Mm w0 ((R,[pre,[Value.int .i64 e],row .u8 32 r,row .u8 32 a,row .u8 32 b,[Value.int .i64 m],post].flatten)::(B1,row .u8 32 r)::l) w') 11 (by kernel_rfl) M.drew ?_; clear M; intro M; have hdr:=(Below.refl w2.heap.size w2).drew; replace hwz:=xnT hwz hdr.size; replace OF:=OF.below hdr; clear hdr
 generalize w2.drew=w3 at M hwz OF ⊢; refine readC (i:=0) (some 8) rfl (.pointer (some ⟨R,o,none⟩)) rfl rfl (by kernel_rfl) rfl (fun _ M=>(by kernel_rfl)) (by kernel_rfl) (by kernel_rfl) (by kernel_rfl) (by kernel_rfl) (fun _ _ _ h=>h) M ?_; simp only [aP,lI,l0,lS]
 refine readC (i:=1) (some 9) rfl (.agg (row .u8 32 r).toArray) rfl rfl (by kernel_rfl) rfl (fun _ M=>loadN 23 _ ⟨B1,0,none⟩ (row .u8 32 r) rfl rfl (fun _=>by kernel_rfl) (fun _=>by rw [row32]; kernel_rfl) (M.part (mT _ mS) 0 _ (by rw [List.drop_zero,List.take_length]))) (by kernel_rfl) (by kernel_rfl) (by kernel_rfl) (by kernel_rfl) (fun _ _ _ h=>h) M ?_; simp only [aP,lI,l0,lS]
 refine readC (i:=3) (some 11) rfl (.pointer (some ⟨R,o,none⟩)) rfl rfl (by kernel_rfl) rfl (fun _ M=>(by kernel_rfl)) (by kernel_rfl) (by kernel_rfl) (by kernel_rfl) (by kernel_rfl) (fun _ _ _ h=>h) M ?_; simp only [aP,lI,l0,lS]
 refine readC (i:=4) (some 12) rfl (.pointer (some ⟨R,o,none⟩)) rfl rfl (by kernel_rfl) rfl (fun _ M=>(by kernel_rfl)) (by kernel_rfl) (by kernel_rfl) (by kernel_rfl) (by kernel_rfl) (fun _ _ _ h=>h) M ?_; simp only [aP,lI,l0,lS]
 refine readC (i:=5) (some 13) rfl (.pointer (some ⟨R,(o+33),none⟩)) rfl rfl (by kernel_rfl) rfl (fun _ M=>(by kernel_rfl)) (by kernel_rfl) (by kernel_rfl) (by kernel_rfl) (by kernel_rfl) (fun _ _ _ h=>h) M ?_; simp only [aP,lI,l0,lS]
 refine readC (i:=6) (some 14) rfl (.pointer (some ⟨R,(o+33),none⟩)) rfl rfl (by kernel_rfl) rfl (fun _ M=>(by kernel_rfl)) (by kernel_rfl) (by kernel_rfl) (by kernel_rfl) (by kernel_rfl) (fun _ _ _ h=>h) M ?_; simp only [aP,lI,l0,lS]
 refine readC (i:=7) (some 15) rfl (.agg (row .u8 32 a).toArray) rfl rfl (by kernel_rfl) rfl (fun _ M=>loadN 23 _ ⟨R,(o+33),none⟩ (row .u8 32 a) rfl rfl (fun _=>by kernel_rfl) (fun _=>by rw [row32]; kernel_rfl) (M.part mS (o+33) _ (flat_part _ [o,1,32,32,32,1,post.length] (by simp [row_length,ho]) 3 (o+33) _ rfl rfl))) (by kernel_rfl) (by kernel_rfl) (by kernel_rfl) (by kernel_rfl) (fun _ _ _ h=>h) M ?_
 simp only [aP,lI,l0,lS]; refine callMC (i:=2) (some 10) rfl (by kernel_rfl) rfl rfl (fun _=>by kernel_rfl) (kof_any r hr _ (hg.below M.below hg.size)) ?_; rintro e w4 ⟨rfl,l⟩; replace M:=M.call l; replace hwz:=xnT hwz l.size; replace OF:=OF.below l; clear l
 refine ⟨_,rfl,M,?_⟩
 simp only [aP,lI,l0,lS]; refine readC (i:=8) (some 16) rfl (.agg (row .u8 32 (yof r)++row .u8 32 a).toArray) rfl rfl (by kernel_rfl) rfl (fun _ M=>(by kernel_rfl)) (by kernel_rfl) (by kernel_rfl) (by kernel_rfl) (by kernel_rfl) (fun _ _ _ h=>h) M ?_; simp only [aP,lI,l0,lS]; refine xqC 9 17 rfl (.pointer (some ⟨R,o,none⟩)) (fun _=>(by kernel_rfl)) M ?_
 refine readC (i:=10) (some 18) rfl (.pointer (some ⟨R,(o+33),none⟩)) rfl rfl (by kernel_rfl) rfl (fun _ M=>(by kernel_rfl)) (by kernel_rfl) (by kernel_rfl) (by kernel_rfl) (by kernel_rfl) (fun _ _ _ h=>h) M ?_; simp only [aP,lI,l0,lS]
 refine skipC (S2:=fun _=>True) none rfl (by kernel_rfl) rfl rfl (storeP (row .u8 32 (yof r)++row .u8 32 a) R (o+33) 56 _ _ rfl rfl rfl (M.thereP mS (o+33) 64 (by rw [flat_len _ [o,1,32,32,32,1,post.length] (by simp [row_length,ho])]; first | decide | (simp only [List.sum_cons,List.sum_nil]; omega))) (by kernel_rfl) (two_one _ _)) (by kernel_rfl) ?_
 simp only [Act.put]; replace M:=M.setPart (row .u8 32 (yof r)++row .u8 32 a) (o+33) (by rw [two_len,flat_len _ [o,1,32,32,32,1,post.length] (by simp [row_length,ho])]; first | decide | (simp only [List.sum_cons,List.sum_nil]; omega))
 rw [pkp_two _ _ ho] at M
 replace hwz:=xnT hwz (Off.size ((Off.refl [R] _).setAll (b:=R) mS (o+33) (row .u8 32 (yof r)++row .u8 32 a))); replace OF:=OF.and1 ((Off.refl [R] _).setAll (b:=R) mS (o+33) (row .u8 32 (yof r)++row .u8 32 a)) (.inl (by simp)); generalize w4.setCells R (o+33) (row .u8 32 (yof r)++row .u8 32 a)=w5 at M hwz OF ⊢
 replace M:Mm w0 ((R,[pre,[Value.int .i64 e],row .u8 32 r,row .u8 32 (yof r),row .u8 32 a,[Value.int .i64 m],post].flatten)::(B1,row .u8 32 r)::l) w5:=M
 refine wpAnyH_done (by kernel_rfl) ?_ _
 first | show Exit.then _ _ _ _ _ | show Exit.inBlock _ _ _ _ _
 go_upto_region 3 with fail; refine wp_region_list ?_; refine xpL (.pointer (some ⟨R,o,none⟩)) ?_; refine xpL (.pointer (some ⟨R,o,none⟩)) ?_; refine xpL (.pointer (some ⟨R,o,none⟩)) ?_; refine xpL (.pointer (some ⟨R,(o+97),none⟩)) ?_
 refine xaL (.int .i64 m) (load1 3 _ ⟨R,(o+97),none⟩ _ rfl rfl (fun _=>by kernel_rfl) (M.get mS (o+97) _ (flat_get _ [o,1,32,32,32,1,post.length] (by simp [row_length,ho]) 5 (o+97) _ rfl rfl))) ?_; refine xaL (.int .i64 (m+1)) (addI .i64 _ _ _ _ _ _ _ rfl rfl rfl (by rw [xw6]; omega) _) ?_
 refine xaL (.int .i64 m2) (minI .i64 .i64 _ _ _ _ _ _ _ rfl rfl rfl (by split <;> omega) _) ?_; refine xpL (.pointer (some ⟨R,o,none⟩)) ?_; refine xpL (.pointer (some ⟨R,(o+97),none⟩)) ?_
 refine skipOpL rfl (storeAny (.int .i64 m2) R (o+97) 3 _ _ rfl rfl rfl rfl rfl (M.isSome mS (o+97) (by rw [flat_len _ [o,1,32,32,32,1,post.length] (by simp [row_length,ho])]; first | decide | (simp only [List.sum_cons,List.sum_nil]; omega))) (M.free mS (o+97) (by rw [flat_len _ [o,1,32,32,32,1,post.length] (by simp [row_length,ho])]; first | decide | (simp only [List.sum_cons,List.sum_nil]; omega))) (by kernel_rfl)) ?_
 simp only [Act.put]; replace M:=M.set (o+97) (by rw [flat_len _ [o,1,32,32,32,1,post.length] (by simp [row_length,ho])]; first | decide | (simp only [List.sum_cons,List.sum_nil]; omega)) (.int .i64 m2)
 rw [flat_set1 _ [o,1,32,32,32,1,post.length] (by simp [row_length,ho]) 5 (o+97) _ (.int .i64 m2) rfl rfl] at M
 replace hwz:=xnT hwz (Off.size ((Off.refl [R] _).set (b:=R) mS (o+97) (.int .i64 m2))); replace OF:=OF.and1 ((Off.refl [R] _).set (b:=R) mS (o+97) (.int .i64 m2)) (.inl (by simp)); generalize w5.setCell ⟨R,(o+97),none⟩ (.int .i64 m2)=w6 at M hwz OF ⊢
 replace M:Mm w0 ((R,[pre,[Value.int .i64 e],row .u8 32 r,row .u8 32 (yof r),row .u8 32 a,[Value.int .i64 m2],post].flatten)::(B1,row .u8 32 r)::l) w6:=M
 replace M:Mm w0 ((R,[pre,[Value.int .i64 e],row .u8 32 r,row .u8 32 (yof r),row .u8 32 a,[Value.int .i64 m2],post].flatten)::l) w6:=M.sub _ (List.cons_sublist_cons.2 (List.Sublist.cons _ (List.Sublist.refl _)))
 replace M:Mm w0 ((R,pkp pre e r (yof r) a m2 post)::l) w6:=M
 exact ⟨rfl,.tuple #[],by kernel_rfl,rfl,M,OF⟩
theorem pkey_any (w0 w:World) (R:Nat) (l:List (Nat × List Value)) (o:Nat) (pre post:List Value) (ho:pre.length=o) (e:Int) (s a b:Nat→Int) (m:Int) (he:0≤e∧e≤65535) (hm:m=1∨m=2) (n:Int) (M:Mm w0 ((R,pkp pre e s a b m post)::l) w) :
 Calls Tryz.prog 23 #[.pointer (some ⟨R,o,none⟩),.int .i64 n] w fun e' w'=>e'=.returned (.tuple #[.agg (row .u8 32 (kyK e m a b n)).toArray,.int .i64 (kyE e m n)])∧Below w.heap.size w w':=by
 replace M:Mm w0 ((R,[pre,[Value.int .i64 e],row .u8 32 s,row .u8 32 a,row .u8 32 b,[Value.int .i64 m],post].flatten)::l) w:=M
 have hb0:=M.below; have hwz:=xnR w.heap.size; have OF:=Off.refl [] w
 go_enter Tryz.func23,Tryz.ntmps23
 obtain ⟨he0,he1⟩:=he
 go_upto_region 0 with fail; refine wp_region_list ?_; have hlb:=(Below.refl w.heap.size w).alloc (xnR _) (.cells zu8_32 23); refine actL (w':=w.alloc (.cells zu8_32 23)) (.pointer (some ⟨w.heap.size,0,none⟩)) rfl (by kernel_rfl) ?_; simp only [aP,lI,l0,lS]; have hB_:=hwz; replace hwz:=xnT hwz hlb.size; replace OF:=OF.below hlb; replace M:=M.box zu8_32 23 w.heap.size rfl
 clear hlb; generalize w.alloc (.cells zu8_32 23)=w1 at M hwz OF ⊢; generalize eB_:w.heap.size=B1 at M ⊢
 have hB_B1:w.heap.size≤B1:=by rw [← eB_]; exact hB_
 clear hB_ eB_
 replace M:Mm w0 ((B1,row .u8 32 (fun _=>0))::(R,[pre,[Value.int .i64 e],row .u8 32 s,row .u8 32 a,row .u8 32 b,[Value.int .i64 m],post].flatten)::l) w1:=M
 refine xpL (.int .i64 0) ?_; refine xT ?_
 by_cases h1:n>e
 · go_upto_region 1 with fail
   refine wp_region_held_drew (S:=fun w'=>Mm w0 ((B1,row .u8 32 (fun _=>0))::(R,[pre,[Value.int .i64 e],row .u8 32 s,row .u8 32 a,row .u8 32 b,[Value.int .i64 m],post].flatten)::l) w') (by kernel_rfl) M.drew ?_; clear M; intro M; have hdr:=(Below.refl w1.heap.size w1).drew; replace hwz:=xnT hwz hdr.size; replace OF:=OF.below hdr; clear hdr
   generalize w1.drew=w2 at M hwz OF ⊢; refine xrH 0 6 rfl (.int .i64 n) (fun _ M=>(by kernel_rfl)) M ?_; refine xrH 1 7 rfl (.pointer (some ⟨R,o,none⟩)) (fun _ M=>(by kernel_rfl)) M ?_; refine xrH 2 8 rfl (.pointer (some ⟨R,o,none⟩)) (fun _ M=>(by kernel_rfl)) M ?_; refine xrH 3 9 rfl (.pointer (some ⟨R,o,none⟩)) (fun _ M=>(by kernel_rfl)) M ?_
   refine xrH 4 10 rfl (.int .i64 e) (fun _ M=>load1 3 _ ⟨R,o,none⟩ _ rfl rfl (fun _=>by kernel_rfl) (M.get (mT _ mS) o _ (flat_get _ [o,1,32,32,32,1,post.length] (by simp [row_length,ho]) 1 o _ rfl rfl))) M ?_; refine xrH 5 11 rfl (.bool true) (fun _ M=>gtrI .i64 _ _ _ _ _ _ rfl rfl rfl true (decide_eq_true (by omega)) _) M ?_
   refine xrH 6 12 rfl (.bool true) (fun _ M=>(by kernel_rfl)) M ?_; refine mayH (i:=7) (some 13) rfl false undef undef rfl rfl rfl (fun hc=>by cases hc) (by kernel_rfl) (by kernel_rfl) (by kernel_rfl) (fun _ _ _ h=>h) M ?_; simp only [aP,lI,l0,lS]
   refine mayH (i:=8) (some 14) rfl false undef undef rfl rfl rfl (fun hc=>by cases hc) (by kernel_rfl) (by kernel_rfl) (by kernel_rfl) (fun _ _ _ h=>h) M ?_; simp only [aP,lI,l0,lS]; refine mayH (i:=9) (some 15) rfl false undef undef rfl rfl rfl (fun hc=>by cases hc) (by kernel_rfl) (by kernel_rfl) (by kernel_rfl) (fun _ _ _ h=>h) M ?_; simp only [aP,lI,l0,lS]
   refine mayH (i:=10) (some 16) rfl false undef undef rfl rfl rfl (fun hc=>by cases hc) (by kernel_rfl) (by kernel_rfl) (by kernel_rfl) (fun _ _ _ h=>h) M ?_; simp only [aP,lI,l0,lS]; refine mayH (i:=11) (some 17) rfl false undef undef rfl rfl rfl (fun hc=>by cases hc) (by kernel_rfl) (by kernel_rfl) (by kernel_rfl) (fun _ _ _ h=>h) M ?_; simp only [aP,lI,l0,lS]
   refine mayH (i:=12) (some 18) rfl false undef undef rfl rfl rfl (fun hc=>by cases hc) (by kernel_rfl) (by kernel_rfl) (by kernel_rfl) (fun _ _ _ h=>h) M ?_; simp only [aP,lI,l0,lS]; refine mayH (i:=13) (some 19) rfl false undef undef rfl rfl rfl (fun hc=>by cases hc) (by kernel_rfl) (by kernel_rfl) (by kernel_rfl) (fun _ _ _ h=>h) M ?_; simp only [aP,lI,l0,lS]
   refine mayH (i:=14) (some 20) rfl false undef undef rfl rfl rfl (fun hc=>by cases hc) (by kernel_rfl) (by kernel_rfl) (by kernel_rfl) (fun _ _ _ h=>h) M ?_; simp only [aP,lI,l0,lS]; refine mayH (i:=15) (some 21) rfl false undef undef rfl rfl rfl (fun hc=>by cases hc) (by kernel_rfl) (by kernel_rfl) (by kernel_rfl) (fun _ _ _ h=>h) M ?_; simp only [aP,lI,l0,lS]
   refine mayH (i:=16) (some 22) rfl false undef undef rfl rfl rfl (fun hc=>by cases hc) (by kernel_rfl) (by kernel_rfl) (by kernel_rfl) (fun _ _ _ h=>h) M ?_; simp only [aP,lI,l0,lS]; refine mayH (i:=17) (some 23) rfl false undef undef rfl rfl rfl (fun hc=>by cases hc) (by kernel_rfl) (by kernel_rfl) (by kernel_rfl) (fun _ _ _ h=>h) M ?_; simp only [aP,lI,l0,lS]
   refine xrH 18 24 rfl (.bool true) (fun _ M=>(by kernel_rfl)) M ?_
   refine wpAnyH_done (by kernel_rfl) ?_ _
   first | show Exit.then _ _ _ _ _ | show Exit.inBlock _ _ _ _ _
   go_upto_region 2 with fail; refine wp_region_list ?_; refine xpL (.agg (row .u8 32 (fun _=>0)).toArray) ?_; refine skipOpL rfl (storeP (row .u8 32 (fun _=>0)) B1 0 23 _ _ rfl rfl rfl (M.thereP mS 0 32 (Nat.le_of_ble_eq_true rfl)) (by kernel_rfl) (row_one .u8 32 (fun _=>0))) ?_; simp only [Act.put]
   replace M:=M.setAll (row .u8 32 (fun _=>0)) (by first | (rw [row32,row32]; done) | (rw [row32]; rfl) | (rw [row32]; done)); replace hwz:=xnT hwz (Off.size ((Off.refl [B1] _).setAll (b:=B1) mS 0 (row .u8 32 (fun _=>0)))); replace OF:=OF.and1 ((Off.refl [B1] _).setAll (b:=B1) mS 0 (row .u8 32 (fun _=>0))) (.inr (by omega))
   generalize w2.setCells B1 0 (row .u8 32 (fun _=>0))=w3 at M hwz OF ⊢; refine xpL (.int .i64 150) ?_; refine xT ?_; have hK:=show Hid _ from kyK_none (a:=a) (b:=b) (m:=m) (show ¬ n=e by omega) (by omega); have hE:=show Hid _ from kyE_none (m:=m) (show ¬ n=e by omega) (by omega); have c1_:=M.part mS 0 (row .u8 32 (fun _=>0)) (by rw [List.drop_zero,List.take_length])
   have hbel:Below w.heap.size w w3:=⟨M.below.os.trans hb0.os.symm,M.below.tape.trans hb0.tape.symm,M.below.output.trans hb0.output.symm,OF.size,fun b hb=>OF.blk b hb (fun h=>by cases h)⟩
   clear M OF
   try clear h3
   try clear h31
   try clear h32
   try clear h2
   go_wp2; refine bodyPost_ret (v:=.tuple #[.agg (row .u8 32 (fun _=>0)).toArray,.int .i64 150]) (retCellTmp 4 5 23 ⟨B1,0,none⟩ (row .u8 32 (fun _=>0)) _ rfl rfl rfl (fun _=>by kernel_rfl) (fun _=>by rw [row32]; kernel_rfl) c1_) rfl ?_
   exact ⟨by rw [hK.out,hE.out],hbel⟩
 by_cases h2:n=e
 · go_upto_region 1 with fail
   refine wp_region_held_drew (S:=fun w'=>Mm w0 ((B1,row .u8 32 (fun _=>0))::(R,[pre,[Value.int .i64 e],row .u8 32 s,row .u8 32 a,row .u8 32 b,[Value.int .i64 m],post].flatten)::l) w') (by kernel_rfl) M.drew ?_; clear M; intro M; have hdr:=(Below.refl w1.heap.size w1).drew; replace hwz:=xnT hwz hdr.size; replace OF:=OF.below hdr; clear hdr
   generalize w1.drew=w4 at M hwz OF ⊢; refine xrH 0 6 rfl (.int .i64 n) (fun _ M=>(by kernel_rfl)) M ?_; refine xrH 1 7 rfl (.pointer (some ⟨R,o,none⟩)) (fun _ M=>(by kernel_rfl)) M ?_; refine xrH 2 8 rfl (.pointer (some ⟨R,o,none⟩)) (fun _ M=>(by kernel_rfl)) M ?_; refine xrH 3 9 rfl (.pointer (some ⟨R,o,none⟩)) (fun _ M=>(by kernel_rfl)) M ?_
   refine xrH 4 10 rfl (.int .i64 e) (fun _ M=>load1 3 _ ⟨R,o,none⟩ _ rfl rfl (fun _=>by kernel_rfl) (M.get (mT _ mS) o _ (flat_get _ [o,1,32,32,32,1,post.length] (by simp [row_length,ho]) 1 o _ rfl rfl))) M ?_; refine xrH 5 11 rfl (.bool false) (fun _ M=>gtrI .i64 _ _ _ _ _ _ rfl rfl rfl false (decide_eq_false (by omega)) _) M ?_
   refine xrH 6 12 rfl (.bool false) (fun _ M=>(by kernel_rfl)) M ?_; refine xrH 7 13 rfl (.int .i64 n) (fun _ M=>(by kernel_rfl)) M ?_; refine xrH 8 14 rfl (.pointer (some ⟨R,o,none⟩)) (fun _ M=>(by kernel_rfl)) M ?_; refine xrH 9 15 rfl (.pointer (some ⟨R,o,none⟩)) (fun _ M=>(by kernel_rfl)) M ?_; refine xrH 10 16 rfl (.pointer (some ⟨R,o,none⟩)) (fun _ M=>(by kernel_rfl)) M ?_
   refine xrH 11 17 rfl (.int .i64 e) (fun _ M=>load1 3 _ ⟨R,o,none⟩ _ rfl rfl (fun _=>by kernel_rfl) (M.get (mT _ mS) o _ (flat_get _ [o,1,32,32,32,1,post.length] (by simp [row_length,ho]) 1 o _ rfl rfl))) M ?_; refine xrH 12 18 rfl (.pointer (some ⟨R,o,none⟩)) (fun _ M=>(by kernel_rfl)) M ?_; refine xrH 13 19 rfl (.pointer (some ⟨R,o,none⟩)) (fun _ M=>(by kernel_rfl)) M ?_
   refine xrH 14 20 rfl (.pointer (some ⟨R,(o+97),none⟩)) (fun _ M=>(by kernel_rfl)) M ?_; refine xrH 15 21 rfl (.int .i64 m) (fun _ M=>load1 3 _ ⟨R,(o+97),none⟩ _ rfl rfl (fun _=>by kernel_rfl) (M.get (mT _ mS) (o+97) _ (flat_get _ [o,1,32,32,32,1,post.length] (by simp [row_length,ho]) 5 (o+97) _ rfl rfl))) M ?_
   refine xrH 16 22 rfl (.int .i64 (e-m)) (fun _ M=>subI .i64 _ _ _ _ _ _ _ rfl rfl rfl (by rw [xw6]; omega) _) M ?_; refine xrH 17 23 rfl (.bool false) (fun _ M=>leqI .i64 _ _ _ _ _ _ rfl rfl rfl false (decide_eq_false (by omega)) _) M ?_; refine xrH 18 24 rfl (.bool false) (fun _ M=>(by kernel_rfl)) M ?_
   refine wpAnyH_done (by kernel_rfl) ?_ _
   first | show Exit.then _ _ _ _ _ | show Exit.inBlock _ _ _ _ _
   go_upto_region 3 with fail; refine wp_region_held_drew (S:=fun w'=>∃ cs_,Mm w0 ((B1,cs_)::(R,[pre,[Value.int .i64 e],row .u8 32 s,row .u8 32 a,row .u8 32 b,[Value.int .i64 m],post].flatten)::l) w') (by kernel_rfl) ⟨_,M.drew⟩ ?_; intro _; replace M:=M.drew; have hdr:=(Below.refl w4.heap.size w4).drew; replace hwz:=xnT hwz hdr.size; replace OF:=OF.below hdr; clear hdr
   generalize w4.drew=w5 at M hwz OF ⊢; refine xrH 0 26 rfl (.pointer (some ⟨R,o,none⟩)) (fun _ ⟨_,M⟩=>(by kernel_rfl)) ⟨_,M⟩ ?_; refine xrH 1 27 rfl (.pointer (some ⟨R,o,none⟩)) (fun _ ⟨_,M⟩=>(by kernel_rfl)) ⟨_,M⟩ ?_; refine xrH 2 28 rfl (.pointer (some ⟨R,o,none⟩)) (fun _ ⟨_,M⟩=>(by kernel_rfl)) ⟨_,M⟩ ?_
   refine xrH 3 29 rfl (.pointer (some ⟨R,o,none⟩)) (fun _ ⟨_,M⟩=>(by kernel_rfl)) ⟨_,M⟩ ?_; refine xrH 4 30 rfl (.int .i64 e) (fun _ ⟨_,M⟩=>load1 3 _ ⟨R,o,none⟩ _ rfl rfl (fun _=>by kernel_rfl) (M.get (mT _ mS) o _ (flat_get _ [o,1,32,32,32,1,post.length] (by simp [row_length,ho]) 1 o _ rfl rfl))) ⟨_,M⟩ ?_
   refine xrH 5 31 rfl (.int .i64 n) (fun _ ⟨_,M⟩=>(by kernel_rfl)) ⟨_,M⟩ ?_; refine xrH 6 32 rfl (.int .i64 0) (fun _ ⟨_,M⟩=>subI .i64 _ _ _ _ _ _ _ rfl rfl rfl (by rw [xw6]; omega) _) ⟨_,M⟩ ?_; refine xrH 7 33 rfl (.pointer (some ⟨R,o,none⟩)) (fun _ ⟨_,M⟩=>(by kernel_rfl)) ⟨_,M⟩ ?_
   refine xrH 8 34 rfl (.pointer (some ⟨R,(o+33),none⟩)) (fun _ ⟨_,M⟩=>(by kernel_rfl)) ⟨_,M⟩ ?_; refine xrH 9 35 rfl (.pointer (some ⟨R,(o+33),none⟩)) (fun _ ⟨_,M⟩=>(by kernel_rfl)) ⟨_,M⟩ ?_
   refine xrH 10 36 rfl (.agg (row .u8 32 a).toArray) (fun _ ⟨_,M⟩=>loadN 23 _ ⟨R,(o+33),none⟩ (row .u8 32 a) rfl rfl (fun _=>by kernel_rfl) (fun _=>by rw [row32]; kernel_rfl) (M.part (mT _ mS) (o+33) _ (flat_part _ [o,1,32,32,32,1,post.length] (by simp [row_length,ho]) 3 (o+33) _ rfl rfl))) ⟨_,M⟩ ?_
   refine doesH (i:=11) none rfl (by kernel_rfl) rfl rfl (storeP (row .u8 32 a) B1 0 23 _ _ rfl rfl rfl (M.thereP mS 0 32 (Nat.le_of_ble_eq_true rfl)) (by kernel_rfl) (row_one .u8 32 a)) ⟨_,M.setAll (row .u8 32 a) (by first | (rw [row32,row32]; done) | (rw [row32]; rfl) | (rw [row32]; done))⟩ ?_
   simp only [Act.put]; replace M:=M.setAll (row .u8 32 a) (by first | (rw [row32,row32]; done) | (rw [row32]; rfl) | (rw [row32]; done)); replace hwz:=xnT hwz (Off.size ((Off.refl [B1] _).setAll (b:=B1) mS 0 (row .u8 32 a))); replace OF:=OF.and1 ((Off.refl [B1] _).setAll (b:=B1) mS 0 (row .u8 32 a)) (.inr (by omega)); generalize w5.setCells B1 0 (row .u8 32 a)=w6 at M hwz OF ⊢
   refine xrH 12 5 rfl (.int .i64 0) (fun _ ⟨_,M⟩=>(by kernel_rfl)) ⟨_,M⟩ ?_
   refine wpAnyH_done (by kernel_rfl) ?_ _
   first | show Exit.then _ _ _ _ _ | show Exit.inBlock _ _ _ _ _
   have hK:=show Hid _ from kyK_now (a:=a) (b:=b) (m:=m) h2; have hE:=show Hid _ from kyE_now (m:=m) h2; have c1_:=M.part mS 0 (row .u8 32 a) (by rw [List.drop_zero,List.take_length])
   have hbel:Below w.heap.size w w6:=⟨M.below.os.trans hb0.os.symm,M.below.tape.trans hb0.tape.symm,M.below.output.trans hb0.output.symm,OF.size,fun b hb=>OF.blk b hb (fun h=>by cases h)⟩
   clear M OF
   try clear h3
   try clear h31
   try clear h32
   try clear h2
   go_wp2; refine bodyPost_ret (v:=.tuple #[.agg (row .u8 32 a).toArray,.int .i64 0]) (retCellTmp 4 5 23 ⟨B1,0,none⟩ (row .u8 32 a) _ rfl rfl rfl (fun _=>by kernel_rfl) (fun _=>by rw [row32]; kernel_rfl) c1_) rfl ?_
   exact ⟨by rw [hK.out,hE.out],hbel⟩
 by_cases h3:n=e-1∧m=2
 · obtain ⟨h31,h32⟩:=id h3
   go_upto_region 1 with fail; refine wp_region_held_drew (S:=fun w'=>Mm w0 ((B1,row .u8 32 (fun _=>0))::(R,[pre,[Value.int .i64 e],row .u8 32 s,row .u8 32 a,row .u8 32 b,[Value.int .i64 m],post].flatten)::l) w') (by kernel_rfl) M.drew ?_; clear M; intro M; have hdr:=(Below.refl w1.heap.size w1).drew; replace hwz:=xnT hwz hdr.size; replace OF:=OF.below hdr; clear hdr
   generalize w1.drew=w7 at M hwz OF ⊢; refine xrH 0 6 rfl (.int .i64 n) (fun _ M=>(by kernel_rfl)) M ?_; refine xrH 1 7 rfl (.pointer (some ⟨R,o,none⟩)) (fun _ M=>(by kernel_rfl)) M ?_; refine xrH 2 8 rfl (.pointer (some ⟨R,o,none⟩)) (fun _ M=>(by kernel_rfl)) M ?_; refine xrH 3 9 rfl (.pointer (some ⟨R,o,none⟩)) (fun _ M=>(by kernel_rfl)) M ?_
   refine xrH 4 10 rfl (.int .i64 e) (fun _ M=>load1 3 _ ⟨R,o,none⟩ _ rfl rfl (fun _=>by kernel_rfl) (M.get (mT _ mS) o _ (flat_get _ [o,1,32,32,32,1,post.length] (by simp [row_length,ho]) 1 o _ rfl rfl))) M ?_; refine xrH 5 11 rfl (.bool false) (fun _ M=>gtrI .i64 _ _ _ _ _ _ rfl rfl rfl false (decide_eq_false (by omega)) _) M ?_
   refine xrH 6 12 rfl (.bool false) (fun _ M=>(by kernel_rfl)) M ?_; refine xrH 7 13 rfl (.int .i64 n) (fun _ M=>(by kernel_rfl)) M ?_; refine xrH 8 14 rfl (.pointer (some ⟨R,o,none⟩)) (fun _ M=>(by kernel_rfl)) M ?_; refine xrH 9 15 rfl (.pointer (some ⟨R,o,none⟩)) (fun _ M=>(by kernel_rfl)) M ?_; refine xrH 10 16 rfl (.pointer (some ⟨R,o,none⟩)) (fun _ M=>(by kernel_rfl)) M ?_
   refine xrH 11 17 rfl (.int .i64 e) (fun _ M=>load1 3 _ ⟨R,o,none⟩ _ rfl rfl (fun _=>by kernel_rfl) (M.get (mT _ mS) o _ (flat_get _ [o,1,32,32,32,1,post.length] (by simp [row_length,ho]) 1 o _ rfl rfl))) M ?_; refine xrH 12 18 rfl (.pointer (some ⟨R,o,none⟩)) (fun _ M=>(by kernel_rfl)) M ?_; refine xrH 13 19 rfl (.pointer (some ⟨R,o,none⟩)) (fun _ M=>(by kernel_rfl)) M ?_
   refine xrH 14 20 rfl (.pointer (some ⟨R,(o+97),none⟩)) (fun _ M=>(by kernel_rfl)) M ?_; refine xrH 15 21 rfl (.int .i64 m) (fun _ M=>load1 3 _ ⟨R,(o+97),none⟩ _ rfl rfl (fun _=>by kernel_rfl) (M.get (mT _ mS) (o+97) _ (flat_get _ [o,1,32,32,32,1,post.length] (by simp [row_length,ho]) 5 (o+97) _ rfl rfl))) M ?_
   refine xrH 16 22 rfl (.int .i64 (e-m)) (fun _ M=>subI .i64 _ _ _ _ _ _ _ rfl rfl rfl (by rw [xw6]; omega) _) M ?_; refine xrH 17 23 rfl (.bool false) (fun _ M=>leqI .i64 _ _ _ _ _ _ rfl rfl rfl false (decide_eq_false (by omega)) _) M ?_; refine xrH 18 24 rfl (.bool false) (fun _ M=>(by kernel_rfl)) M ?_
   refine wpAnyH_done (by kernel_rfl) ?_ _
   first | show Exit.then _ _ _ _ _ | show Exit.inBlock _ _ _ _ _
   go_upto_region 3 with fail; refine wp_region_held_drew (S:=fun w'=>∃ cs_,Mm w0 ((B1,cs_)::(R,[pre,[Value.int .i64 e],row .u8 32 s,row .u8 32 a,row .u8 32 b,[Value.int .i64 m],post].flatten)::l) w') (by kernel_rfl) ⟨_,M.drew⟩ ?_; intro _; replace M:=M.drew; have hdr:=(Below.refl w7.heap.size w7).drew; replace hwz:=xnT hwz hdr.size; replace OF:=OF.below hdr; clear hdr
   generalize w7.drew=w8 at M hwz OF ⊢; refine xrH 0 26 rfl (.pointer (some ⟨R,o,none⟩)) (fun _ ⟨_,M⟩=>(by kernel_rfl)) ⟨_,M⟩ ?_; refine xrH 1 27 rfl (.pointer (some ⟨R,o,none⟩)) (fun _ ⟨_,M⟩=>(by kernel_rfl)) ⟨_,M⟩ ?_; refine xrH 2 28 rfl (.pointer (some ⟨R,o,none⟩)) (fun _ ⟨_,M⟩=>(by kernel_rfl)) ⟨_,M⟩ ?_
   refine xrH 3 29 rfl (.pointer (some ⟨R,o,none⟩)) (fun _ ⟨_,M⟩=>(by kernel_rfl)) ⟨_,M⟩ ?_; refine xrH 4 30 rfl (.int .i64 e) (fun _ ⟨_,M⟩=>load1 3 _ ⟨R,o,none⟩ _ rfl rfl (fun _=>by kernel_rfl) (M.get (mT _ mS) o _ (flat_get _ [o,1,32,32,32,1,post.length] (by simp [row_length,ho]) 1 o _ rfl rfl))) ⟨_,M⟩ ?_
   refine xrH 5 31 rfl (.int .i64 n) (fun _ ⟨_,M⟩=>(by kernel_rfl)) ⟨_,M⟩ ?_; refine xrH 6 32 rfl (.int .i64 1) (fun _ ⟨_,M⟩=>subI .i64 _ _ _ _ _ _ _ rfl rfl rfl (by rw [xw6]; omega) _) ⟨_,M⟩ ?_; refine xrH 7 33 rfl (.pointer (some ⟨R,o,none⟩)) (fun _ ⟨_,M⟩=>(by kernel_rfl)) ⟨_,M⟩ ?_
   refine xrH 8 34 rfl (.pointer (some ⟨R,(o+33),none⟩)) (fun _ ⟨_,M⟩=>(by kernel_rfl)) ⟨_,M⟩ ?_; refine xrH 9 35 rfl (.pointer (some ⟨R,(o+65),none⟩)) (fun _ ⟨_,M⟩=>(by kernel_rfl)) ⟨_,M⟩ ?_
   refine xrH 10 36 rfl (.agg (row .u8 32 b).toArray) (fun _ ⟨_,M⟩=>loadN 23 _ ⟨R,(o+65),none⟩ (row .u8 32 b) rfl rfl (fun _=>by kernel_rfl) (fun _=>by rw [row32]; kernel_rfl) (M.part (mT _ mS) (o+65) _ (flat_part _ [o,1,32,32,32,1,post.length] (by simp [row_length,ho]) 4 (o+65) _ rfl rfl))) ⟨_,M⟩ ?_
   refine doesH (i:=11) none rfl (by kernel_rfl) rfl rfl (storeP (row .u8 32 b) B1 0 23 _ _ rfl rfl rfl (M.thereP mS 0 32 (Nat.le_of_ble_eq_true rfl)) (by kernel_rfl) (row_one .u8 32 b)) ⟨_,M.setAll (row .u8 32 b) (by first | (rw [row32,row32]; done) | (rw [row32]; rfl) | (rw [row32]; done))⟩ ?_
   simp only [Act.put]; replace M:=M.setAll (row .u8 32 b) (by first | (rw [row32,row32]; done) | (rw [row32]; rfl) | (rw [row32]; done)); replace hwz:=xnT hwz (Off.size ((Off.refl [B1] _).setAll (b:=B1) mS 0 (row .u8 32 b))); replace OF:=OF.and1 ((Off.refl [B1] _).setAll (b:=B1) mS 0 (row .u8 32 b)) (.inr (by omega)); generalize w8.setCells B1 0 (row .u8 32 b)=w9 at M hwz OF ⊢
   refine xrH 12 5 rfl (.int .i64 0) (fun _ ⟨_,M⟩=>(by kernel_rfl)) ⟨_,M⟩ ?_
   refine wpAnyH_done (by kernel_rfl) ?_ _
   first | show Exit.then _ _ _ _ _ | show Exit.inBlock _ _ _ _ _
   have hK:=show Hid _ from kyK_last (a:=a) (b:=b) h3.1 h3.2; have hE:=show Hid _ from kyE_last h3.1 h3.2; have c1_:=M.part mS 0 (row .u8 32 b) (by rw [List.drop_zero,List.take_length])
   have hbel:Below w.heap.size w w9:=⟨M.below.os.trans hb0.os.symm,M.below.tape.trans hb0.tape.symm,M.below.output.trans hb0.output.symm,OF.size,fun b hb=>OF.blk b hb (fun h=>by cases h)⟩
   clear M OF
   try clear h3
   try clear h31
   try clear h32
   try clear h2
   go_wp2; refine bodyPost_ret (v:=.tuple #[.agg (row .u8 32 b).toArray,.int .i64 0]) (retCellTmp 4 5 23 ⟨B1,0,none⟩ (row .u8 32 b) _ rfl rfl rfl (fun _=>by kernel_rfl) (fun _=>by rw [row32]; kernel_rfl) c1_) rfl ?_
   exact ⟨by rw [hK.out,hE.out],hbel⟩
 go_upto_region 1 with fail; refine wp_region_held_drew (S:=fun w'=>Mm w0 ((B1,row .u8 32 (fun _=>0))::(R,[pre,[Value.int .i64 e],row .u8 32 s,row .u8 32 a,row .u8 32 b,[Value.int .i64 m],post].flatten)::l) w') (by kernel_rfl) M.drew ?_; clear M; intro M; have hdr:=(Below.refl w1.heap.size w1).drew; replace hwz:=xnT hwz hdr.size; replace OF:=OF.below hdr; clear hdr
 generalize w1.drew=w10 at M hwz OF ⊢; refine xrH 0 6 rfl (.int .i64 n) (fun _ M=>(by kernel_rfl)) M ?_; refine xrH 1 7 rfl (.pointer (some ⟨R,o,none⟩)) (fun _ M=>(by kernel_rfl)) M ?_; refine xrH 2 8 rfl (.pointer (some ⟨R,o,none⟩)) (fun _ M=>(by kernel_rfl)) M ?_; refine xrH 3 9 rfl (.pointer (some ⟨R,o,none⟩)) (fun _ M=>(by kernel_rfl)) M ?_
 refine xrH 4 10 rfl (.int .i64 e) (fun _ M=>load1 3 _ ⟨R,o,none⟩ _ rfl rfl (fun _=>by kernel_rfl) (M.get (mT _ mS) o _ (flat_get _ [o,1,32,32,32,1,post.length] (by simp [row_length,ho]) 1 o _ rfl rfl))) M ?_; refine xrH 5 11 rfl (.bool false) (fun _ M=>gtrI .i64 _ _ _ _ _ _ rfl rfl rfl false (decide_eq_false (by omega)) _) M ?_
 refine xrH 6 12 rfl (.bool false) (fun _ M=>(by kernel_rfl)) M ?_; refine xrH 7 13 rfl (.int .i64 n) (fun _ M=>(by kernel_rfl)) M ?_; refine xrH 8 14 rfl (.pointer (some ⟨R,o,none⟩)) (fun _ M=>(by kernel_rfl)) M ?_; refine xrH 9 15 rfl (.pointer (some ⟨R,o,none⟩)) (fun _ M=>(by kernel_rfl)) M ?_; refine xrH 10 16 rfl (.pointer (some ⟨R,o,none⟩)) (fun _ M=>(by kernel_rfl)) M ?_
 refine xrH 11 17 rfl (.int .i64 e) (fun _ M=>load1 3 _ ⟨R,o,none⟩ _ rfl rfl (fun _=>by kernel_rfl) (M.get (mT _ mS) o _ (flat_get _ [o,1,32,32,32,1,post.length] (by simp [row_length,ho]) 1 o _ rfl rfl))) M ?_; refine xrH 12 18 rfl (.pointer (some ⟨R,o,none⟩)) (fun _ M=>(by kernel_rfl)) M ?_; refine xrH 13 19 rfl (.pointer (some ⟨R,o,none⟩)) (fun _ M=>(by kernel_rfl)) M ?_
 refine xrH 14 20 rfl (.pointer (some ⟨R,(o+97),none⟩)) (fun _ M=>(by kernel_rfl)) M ?_; refine xrH 15 21 rfl (.int .i64 m) (fun _ M=>load1 3 _ ⟨R,(o+97),none⟩ _ rfl rfl (fun _=>by kernel_rfl) (M.get (mT _ mS) (o+97) _ (flat_get _ [o,1,32,32,32,1,post.length] (by simp [row_length,ho]) 5 (o+97) _ rfl rfl))) M ?_
 refine xrH 16 22 rfl (.int .i64 (e-m)) (fun _ M=>subI .i64 _ _ _ _ _ _ _ rfl rfl rfl (by rw [xw6]; omega) _) M ?_; refine xrH 17 23 rfl (.bool true) (fun _ M=>leqI .i64 _ _ _ _ _ _ rfl rfl rfl true (decide_eq_true (by omega)) _) M ?_; refine xrH 18 24 rfl (.bool true) (fun _ M=>(by kernel_rfl)) M ?_
 refine wpAnyH_done (by kernel_rfl) ?_ _
 first | show Exit.then _ _ _ _ _ | show Exit.inBlock _ _ _ _ _
 go_upto_region 2 with fail; refine wp_region_list ?_; refine xpL (.agg (row .u8 32 (fun _=>0)).toArray) ?_; refine skipOpL rfl (storeP (row .u8 32 (fun _=>0)) B1 0 23 _ _ rfl rfl rfl (M.thereP mS 0 32 (Nat.le_of_ble_eq_true rfl)) (by kernel_rfl) (row_one .u8 32 (fun _=>0))) ?_; simp only [Act.put]
 replace M:=M.setAll (row .u8 32 (fun _=>0)) (by first | (rw [row32,row32]; done) | (rw [row32]; rfl) | (rw [row32]; done)); replace hwz:=xnT hwz (Off.size ((Off.refl [B1] _).setAll (b:=B1) mS 0 (row .u8 32 (fun _=>0)))); replace OF:=OF.and1 ((Off.refl [B1] _).setAll (b:=B1) mS 0 (row .u8 32 (fun _=>0))) (.inr (by omega))
 generalize w10.setCells B1 0 (row .u8 32 (fun _=>0))=w11 at M hwz OF ⊢; refine xpL (.int .i64 150) ?_; refine xT ?_; have hK:=show Hid _ from kyK_none (a:=a) (b:=b) (m:=m) h2 h3; have hE:=show Hid _ from kyE_none (m:=m) h2 h3; have c1_:=M.part mS 0 (row .u8 32 (fun _=>0)) (by rw [List.drop_zero,List.take_length])
 have hbel:Below w.heap.size w w11:=⟨M.below.os.trans hb0.os.symm,M.below.tape.trans hb0.tape.symm,M.below.output.trans hb0.output.symm,OF.size,fun b hb=>OF.blk b hb (fun h=>by cases h)⟩
 clear M OF
 try clear h3
 try clear h31
 try clear h32
 try clear h2
 go_wp2; refine bodyPost_ret (v:=.tuple #[.agg (row .u8 32 (fun _=>0)).toArray,.int .i64 150]) (retCellTmp 4 5 23 ⟨B1,0,none⟩ (row .u8 32 (fun _=>0)) _ rfl rfl rfl (fun _=>by kernel_rfl) (fun _=>by rw [row32]; kernel_rfl) c1_) rfl ?_
 exact ⟨by rw [hK.out,hE.out],hbel⟩
theorem pnext_any (w0 w:World) (R:Nat) (l:List (Nat × List Value)) (o:Nat) (pre post:List Value) (ho:pre.length=o) (e:Int) (s a b:Nat→Int) (m:Int) (hg:BGlob w0) (hs:In 256 32 s) (k:Kys) (hk1:k.e=e) (hk2:k.now=s) (M:Mm w0 ((R,pkp pre e s a b m post)::l) w) :
 Calls Tryz.prog 63 #[.pointer (some ⟨R,o,none⟩)] w fun e' w'=>e'=.returned (.tuple #[.agg (row .u8 32 (ynK k)).toArray,.int .i64 (ynE k)])∧Below w.heap.size w w':=by
 replace M:Mm w0 ((R,[pre,[Value.int .i64 e],row .u8 32 s,row .u8 32 a,row .u8 32 b,[Value.int .i64 m],post].flatten)::l) w:=M
 have hb0:=M.below; have hwz:=xnR w.heap.size; have OF:=Off.refl [] w
 go_enter Tryz.func63,Tryz.ntmps63
 go_upto_region 0 with fail; refine wp_region_list ?_; have hlb:=(Below.refl w.heap.size w).alloc (xnR _) (.cells zu8_32 23); refine actL (w':=w.alloc (.cells zu8_32 23)) (.pointer (some ⟨w.heap.size,0,none⟩)) rfl (by kernel_rfl) ?_; simp only [aP,lI,l0,lS]; have hB_:=hwz; replace hwz:=xnT hwz hlb.size; replace OF:=OF.below hlb; replace M:=M.box zu8_32 23 w.heap.size rfl
 clear hlb; generalize w.alloc (.cells zu8_32 23)=w1 at M hwz OF ⊢; generalize eB_:w.heap.size=B1 at M ⊢
 have hB_B1:w.heap.size≤B1:=by rw [← eB_]; exact hB_
 clear hB_ eB_
 replace M:Mm w0 ((B1,row .u8 32 (fun _=>0))::(R,[pre,[Value.int .i64 e],row .u8 32 s,row .u8 32 a,row .u8 32 b,[Value.int .i64 m],post].flatten)::l) w1:=M
 refine xpL (.int .i64 0) ?_; refine xT ?_
 by_cases h1:e≥65535
 · go_upto_region 1 with fail
   refine wp_region_list ?_; refine xpL (.pointer (some ⟨R,o,none⟩)) ?_; replace M:=M.swap; refine xcL (pended_any w0 _ R _ o pre post ho e s a b m true (decide_eq_true h1) M) ?_; rintro e w2 ⟨rfl,l⟩; replace M:=M.call l; replace hwz:=xnT hwz l.size; replace OF:=OF.below l; clear l; refine xeL ?_; refine xT ?_; go_upto_region 2 with fail; refine wp_region_list ?_
   refine xpL (.agg (row .u8 32 (fun _=>0)).toArray) ?_; replace M:=M.swap; refine skipOpL rfl (storeP (row .u8 32 (fun _=>0)) B1 0 23 _ _ rfl rfl rfl (M.thereP mS 0 32 (Nat.le_of_ble_eq_true rfl)) (by kernel_rfl) (row_one .u8 32 (fun _=>0))) ?_; simp only [Act.put]
   replace M:=M.setAll (row .u8 32 (fun _=>0)) (by first | (rw [row32,row32]; done) | (rw [row32]; rfl) | (rw [row32]; done)); replace hwz:=xnT hwz (Off.size ((Off.refl [B1] _).setAll (b:=B1) mS 0 (row .u8 32 (fun _=>0)))); replace OF:=OF.and1 ((Off.refl [B1] _).setAll (b:=B1) mS 0 (row .u8 32 (fun _=>0))) (.inr (by omega))
   generalize w2.setCells B1 0 (row .u8 32 (fun _=>0))=w3 at M hwz OF ⊢; refine xpL (.int .i64 6) ?_; refine xT ?_; have hK:=show Hid _ from (show ynK k=fun _=>0 from if_pos (by rw [hk1]; exact h1)); have hE:=show Hid _ from (show ynE k=6 from if_pos (by rw [hk1]; exact h1)); have c1_:=M.part mS 0 (row .u8 32 (fun _=>0)) (by rw [List.drop_zero,List.take_length])
   have hbel:Below w.heap.size w w3:=⟨M.below.os.trans hb0.os.symm,M.below.tape.trans hb0.tape.symm,M.below.output.trans hb0.output.symm,OF.size,fun b hb=>OF.blk b hb (fun h=>by cases h)⟩
   clear M OF
   try clear h3
   try clear h31
   try clear h32
   try clear h2
   go_wp2; refine bodyPost_ret (v:=.tuple #[.agg (row .u8 32 (fun _=>0)).toArray,.int .i64 6]) (retCellTmp 2 3 23 ⟨B1,0,none⟩ (row .u8 32 (fun _=>0)) _ rfl rfl rfl (fun _=>by kernel_rfl) (fun _=>by rw [row32]; kernel_rfl) c1_) rfl ?_
   exact ⟨by rw [hK.out,hE.out],hbel⟩
 go_upto_region 1 with fail; refine wp_region_list ?_; refine xpL (.pointer (some ⟨R,o,none⟩)) ?_; replace M:=M.swap; refine xcL (pended_any w0 _ R _ o pre post ho e s a b m false (decide_eq_false h1) M) ?_; rintro e w4 ⟨rfl,l⟩; replace M:=M.call l; replace hwz:=xnT hwz l.size; replace OF:=OF.below l; clear l; refine xeL ?_; refine xT ?_; go_upto_region 3 with fail
 refine wp_region_list ?_; refine xpL (.pointer (some ⟨R,o,none⟩)) ?_; refine xpL (.pointer (some ⟨R,o,none⟩)) ?_; refine xpL (.pointer (some ⟨R,(o+1),none⟩)) ?_
 refine xaL (.agg (row .u8 32 s).toArray) (loadN 23 _ ⟨R,(o+1),none⟩ (row .u8 32 s) rfl rfl (fun _=>by kernel_rfl) (fun _=>by rw [row32]; kernel_rfl) (M.part mS (o+1) _ (flat_part _ [o,1,32,32,32,1,post.length] (by simp [row_length,ho]) 2 (o+1) _ rfl rfl))) ?_; refine xcL (klater_any s hs _ (hg.below M.below hg.size)) ?_; rintro e w5 ⟨rfl,l⟩; replace M:=M.call l
 replace hwz:=xnT hwz l.size; replace OF:=OF.below l; clear l; refine xeL ?_; refine xcL (kof_any (ylt s) (ylt_in _) _ (hg.below M.below hg.size)) ?_; rintro e w6 ⟨rfl,l⟩; replace M:=M.call l; replace hwz:=xnT hwz l.size; replace OF:=OF.below l; clear l; refine xeL ?_; replace M:=M.swap
 refine skipOpL rfl (storeP (row .u8 32 (yof (ylt s))) B1 0 23 _ _ rfl rfl rfl (M.thereP mS 0 32 (Nat.le_of_ble_eq_true rfl)) (by kernel_rfl) (row_one .u8 32 (yof (ylt s)))) ?_; simp only [Act.put]; replace M:=M.setAll (row .u8 32 (yof (ylt s))) (by first | (rw [row32,row32]; done) | (rw [row32]; rfl) | (rw [row32]; done))
 replace hwz:=xnT hwz (Off.size ((Off.refl [B1] _).setAll (b:=B1) mS 0 (row .u8 32 (yof (ylt s))))); replace OF:=OF.and1 ((Off.refl [B1] _).setAll (b:=B1) mS 0 (row .u8 32 (yof (ylt s)))) (.inr (by omega)); generalize w6.setCells B1 0 (row .u8 32 (yof (ylt s)))=w7 at M hwz OF ⊢; refine xpL (.int .i64 0) ?_; refine xT ?_
 have hK:=show Hid _ from (show ynK k=yof (ylt s) from (if_neg (by rw [hk1]; exact h1)).trans (by rw [hk2])); have hE:=show Hid _ from (show ynE k=0 from if_neg (by rw [hk1]; exact h1)); have c1_:=M.part mS 0 (row .u8 32 (yof (ylt s))) (by rw [List.drop_zero,List.take_length])
 have hbel:Below w.heap.size w w7:=⟨M.below.os.trans hb0.os.symm,M.below.tape.trans hb0.tape.symm,M.below.output.trans hb0.output.symm,OF.size,fun b hb=>OF.blk b hb (fun h=>by cases h)⟩
 clear M OF
 try clear h3
 try clear h31
 try clear h32
 try clear h2
 go_wp2; refine bodyPost_ret (v:=.tuple #[.agg (row .u8 32 (yof (ylt s))).toArray,.int .i64 0]) (retCellTmp 2 3 23 ⟨B1,0,none⟩ (row .u8 32 (yof (ylt s))) _ rfl rfl rfl (fun _=>by kernel_rfl) (fun _=>by rw [row32]; kernel_rfl) c1_) rfl ?_
 exact ⟨by rw [hK.out,hE.out],hbel⟩
def kcp (pre:List Value) (k:Kys) (post:List Value):List Value:=pkp pre k.e k.now (yof k.now) (ylk k) (ymn k) post
theorem kcp_on {k:Kys} (pre post:List Value) (h:¬ 65535≤k.e):kcp pre (yad k) post=pkp pre (k.e+1) (ylt k.now) (yof (ylt k.now)) (yof k.now) 2 post:=by rw [yad_on h]; rfl
theorem padv_any (w0 w:World) (R:Nat) (l:List (Nat × List Value)) (o:Nat) (pre post:List Value) (ho:pre.length=o) (e:Int) (s a b:Nat→Int) (m:Int) (hg:BGlob w0) (hs:In 256 32 s) (he:0≤e∧e≤65535) (hm:m=1∨m=2) (k:Kys) (hk1:k.e=e) (hc:¬ 65535≤e→kcp pre (yad k) post=pkp pre (e+1) (ylt s) (yof (ylt s)) a 2 post) (hc0:kcp pre k post=pkp pre e s a b m post) (M:Mm w0 ((R,pkp pre e s a b m post)::l) w) :
 Calls Tryz.prog 18 #[.pointer (some ⟨R,o,none⟩)] w fun e' w'=>e'=.returned (.int .i64 (ynE k))∧Mm w0 ((R,kcp pre (yad k) post)::l) w'∧Off [R] w w':=by
 replace M:Mm w0 ((R,[pre,[Value.int .i64 e],row .u8 32 s,row .u8 32 a,row .u8 32 b,[Value.int .i64 m],post].flatten)::l) w:=M
 have hb0:=M.below; have hwz:=xnR w.heap.size; have OF:=Off.refl [R] w
 go_enter Tryz.func18,Tryz.ntmps18
 obtain ⟨he0,he1⟩:=he
 go_upto_region 0 with fail; refine wp_region_list ?_; refine xpL (.int .i64 0) ?_; refine xT ?_
 by_cases h1:e≥65535
 · go_upto_region 1 with fail
   refine wp_region_list ?_; refine xpL (.pointer (some ⟨R,o,none⟩)) ?_; refine xcL (pended_any w0 _ R _ o pre post ho e s a b m true (decide_eq_true h1) M) ?_; rintro e w1 ⟨rfl,l⟩; replace M:=M.call l; replace hwz:=xnT hwz l.size; replace OF:=OF.below l; clear l; refine xeL ?_; refine xT ?_; go_upto_region 2 with fail; refine wp_region_list ?_; refine xpL (.int .i64 6) ?_; refine xT ?_
   have hE:=show Hid _ from (show ynE k=6 from if_pos (by rw [hk1]; exact h1))
   replace M:Mm w0 ((R,kcp pre (yad k) post)::l) w1:=by rw [yad_end (by rw [hk1]; exact h1),hc0]; exact M
   have HS:=show Hid _ from (And.intro M OF); clear M OF hc hc0 hk1; go_wp2; go_ret
   exact ⟨by rw [hE.out]; rfl,HS.out.1,HS.out.2⟩
 go_upto_region 1 with fail; refine wp_region_list ?_; refine xpL (.pointer (some ⟨R,o,none⟩)) ?_; refine xcL (pended_any w0 _ R _ o pre post ho e s a b m false (decide_eq_false h1) M) ?_; rintro e w2 ⟨rfl,l⟩; replace M:=M.call l; replace hwz:=xnT hwz l.size; replace OF:=OF.below l; clear l; refine xeL ?_; refine xT ?_; go_upto_region 3 with fail; refine wp_region_list ?_
 refine xpL (.pointer (some ⟨R,o,none⟩)) ?_; refine xpL (.pointer (some ⟨R,o,none⟩)) ?_; refine xpL (.pointer (some ⟨R,o,none⟩)) ?_; refine xaL (.int .i64 e) (load1 3 _ ⟨R,o,none⟩ _ rfl rfl (fun _=>by kernel_rfl) (M.get mS o _ (flat_get _ [o,1,32,32,32,1,post.length] (by simp [row_length,ho]) 1 o _ rfl rfl))) ?_
 refine xaL (.int .i64 (e+1)) (addI .i64 _ _ _ _ _ _ _ rfl rfl rfl (by rw [xw6]; omega) _) ?_; refine xpL (.pointer (some ⟨R,o,none⟩)) ?_; refine xpL (.pointer (some ⟨R,o,none⟩)) ?_
 refine skipOpL rfl (storeAny (.int .i64 (e+1)) R o 3 _ _ rfl rfl rfl rfl rfl (M.isSome mS o (by rw [flat_len _ [o,1,32,32,32,1,post.length] (by simp [row_length,ho])]; first | decide | (simp only [List.sum_cons,List.sum_nil]; omega))) (M.free mS o (by rw [flat_len _ [o,1,32,32,32,1,post.length] (by simp [row_length,ho])]; first | decide | (simp only [List.sum_cons,List.sum_nil]; omega))) (by kernel_rfl)) ?_
 simp only [Act.put]; replace M:=M.set o (by rw [flat_len _ [o,1,32,32,32,1,post.length] (by simp [row_length,ho])]; first | decide | (simp only [List.sum_cons,List.sum_nil]; omega)) (.int .i64 (e+1))
 rw [flat_set1 _ [o,1,32,32,32,1,post.length] (by simp [row_length,ho]) 1 o _ (.int .i64 (e+1)) rfl rfl] at M
 replace hwz:=xnT hwz (Off.size ((Off.refl [R] _).set (b:=R) mS o (.int .i64 (e+1)))); replace OF:=OF.and1 ((Off.refl [R] _).set (b:=R) mS o (.int .i64 (e+1))) (.inl (by simp)); generalize w2.setCell ⟨R,o,none⟩ (.int .i64 (e+1))=w3 at M hwz OF ⊢
 replace M:Mm w0 ((R,[pre,[Value.int .i64 (e+1)],row .u8 32 s,row .u8 32 a,row .u8 32 b,[Value.int .i64 m],post].flatten)::l) w3:=M
 refine xT ?_; go_upto_region 4 with fail; refine wp_region_list ?_; refine xpL (.pointer (some ⟨R,o,none⟩)) ?_; refine xpL (.pointer (some ⟨R,o,none⟩)) ?_; refine xpL (.pointer (some ⟨R,o,none⟩)) ?_; refine xpL (.pointer (some ⟨R,(o+1),none⟩)) ?_
 refine xaL (.agg (row .u8 32 s).toArray) (loadN 23 _ ⟨R,(o+1),none⟩ (row .u8 32 s) rfl rfl (fun _=>by kernel_rfl) (fun _=>by rw [row32]; kernel_rfl) (M.part mS (o+1) _ (flat_part _ [o,1,32,32,32,1,post.length] (by simp [row_length,ho]) 2 (o+1) _ rfl rfl))) ?_; refine xcL (klater_any s hs _ (hg.below M.below hg.size)) ?_; rintro e w4 ⟨rfl,l⟩; replace M:=M.call l
 replace hwz:=xnT hwz l.size; replace OF:=OF.below l; clear l; refine xeL ?_
 replace M:Mm w0 ((R,[pre,[Value.int .i64 (e+1)],row .u8 32 s,row .u8 32 a,row .u8 32 b,[Value.int .i64 m],post].flatten)::l) w4:=M
 refine xcL (ptake_any w0 _ R _ o pre post ho (e+1) m 2 s a b (ylt s) (ylt_in _) (by omega) hg M) ?_; rintro e w5 ⟨rfl,M',o1⟩; clear M; have M:=M'; clear M'; replace hwz:=xnT hwz (Off.size o1); replace OF:=OF.and1 o1 (.inl (by simp)); clear o1; refine xeL ?_; refine xT ?_; go_upto_region 5 with fail; refine wp_region_list ?_; refine xpL (.int .i64 0) ?_; refine xT ?_
 have hE:=show Hid _ from (show ynE k=0 from if_neg (by rw [hk1]; exact h1))
 replace M:Mm w0 ((R,kcp pre (yad k) post)::l) w5:=by rw [hc h1]; exact M
 have HS:=show Hid _ from (And.intro M OF); clear M OF hc hc0 hk1; go_wp2; go_ret
 exact ⟨by rw [hE.out]; rfl,HS.out.1,HS.out.2⟩
section
section
variable {P:Program} {ops:Array Oper} {Q:Exit→Act→World→Prop} {md:Region.Mode}
theorem wpAnyH_more {S S':World→Prop} (h:∀ w,S' w→S w):∀ (n:Nat) (l:Array Bool) (a:Act) (w:World),wpAnyH P md ops Q S' n l a w→wpAnyH P md ops Q S n l a w
 | 0,_,_,_,H=>H
 | n+1,_,_,_,H=>⟨H.1,fun j hj=>wpOp_mono (fun a' w' h3=>⟨h w' h3.1,wpAnyH_more h n _ a' w' h3.2⟩) (H.2 j hj)⟩
end
end
section
open Go.RowKit Go.MapKept Go.ChangeMaps Go.WideShapes
def gcf (r:Int) (ko ki:Kys) (mc m0 m1:Option Nat):List Value:=[[Value.int .i64 r],kck ko,kck ki,[Value.map mc],[Value.map m0],[Value.map m1]].flatten
theorem kck_len (k:Kys):(kck k).length=98:=by unfold kck pkf; simp [row_length]
theorem gcf_out (r:Int) (ko ki:Kys) (mc m0 m1:Option Nat):gcf r ko ki mc m0 m1=kcp [.int .i64 r] ko (kck ki++[.map mc,.map m0,.map m1]):=by
 unfold gcf kcp pkp kck pkf
 simp
theorem gcf_inn (r:Int) (ko ki:Kys) (mc m0 m1:Option Nat):gcf r ko ki mc m0 m1=kcp (.int .i64 r::kck ko) ki [.map mc,.map m0,.map m1]:=by
 unfold gcf kcp pkp kck pkf
 simp
section
variable {w0 w:World} {R:Nat} {T:List (Nat × List Value)} {r:Int} {ko ki:Kys} {mc m0 m1:Option Nat}
theorem gout_epoch (M:Mm w0 ((R,gcf r ko ki mc m0 m1)::T) w):Calls Tryz.prog 22 #[.pointer (some ⟨R,1,none⟩)] w fun e' w'=>e'=.returned (.int .i64 ko.e)∧Below w.heap.size w w':=by
 rw [gcf_out] at M
 exact pepoch_any w0 w R T 1 _ _ rfl _ _ _ _ _ M
theorem ginn_len (r:Int) (ko:Kys):(Value.int .i64 r::kck ko).length=99:=by rw [List.length_cons,kck_len]
theorem ginn_epoch (M:Mm w0 ((R,gcf r ko ki mc m0 m1)::T) w):Calls Tryz.prog 22 #[.pointer (some ⟨R,99,none⟩)] w fun e' w'=>e'=.returned (.int .i64 ki.e)∧Below w.heap.size w w':=by
 rw [gcf_inn] at M
 exact pepoch_any w0 w R T 99 _ _ (ginn_len r ko) _ _ _ _ _ M
theorem gout_key (hw:KysW ko) (n:Int) (M:Mm w0 ((R,gcf r ko ki mc m0 m1)::T) w):Calls Tryz.prog 23 #[.pointer (some ⟨R,1,none⟩),.int .i64 n] w fun e' w'=>e'=.returned (.tuple #[.agg (row .u8 32 (ykK ko n)).toArray,.int .i64 (ykE ko n)])∧Below w.heap.size w w':=by
 rw [gcf_out] at M
 rw [← kyK_is,← kyE_is]
 exact pkey_any w0 w R T 1 _ _ rfl _ _ _ _ _ ⟨hw.lo,hw.hi⟩ (ymn_or ko) n M
theorem ginn_key (hw:KysW ki) (n:Int) (M:Mm w0 ((R,gcf r ko ki mc m0 m1)::T) w):Calls Tryz.prog 23 #[.pointer (some ⟨R,99,none⟩),.int .i64 n] w fun e' w'=>e'=.returned (.tuple #[.agg (row .u8 32 (ykK ki n)).toArray,.int .i64 (ykE ki n)])∧Below w.heap.size w w':=by
 rw [gcf_inn] at M
 rw [← kyK_is,← kyE_is]
 exact pkey_any w0 w R T 99 _ _ (ginn_len r ko) _ _ _ _ _ ⟨hw.lo,hw.hi⟩ (ymn_or ki) n M
theorem ginn_next (hg:BGlob w0) (hw:KysW ki) (M:Mm w0 ((R,gcf r ko ki mc m0 m1)::T) w):Calls Tryz.prog 63 #[.pointer (some ⟨R,99,none⟩)] w fun e' w'=>e'=.returned (.tuple #[.agg (row .u8 32 (ynK ki)).toArray,.int .i64 (ynE ki)])∧Below w.heap.size w w':=by
 rw [gcf_inn] at M
 exact pnext_any w0 w R T 99 _ _ (ginn_len r ko) _ _ _ _ _ hg hw.now ki rfl rfl M
theorem gout_adv (hg:BGlob w0) (hw:KysW ko) (M:Mm w0 ((R,gcf r ko ki mc m0 m1)::T) w):Calls Tryz.prog 18 #[.pointer (some ⟨R,1,none⟩)] w fun e' w'=>e'=.returned (.int .i64 (ynE ko))∧Mm w0 ((R,gcf r (yad ko) ki mc m0 m1)::T) w'∧Off [R] w w':=by
 rw [gcf_out] at M
 rw [gcf_out]
 exact padv_any w0 w R T 1 _ _ rfl _ _ _ _ _ hg hw.now ⟨hw.lo,hw.hi⟩ (ymn_or ko) ko rfl (kcp_on _ _) rfl M
theorem ginn_adv (hg:BGlob w0) (hw:KysW ki) (M:Mm w0 ((R,gcf r ko ki mc m0 m1)::T) w):Calls Tryz.prog 18 #[.pointer (some ⟨R,99,none⟩)] w fun e' w'=>e'=.returned (.int .i64 (ynE ki))∧Mm w0 ((R,gcf r ko (yad ki) mc m0 m1)::T) w'∧Off [R] w w':=by
 rw [gcf_inn] at M
 rw [gcf_inn]
 exact padv_any w0 w R T 99 _ _ (ginn_len r ko) _ _ _ _ _ hg hw.now ⟨hw.lo,hw.hi⟩ (ymn_or ki) ki rfl (kcp_on _ _) rfl M
end
theorem IM.below {P:Program} {k:TypeId} {w w':World} {b n:Nat} {f:Int→Option Value} (h:IM P k w b n f) (l:Below w.heap.size w w'):IM P k w' b n f:=h.bel l
section
variable {w w':World} {m:Option Nat} {f:Int→Option Value} {t e:TypeId} {o:Oper} {a:Act}
theorem lookNE (h:NM w m f) (ht:Tryz.prog.underlying t=some (.map 3 e)) (z:Value) (hz:∀ w,(zeroValue e).run Tryz.prog w=.ok z w) (x:Int) (hx:i64 x) (u:Value) (hu:(f x).getD z=u) (m' y:Operand) (ho:o.op=.lookup t m' y false) (hm:a.eval m'=.map m) (hy:a.eval y=.int .i64 x) :
 (execOp a.eval o).run Tryz.prog w=.ok (.value u) w:=by
 subst hu
 exact lookN h ht z hz x hx m' y ho hm hy
theorem lookOkNE (h:NM w m f) (ht:Tryz.prog.underlying t=some (.map 3 e)) (z:Value) (hz:∀ w,(zeroValue e).run Tryz.prog w=.ok z w) (x:Int) (hx:i64 x) (u:Value) (hu:(f x).getD z=u) (b:Bool) (hb:(f x).isSome=b) (m' y:Operand) (ho:o.op=.lookup t m' y true) (hm:a.eval m'=.map m) (hy:a.eval y=.int .i64 x) :
 (execOp a.eval o).run Tryz.prog w=.ok (.value (.tuple #[u,.bool b])) w:=by
 subst hu hb
 exact lookOkN h ht z hz x hx m' y ho hm hy
theorem putOpM {t:TypeId} {p q v:Value} (m' y u:Operand) (ho:o.op=.mapUpdate t m' y u) (hm:a.eval m'=p) (hy:a.eval y=q) (hu:a.eval u=v) (hr:(Instr.mapUpdate t p q v).run Tryz.prog w=.ok () w'):(execOp a.eval o).run Tryz.prog w=.ok .skip w':=by
 unfold execOp
 simp only [ho,hm,hy,hu,Sem.run_bind,hr,Result.andThen_ok,Sem.run_pure]
theorem clrOpM {t:TypeId} {p x:Value} (m':Operand) (ho:o.op=.call { callee:=.builtin .clear,args:=#[m'],argTypes:=#[t] }) (hm:a.eval m'=p) (hr:(Builtin.clear_ #[t] 0 #[p]).run Tryz.prog w=.ok x w'):(execOp a.eval o).run Tryz.prog w=.ok (.value x) w':=by
 have hr':(Builtin.clear_ #[t] o.type #[p]).run Tryz.prog w=.ok x w':=hr
 simp [execOp,ho,resolve,invoke,builtin,hm,hr']
theorem eqlMN (m:Option Nat) (t t' k e:TypeId) (x y:Operand) (b:Bool) (hb:m.isNone=b) (ho:o.op=.binOp .eql t x y t') (hx:a.eval x=.map m) (hy:a.eval y=.map none) (h:Tryz.prog.underlying t=some (.map k e)) (w:World):(execOp a.eval o).run Tryz.prog w=.ok (.value (.bool b)) w:=by
 subst hb
 unfold execOp
 simp only [ho,hx,hy,Sem.run_bind,eqGuard_at_map,run_eql_map_nil w t k e m h,Sem.run_pure,Result.andThen_ok]
theorem Mm.boxM {w0 w:World} {l:List (Nat × List Value)} (M:Mm w0 l w):Mm w0 ((w.heap.size,[])::l) (w.alloc (.map #[] 0)) :=
 (M.call ((Below.refl w.heap.size w).alloc (xnR _) _)).addB M.below.size (by simp) fun p hp e=>by
  have:=(M.rows p hp).2.2
  omega
end
theorem Cts.put {w':World} {b:Nat} {f:Int→Option Value} {cnt:Int→Int} {p n:Int} (hp:0≤p∧p≤255) (hI:IM Tryz.prog 3 w' b 257 (iput f p (.int .i64 n))) (hf:∀ x,(f x=none∧(¬ (0≤x∧x≤255)∨cnt x=0))∨((0≤x∧x≤255)∧f x=some (.int .i64 (cnt x)))):Cts w' (some b) (fun q=>if q=p then n else cnt q):=by
 refine ⟨iput f p (.int .i64 n),IM.bound hI ukI 256 fun x hx=>?_,fun x=>?_⟩
 · by_cases e:x=p
   · subst e; omega
   · rw [iput_other e] at hx
     rcases hf x with ⟨h,_⟩ | ⟨h,_⟩
     · rw [h] at hx; cases hx
     · omega
 · by_cases e:x=p
   · subst e
     rw [iput_same]
     exact .inr ⟨hp,by show _=some (Value.int .i64 (if x=x then n else cnt x)); rw [if_pos rfl]⟩
   · rw [iput_other e]
     show (f x=none∧(_∨(if x=p then n else cnt x)=0))∨_∧f x=some (.int .i64 (if x=p then n else cnt x))
     rw [if_neg e]
     exact hf x
theorem Cts.zero {w:World} {m:Option Nat} (h:NM w m (fun _=>none)):Cts w m (fun _=>0):=⟨_,h,fun _=>.inl ⟨rfl,.inr rfl⟩⟩
theorem Mm.aside {w0 w:World} {g t:List (Nat × List Value)} (M:Mm w0 (g++t) w) {x:List (Nat × List Value)} (hx:∀ p∈x,p∈t):∀ p∈x,p.1∉g.map Prod.fst:=fun p hp hm=>M.awayG hx p.1 hm (List.mem_map.2 ⟨p,hp,rfl⟩)
end
section
open Go.RowKit Go.MapKept Go.ChangeMaps Go.WideShapes
def isp (p:Int):Bool:=decide (0≤p∧p≤255)
theorem isp_yes {p:Int} (h:0≤p∧p≤255):isp p=true:=decide_eq_true h
theorem isp_no {p:Int} (h:¬ (0≤p∧p≤255)):isp p=false:=decide_eq_false h
theorem gispath_any (p:Int) (w:World):Calls Tryz.prog 19 #[.int .i64 p] w fun e' w'=>e'=.returned (.bool (isp p))∧Below w.heap.size w w':=by
 have M:=Mm.init w
 go_enter Tryz.func19,Tryz.ntmps19
 by_cases h1:p<0
 · go_upto_region 0 with fail
   refine wp_region_list ?_; refine xpL (.bool false) ?_; refine xT ?_; go_upto_region 1 with fail; refine wp_region_list ?_; refine xpL (.int .i64 p) ?_; refine xaL (.bool false) (geqI .i64 _ _ _ _ _ _ rfl rfl rfl false (decide_eq_false (by omega)) _) ?_; refine xpL (.bool false) ?_
   with_reducible refine skipL ?_ ?_
   · rfl
   simp only [aP,lI,l0,lS]
   with_reducible refine skipL ?_ ?_
   · rfl
   simp only [aP,lI,l0,lS]; refine xpL (.bool false) ?_; refine xpL (.bool false) ?_; refine xT ?_; have HS:=show Hid _ from (And.intro (isp_no (p:=p) (by omega)) (Below.refl w.heap.size w)); clear M; go_wp2; go_ret
   exact ⟨by rw [HS.out.1]; rfl,HS.out.2⟩
 by_cases h2:p≤255
 · go_upto_region 0 with fail
   refine wp_region_list ?_; refine xpL (.bool false) ?_; refine xT ?_; go_upto_region 1 with fail; refine wp_region_list ?_; refine xpL (.int .i64 p) ?_; refine xaL (.bool true) (geqI .i64 _ _ _ _ _ _ rfl rfl rfl true (decide_eq_true (by omega)) _) ?_; refine xpL (.bool true) ?_; refine xpL (.int .i64 p) ?_
   refine xaL (.bool true) (leqI .i64 _ _ _ _ _ _ rfl rfl rfl true (decide_eq_true (by omega)) _) ?_; refine xpL (.bool true) ?_; refine xpL (.bool true) ?_; refine xT ?_; have HS:=show Hid _ from (And.intro (isp_yes (p:=p) (by omega)) (Below.refl w.heap.size w)); clear M; go_wp2; go_ret
   exact ⟨by rw [HS.out.1]; rfl,HS.out.2⟩
 go_upto_region 0 with fail; refine wp_region_list ?_; refine xpL (.bool false) ?_; refine xT ?_; go_upto_region 1 with fail; refine wp_region_list ?_; refine xpL (.int .i64 p) ?_; refine xaL (.bool true) (geqI .i64 _ _ _ _ _ _ rfl rfl rfl true (decide_eq_true (by omega)) _) ?_; refine xpL (.bool true) ?_; refine xpL (.int .i64 p) ?_
 refine xaL (.bool false) (leqI .i64 _ _ _ _ _ _ rfl rfl rfl false (decide_eq_false (by omega)) _) ?_; refine xpL (.bool false) ?_; refine xpL (.bool false) ?_; refine xT ?_; have HS:=show Hid _ from (And.intro (isp_no (p:=p) (by omega)) (Below.refl w.heap.size w)); clear M; go_wp2; go_ret
 exact ⟨by rw [HS.out.1]; rfl,HS.out.2⟩
def ctv (cnt:Int→Int) (p:Int):Int:=if 0≤p∧p≤255 then cnt p else 0
theorem ctv_is {w:World} {m:Option Nat} {cnt:Int→Int} (h:Cts w m cnt):∃ f,NM w m f∧∀ p,(f p).getD (.int .i64 0)=.int .i64 (ctv cnt p):=by
 obtain ⟨f,h1,h2⟩:=h
 refine ⟨f,h1,fun p=>?_⟩
 unfold ctv
 rcases h2 p with ⟨e,h⟩ | ⟨hp,e⟩
 · rw [e]
   rcases h with h | h
   · rw [if_neg h]; rfl
   · rw [h]; split <;> rfl
 · rw [e,if_pos hp]; rfl
theorem gcounter_any (w0 w:World) (R:Nat) (T:List (Nat × List Value)) (r:Int) (ko ki:Kys) (mc m0 m1:Option Nat) (cnt:Int→Int) (C:Cts w mc cnt) (p:Int) (hp:i64 p) (M:Mm w0 ((R,gcf r ko ki mc m0 m1)::T) w) :
 Calls Tryz.prog 20 #[.pointer (some ⟨R,0,none⟩),.int .i64 p] w fun e' w'=>e'=.returned (.int .i64 (ctv cnt p))∧Below w.heap.size w w':=by
 replace M:Mm w0 ((R,[[Value.int .i64 r],kck ko,kck ki,[Value.map mc],[Value.map m0],[Value.map m1]].flatten)::T) w:=M
 have hb0:=M.below; have hwz:=xnR w.heap.size; have OF:=Off.refl [] w
 go_enter Tryz.func20,Tryz.ntmps20
 obtain ⟨f,hf,hfc⟩:=ctv_is C
 clear C; go_upto_region 0 with fail; refine wp_region_list ?_; refine xpL (.int .i64 0) ?_; refine xT ?_; go_upto_region 1 with fail; refine wp_region_list ?_; refine xpL (.pointer (some ⟨R,0,none⟩)) ?_; refine xpL (.pointer (some ⟨R,0,none⟩)) ?_; refine xpL (.pointer (some ⟨R,197,none⟩)) ?_
 refine xaL (.map mc) (load1 59 _ ⟨R,197,none⟩ _ rfl rfl (fun _=>by kernel_rfl) (M.get mS 197 _ (flat_get _ [1,98,98,1,1,1] (by simp [kck_len]) 3 197 _ rfl rfl))) ?_; refine xpL (.int .i64 p) ?_; refine xaL (.int .i64 (ctv cnt p)) (lookNE hf Tryz.underlying59 (.int .i64 0) (fun _=>by kernel_rfl) p hp _ (hfc p) _ _ rfl rfl rfl) ?_; refine xpL (.int .i64 (ctv cnt p)) ?_; refine xT ?_
 have hbel:Below w.heap.size w w:=⟨M.below.os.trans hb0.os.symm,M.below.tape.trans hb0.tape.symm,M.below.output.trans hb0.output.symm,OF.size,fun b hb=>OF.blk b hb (fun h=>by cases h)⟩
 have HS:=show Hid _ from hbel; clear M OF hbel; go_wp2; go_ret
 exact ⟨rfl,HS.out⟩
theorem gset_any (w0 w:World) (R:Nat) (T:List (Nat × List Value)) (r:Int) (ko ki:Kys) (mc m0 m1:Option Nat) (cnt:Int→Int) (C:Cts w mc cnt) (p n:Int) (hp:0≤p∧p≤255) (M:Mm w0 ((R,gcf r ko ki mc m0 m1)::(mbs mc++T)) w) :
 Calls Tryz.prog 21 #[.pointer (some ⟨R,0,none⟩),.int .i64 p,.int .i64 n] w fun e' w'=>∃ mc',e'=.returned (.tuple #[])∧Mm w0 ((R,gcf r ko ki mc' m0 m1)::(mbs mc'++T)) w'∧Cts w' mc' (fun q=>if q=p then n else cnt q)∧Off (R::(mbs mc).map Prod.fst) w w':=by
 have hp6:i64 p:=by unfold i64; omega
 obtain ⟨f,hN,hf⟩:=C
 cases mc with
 | none =>
   replace M:Mm w0 ((R,[[Value.int .i64 r],kck ko,kck ki,[Value.map none],[Value.map m0],[Value.map m1]].flatten)::T) w:=M
   have hb0:=M.below; have hwz:=xnR w.heap.size; have OF:=Off.refl [R] w
   go_enter Tryz.func21,Tryz.ntmps21
   go_upto_region 0 with fail; refine wp_region_list ?_; refine xpL (.pointer (some ⟨R,0,none⟩)) ?_; refine xpL (.pointer (some ⟨R,0,none⟩)) ?_; refine xpL (.pointer (some ⟨R,197,none⟩)) ?_; refine xaL (.map none) (load1 59 _ ⟨R,197,none⟩ _ rfl rfl (fun _=>by kernel_rfl) (M.get mS 197 _ (flat_get _ [1,98,98,1,1,1] (by simp [kck_len]) 3 197 _ rfl rfl))) ?_
   refine xaL (.bool true) (eqlMN none _ _ _ _ _ _ true rfl rfl rfl rfl Tryz.underlying59 _) ?_; refine xT ?_; go_upto_region 1 with fail; refine wp_region_list ?_; refine xpL (.pointer (some ⟨R,0,none⟩)) ?_; have hlb:=(Below.refl w.heap.size w).alloc (xnR _) (.map #[] 0); refine actL (w':=w.alloc (.map #[] 0)) (.map (some w.heap.size)) rfl (by kernel_rfl) ?_; simp only [aP,lI,l0,lS]
   have hB_:=hwz; replace hwz:=xnT hwz hlb.size; replace OF:=OF.below hlb; have I_B1:=IM.made Tryz.prog 3 w; replace M:=M.boxM; clear hlb; generalize w.alloc (.map #[] 0)=w1 at M I_B1 hwz OF ⊢; generalize eB_:w.heap.size=B1 at M I_B1 ⊢
   have hB_B1:w.heap.size≤B1:=by rw [← eB_]; exact hB_
   clear hB_ eB_
   replace M:Mm w0 ((B1,[])::(R,[[Value.int .i64 r],kck ko,kck ki,[Value.map none],[Value.map m0],[Value.map m1]].flatten)::T) w1:=M
   refine xpL (.pointer (some ⟨R,0,none⟩)) ?_; refine xpL (.pointer (some ⟨R,197,none⟩)) ?_; replace M:=M.swap
   refine skipOpL rfl (storeAny (.map (some B1)) R 197 59 _ _ rfl rfl rfl rfl rfl (M.isSome mS 197 (by rw [flat_len _ [1,98,98,1,1,1] (by simp [kck_len])]; decide)) (M.free mS 197 (by rw [flat_len _ [1,98,98,1,1,1] (by simp [kck_len])]; decide)) (by kernel_rfl)) ?_
   simp only [Act.put]; replace M:=M.set 197 (by rw [flat_len _ [1,98,98,1,1,1] (by simp [kck_len])]; decide) (.map (some B1))
   rw [flat_set1 _ [1,98,98,1,1,1] (by simp [kck_len]) 3 197 _ (.map (some B1)) rfl rfl] at M
   replace hwz:=xnT hwz (Off.size ((Off.refl [R] _).set (b:=R) mS 197 (.map (some B1)))); replace OF:=OF.and1 ((Off.refl [R] _).set (b:=R) mS 197 (.map (some B1))) (.inl (by simp)); replace I_B1:=I_B1.off ((Off.refl [R] _).set (b:=R) mS 197 (.map (some B1))) (by rw [List.mem_singleton]; exact (M.neq (i:=0) (j:=1) rfl rfl (by decide)).symm)
   generalize w1.setCell ⟨R,197,none⟩ (.map (some B1))=w2 at M hwz OF I_B1 ⊢
   replace M:Mm w0 ((R,[[Value.int .i64 r],kck ko,kck ki,[Value.map (some B1)],[Value.map m0],[Value.map m1]].flatten)::(B1,[])::T) w2:=M
   refine xT ?_
   have hfn:f=fun _=>none:=funext hN
   subst hfn; go_upto_region 2 with fail; refine wp_region_list ?_; refine xpL (.pointer (some ⟨R,0,none⟩)) ?_; refine xpL (.pointer (some ⟨R,0,none⟩)) ?_; refine xpL (.pointer (some ⟨R,197,none⟩)) ?_; refine xaL (.map (some B1)) (load1 59 _ ⟨R,197,none⟩ _ rfl rfl (fun _=>by kernel_rfl) (M.get mS 197 _ (flat_get _ [1,98,98,1,1,1] (by simp [kck_len]) 3 197 _ rfl rfl))) ?_
   refine xpL (.int .i64 p) ?_; refine xpL (.int .i64 n) ?_; replace M:=M.swap
   obtain ⟨w3,hr_,I2,hg2⟩:=IM.put (I_B1.mono (show 0≤256 by decide)) ukI Tryz.underlying59 (show 256<maxLen by decide) hp6 (.int .i64 n)
   replace M:=Mm.touch M hg2; clear I_B1; refine skipOpL rfl (putOpM _ _ _ rfl rfl rfl rfl hr_) ?_; simp only [Act.put]; have o1:=Off.touched hg2; replace hwz:=xnT hwz (Off.size o1); replace OF:=OF.and1 o1 (.inr (by omega)); clear hr_ hg2 o1; replace M:=M.swap; have C2:=Cts.put (cnt:=cnt) hp I2 hf
   replace M:Mm w0 ((R,gcf r ko ki (some B1) m0 m1)::(mbs (some B1)++T)) w3:=M
   exact ⟨rfl,.tuple #[],by kernel_rfl,some B1,rfl,M,C2,OF⟩
 | some b =>
   replace M:Mm w0 ((R,[[Value.int .i64 r],kck ko,kck ki,[Value.map (some b)],[Value.map m0],[Value.map m1]].flatten)::(b,[])::T) w:=M
   have hb0:=M.below; have hwz:=xnR w.heap.size; have OF:=Off.refl [R,b] w
   go_enter Tryz.func21,Tryz.ntmps21
   go_upto_region 0 with fail; refine wp_region_list ?_; refine xpL (.pointer (some ⟨R,0,none⟩)) ?_; refine xpL (.pointer (some ⟨R,0,none⟩)) ?_; refine xpL (.pointer (some ⟨R,197,none⟩)) ?_; refine xaL (.map (some b)) (load1 59 _ ⟨R,197,none⟩ _ rfl rfl (fun _=>by kernel_rfl) (M.get mS 197 _ (flat_get _ [1,98,98,1,1,1] (by simp [kck_len]) 3 197 _ rfl rfl))) ?_
   refine xaL (.bool false) (eqlMN (some b) _ _ _ _ _ _ false rfl rfl rfl rfl Tryz.underlying59 _) ?_; refine xT ?_; go_upto_region 2 with fail; refine wp_region_list ?_; refine xpL (.pointer (some ⟨R,0,none⟩)) ?_; refine xpL (.pointer (some ⟨R,0,none⟩)) ?_; refine xpL (.pointer (some ⟨R,197,none⟩)) ?_
   refine xaL (.map (some b)) (load1 59 _ ⟨R,197,none⟩ _ rfl rfl (fun _=>by kernel_rfl) (M.get mS 197 _ (flat_get _ [1,98,98,1,1,1] (by simp [kck_len]) 3 197 _ rfl rfl))) ?_; refine xpL (.int .i64 p) ?_; refine xpL (.int .i64 n) ?_; replace M:=M.swap
   obtain ⟨w1,hr_,I2,hg2⟩:=IM.put hN ukI Tryz.underlying59 (show 256<maxLen by decide) hp6 (.int .i64 n)
   replace M:=Mm.touch M hg2; refine skipOpL rfl (putOpM _ _ _ rfl rfl rfl rfl hr_) ?_; simp only [Act.put]; have o1:=Off.touched hg2; replace hwz:=xnT hwz (Off.size o1); replace OF:=OF.and1 o1 (.inl (by simp)); clear hr_ hg2 o1; replace M:=M.swap; have C2:=Cts.put (cnt:=cnt) hp I2 hf
   replace M:Mm w0 ((R,gcf r ko ki (some b) m0 m1)::(mbs (some b)++T)) w1:=M
   exact ⟨rfl,.tuple #[],by kernel_rfl,some b,rfl,M,C2,OF⟩
theorem gispath_is (p:Int) (b:Bool) (hb:isp p=b) (w:World):Calls Tryz.prog 19 #[.int .i64 p] w fun e' w'=>e'=.returned (.bool b)∧Below w.heap.size w w':=by
 subst hb
 exact gispath_any p w
def skE (cnt:Int→Int) (p n:Int):Int:=if ¬ (0≤p∧p≤255)∨n<cnt p∨281474976710656<n then 1 else 0
def skN (cnt:Int→Int) (p n:Int):Int→Int:=if skE cnt p n=0 then fun q=>if q=p then n else cnt q else cnt
theorem skE_err {cnt:Int→Int} {p n:Int} (h:¬ (0≤p∧p≤255)∨n<cnt p∨281474976710656<n):skE cnt p n=1:=if_pos h
theorem skE_ok {cnt:Int→Int} {p n:Int} (h:¬ (¬ (0≤p∧p≤255)∨n<cnt p∨281474976710656<n)):skE cnt p n=0:=if_neg h
theorem skN_err {cnt:Int→Int} {p n:Int} (h:skE cnt p n=1):skN cnt p n=cnt:=if_neg (by rw [h]; decide)
theorem skN_ok {cnt:Int→Int} {p n:Int} (h:skE cnt p n=0):skN cnt p n=fun q=>if q=p then n else cnt q:=if_pos h
theorem ctv_in {cnt:Int→Int} {p:Int} (h:0≤p∧p≤255):ctv cnt p=cnt p:=if_pos h
theorem gskip_any (w0 w:World) (R:Nat) (T:List (Nat × List Value)) (r:Int) (ko ki:Kys) (mc m0 m1:Option Nat) (cnt:Int→Int) (C:Cts w mc cnt) (p n:Int) (hp6:i64 p) (M:Mm w0 ((R,gcf r ko ki mc m0 m1)::(mbs mc++T)) w) :
 Calls Tryz.prog 12 #[.pointer (some ⟨R,0,none⟩),.int .i64 p,.int .i64 n] w fun e' w'=>∃ mc',e'=.returned (.int .i64 (skE cnt p n))∧Mm w0 ((R,gcf r ko ki mc' m0 m1)::(mbs mc'++T)) w'∧Cts w' mc' (skN cnt p n)∧Off (R::(mbs mc).map Prod.fst) w w':=by
 by_cases hq:0≤p∧p≤255
 · by_cases h1:n<cnt p
   · replace M:Mm w0 ((R,[[Value.int .i64 r],kck ko,kck ki,[Value.map mc],[Value.map m0],[Value.map m1]].flatten)::(mbs mc++T)) w:=M
     have hwz:=xnR w.heap.size; have OF:=Off.refl (R::(mbs mc).map Prod.fst) w
     go_enter Tryz.func12,Tryz.ntmps12
     have CT:=C; clear C; go_upto_region 0 with fail; refine wp_region_list ?_; refine xpL (.int .i64 0) ?_; refine xT ?_; go_upto_region 1 with fail; refine wp_region_list ?_; refine xpL (.int .i64 p) ?_; refine xcL (gispath_is p true (isp_yes hq) _) ?_; rintro e w1 ⟨rfl,l⟩; replace M:=M.call l; replace hwz:=xnT hwz l.size; replace OF:=OF.below l; replace CT:=CT.below l; clear l
     refine xeL ?_; refine xpL (.bool false) ?_; refine xpL (.bool false) ?_; refine xpL (.int .i64 n) ?_; refine xpL (.pointer (some ⟨R,0,none⟩)) ?_; refine xpL (.int .i64 p) ?_
     replace M:Mm w0 ((R,[[Value.int .i64 r],kck ko,kck ki,[Value.map mc],[Value.map m0],[Value.map m1]].flatten)::(mbs mc++T)) w1:=M
     refine xcL (gcounter_any w0 _ R _ _ _ _ _ _ _ cnt CT p hp6 M) ?_; rintro e w2 ⟨rfl,l⟩; replace M:=M.call l; replace hwz:=xnT hwz l.size; replace OF:=OF.below l; replace CT:=CT.below l; clear l; refine xeL ?_
     refine xaL (.bool true) (lssI .i64 _ _ _ _ _ _ rfl rfl rfl true (by rw [ctv_in hq]; exact decide_eq_true (by omega)) _) ?_
     refine xpL (.bool true) ?_; refine xpL (.bool true) ?_
     with_reducible refine skipL ?_ ?_
     · rfl
     simp only [aP,lI,l0,lS]
     with_reducible refine skipL ?_ ?_
     · rfl
     simp only [aP,lI,l0,lS]; refine xpL (.bool true) ?_; refine xT ?_; go_upto_region 2 with fail; refine wp_region_list ?_; refine xpL (.int .i64 1) ?_; refine xT ?_; have hE:=show Hid _ from (skE_err (cnt:=cnt) (p:=p) (n:=n) (by omega)); have HS:=show Hid _ from (And.intro M (And.intro CT OF)); clear M CT OF; go_wp2; go_ret
     first | exact ⟨by rw [hE.out]; rfl,mc,HS.out.1,by rw [skN_err hE.out]; exact HS.out.2.1,HS.out.2.2⟩ | exact ⟨mc,by rw [hE.out]; rfl,HS.out.1,by rw [skN_err hE.out]; exact HS.out.2.1,HS.out.2.2⟩
   by_cases h2:281474976710656<n
   · replace M:Mm w0 ((R,[[Value.int .i64 r],kck ko,kck ki,[Value.map mc],[Value.map m0],[Value.map m1]].flatten)::(mbs mc++T)) w:=M
     have hwz:=xnR w.heap.size; have OF:=Off.refl (R::(mbs mc).map Prod.fst) w
     go_enter Tryz.func12,Tryz.ntmps12
     have CT:=C; clear C; go_upto_region 0 with fail; refine wp_region_list ?_; refine xpL (.int .i64 0) ?_; refine xT ?_; go_upto_region 1 with fail; refine wp_region_list ?_; refine xpL (.int .i64 p) ?_; refine xcL (gispath_is p true (isp_yes hq) _) ?_; rintro e w1 ⟨rfl,l⟩; replace M:=M.call l; replace hwz:=xnT hwz l.size; replace OF:=OF.below l; replace CT:=CT.below l; clear l
     refine xeL ?_; refine xpL (.bool false) ?_; refine xpL (.bool false) ?_; refine xpL (.int .i64 n) ?_; refine xpL (.pointer (some ⟨R,0,none⟩)) ?_; refine xpL (.int .i64 p) ?_
     replace M:Mm w0 ((R,[[Value.int .i64 r],kck ko,kck ki,[Value.map mc],[Value.map m0],[Value.map m1]].flatten)::(mbs mc++T)) w1:=M
     refine xcL (gcounter_any w0 _ R _ _ _ _ _ _ _ cnt CT p hp6 M) ?_; rintro e w2 ⟨rfl,l⟩; replace M:=M.call l; replace hwz:=xnT hwz l.size; replace OF:=OF.below l; replace CT:=CT.below l; clear l; refine xeL ?_
     refine xaL (.bool false) (lssI .i64 _ _ _ _ _ _ rfl rfl rfl false (by rw [ctv_in hq]; exact decide_eq_false (by omega)) _) ?_
     refine xpL (.bool false) ?_; refine xpL (.bool false) ?_; refine xpL (.int .i64 n) ?_; refine xaL (.bool true) (gtrI .i64 _ _ _ _ _ _ rfl rfl rfl true (decide_eq_true (by omega)) _) ?_; refine xpL (.bool true) ?_; refine xT ?_; go_upto_region 2 with fail; refine wp_region_list ?_; refine xpL (.int .i64 1) ?_; refine xT ?_
     have hE:=show Hid _ from (skE_err (cnt:=cnt) (p:=p) (n:=n) (by omega)); have HS:=show Hid _ from (And.intro M (And.intro CT OF)); clear M CT OF; go_wp2; go_ret
     first | exact ⟨by rw [hE.out]; rfl,mc,HS.out.1,by rw [skN_err hE.out]; exact HS.out.2.1,HS.out.2.2⟩ | exact ⟨mc,by rw [hE.out]; rfl,HS.out.1,by rw [skN_err hE.out]; exact HS.out.2.1,HS.out.2.2⟩
   replace M:Mm w0 ((R,[[Value.int .i64 r],kck ko,kck ki,[Value.map mc],[Value.map m0],[Value.map m1]].flatten)::(mbs mc++T)) w:=M
   have hwz:=xnR w.heap.size; have OF:=Off.refl (R::(mbs mc).map Prod.fst) w
   go_enter Tryz.func12,Tryz.ntmps12
   have CT:=C; clear C; go_upto_region 0 with fail; refine wp_region_list ?_; refine xpL (.int .i64 0) ?_; refine xT ?_; go_upto_region 1 with fail; refine wp_region_list ?_; refine xpL (.int .i64 p) ?_; refine xcL (gispath_is p true (isp_yes hq) _) ?_; rintro e w1 ⟨rfl,l⟩; replace M:=M.call l; replace hwz:=xnT hwz l.size; replace OF:=OF.below l; replace CT:=CT.below l; clear l
   refine xeL ?_; refine xpL (.bool false) ?_; refine xpL (.bool false) ?_; refine xpL (.int .i64 n) ?_; refine xpL (.pointer (some ⟨R,0,none⟩)) ?_; refine xpL (.int .i64 p) ?_
   replace M:Mm w0 ((R,[[Value.int .i64 r],kck ko,kck ki,[Value.map mc],[Value.map m0],[Value.map m1]].flatten)::(mbs mc++T)) w1:=M
   refine xcL (gcounter_any w0 _ R _ _ _ _ _ _ _ cnt CT p hp6 M) ?_; rintro e w2 ⟨rfl,l⟩; replace M:=M.call l; replace hwz:=xnT hwz l.size; replace OF:=OF.below l; replace CT:=CT.below l; clear l; refine xeL ?_
   refine xaL (.bool false) (lssI .i64 _ _ _ _ _ _ rfl rfl rfl false (by rw [ctv_in hq]; exact decide_eq_false (by omega)) _) ?_
   refine xpL (.bool false) ?_; refine xpL (.bool false) ?_; refine xpL (.int .i64 n) ?_; refine xaL (.bool false) (gtrI .i64 _ _ _ _ _ _ rfl rfl rfl false (decide_eq_false (by omega)) _) ?_; refine xpL (.bool false) ?_; refine xT ?_; go_upto_region 3 with fail; refine wp_region_list ?_; refine xpL (.pointer (some ⟨R,0,none⟩)) ?_; refine xpL (.int .i64 p) ?_; refine xpL (.int .i64 n) ?_
   refine xcL (gset_any w0 _ R T _ _ _ mc _ _ cnt CT p n hq M) ?_; rintro e w3 ⟨mc2,rfl,M',C2,o1⟩; clear M CT; have M:=M'; clear M'; replace OF:=OF.trans o1; replace hwz:=xnT hwz o1.size; clear o1; refine xeL ?_; refine xT ?_; go_upto_region 4 with fail; refine wp_region_list ?_; refine xpL (.int .i64 0) ?_; refine xT ?_
   have hE:=show Hid _ from (skE_ok (cnt:=cnt) (p:=p) (n:=n) (by omega)); have HS:=show Hid _ from (And.intro M (And.intro C2 OF)); clear M C2 OF; go_wp2; go_ret
   first | exact ⟨by rw [hE.out]; rfl,mc2,HS.out.1,by rw [skN_ok hE.out]; exact HS.out.2.1,HS.out.2.2⟩ | exact ⟨mc2,by rw [hE.out]; rfl,HS.out.1,by rw [skN_ok hE.out]; exact HS.out.2.1,HS.out.2.2⟩
 replace M:Mm w0 ((R,[[Value.int .i64 r],kck ko,kck ki,[Value.map mc],[Value.map m0],[Value.map m1]].flatten)::(mbs mc++T)) w:=M
 have hwz:=xnR w.heap.size; have OF:=Off.refl (R::(mbs mc).map Prod.fst) w
 go_enter Tryz.func12,Tryz.ntmps12
 have CT:=C; clear C; go_upto_region 0 with fail; refine wp_region_list ?_; refine xpL (.int .i64 0) ?_; refine xT ?_; go_upto_region 1 with fail; refine wp_region_list ?_; refine xpL (.int .i64 p) ?_; refine xcL (gispath_is p false (isp_no hq) _) ?_; rintro e w1 ⟨rfl,l⟩; replace M:=M.call l; replace hwz:=xnT hwz l.size; replace OF:=OF.below l; replace CT:=CT.below l; clear l
 refine xeL ?_; refine xpL (.bool true) ?_; refine xpL (.bool true) ?_
 with_reducible refine skipL ?_ ?_
 · rfl
 simp only [aP,lI,l0,lS]
 with_reducible refine skipL ?_ ?_
 · rfl
 simp only [aP,lI,l0,lS]
 with_reducible refine skipL ?_ ?_
 · rfl
 simp only [aP,lI,l0,lS]
 with_reducible refine skipL ?_ ?_
 · rfl
 simp only [aP,lI,l0,lS]
 with_reducible refine skipL ?_ ?_
 · rfl
 simp only [aP,lI,l0,lS]; refine xpL (.bool true) ?_; refine xpL (.bool true) ?_
 with_reducible refine skipL ?_ ?_
 · rfl
 simp only [aP,lI,l0,lS]
 with_reducible refine skipL ?_ ?_
 · rfl
 simp only [aP,lI,l0,lS]; refine xpL (.bool true) ?_; refine xT ?_; go_upto_region 2 with fail; refine wp_region_list ?_; refine xpL (.int .i64 1) ?_; refine xT ?_; have hE:=show Hid _ from (skE_err (cnt:=cnt) (p:=p) (n:=n) (by omega)); have HS:=show Hid _ from (And.intro M (And.intro CT OF)); clear M CT OF; go_wp2; go_ret
 first | exact ⟨by rw [hE.out]; rfl,mc,HS.out.1,by rw [skN_err hE.out]; exact HS.out.2.1,HS.out.2.2⟩ | exact ⟨mc,by rw [hE.out]; rfl,HS.out.1,by rw [skN_err hE.out]; exact HS.out.2.1,HS.out.2.2⟩
def avN (ko:Kys) (cnt:Int→Int):Int→Int:=if 65535≤ko.e then cnt else fun _=>0
theorem gadvance_any (w0 w:World) (R:Nat) (T:List (Nat × List Value)) (r:Int) (ko ki:Kys) (mc m0 m1:Option Nat) (hgb:BGlob w0) (hko:KysW ko) (cnt:Int→Int) (C:Cts w mc cnt) (M:Mm w0 ((R,gcf r ko ki mc m0 m1)::(mbs mc++T)) w) :
 Calls Tryz.prog 11 #[.pointer (some ⟨R,0,none⟩)] w fun e' w'=>e'=.returned (.int .i64 (ynE ko))∧Mm w0 ((R,gcf r (yad ko) ki mc m0 m1)::(mbs mc++T)) w'∧Cts w' mc (avN ko cnt)∧Off (R::(mbs mc).map Prod.fst) w w':=by
 replace M:Mm w0 ((R,[[Value.int .i64 r],kck ko,kck ki,[Value.map mc],[Value.map m0],[Value.map m1]].flatten)::(mbs mc++T)) w:=M
 have hwz:=xnR w.heap.size; have OF:=Off.refl (R::(mbs mc).map Prod.fst) w
 go_enter Tryz.func11,Tryz.ntmps11
 have CT:=C; clear C; go_upto_region 0 with fail; refine wp_region_list ?_; refine xpL (.int .i64 0) ?_; refine xT ?_; go_upto_region 1 with fail; refine wp_region_list ?_; refine xpL (.pointer (some ⟨R,0,none⟩)) ?_; refine xpL (.pointer (some ⟨R,0,none⟩)) ?_; refine xpL (.pointer (some ⟨R,1,none⟩)) ?_
 replace M:Mm w0 ((R,[[Value.int .i64 r],kck ko,kck ki,[Value.map mc],[Value.map m0],[Value.map m1]].flatten)::(mbs mc++T)) w:=M
 refine xcL (gout_adv hgb hko M) ?_; rintro e w1 ⟨rfl,M',o1⟩; clear M; have M:=M'; clear M'; replace hwz:=xnT hwz (Off.size o1); replace OF:=OF.and1 o1 (.inl (by simp)); replace CT:=CT.off o1 (M.aside (g:=[_]) (fun p hp=>List.mem_append_left _ hp)); clear o1; refine xeL ?_; refine xpL (.int .i64 (ynE ko)) ?_; refine xT ?_
 by_cases h1:65535≤ko.e
 · have hE:ynE ko=6:=if_pos h1
   go_upto_region 2 with fail; refine wp_region_list ?_; refine xpL (.int .i64 (ynE ko)) ?_; refine xaL (.bool true) (neqI .i64 _ _ _ _ _ _ rfl rfl rfl true (by rw [hE]; rfl) _) ?_; refine xT ?_; go_upto_region 3 with fail; refine wp_region_list ?_; refine xpL (.int .i64 (ynE ko)) ?_; refine xpL (.int .i64 (ynE ko)) ?_; refine xT ?_; have HS:=show Hid _ from (And.intro M (And.intro CT OF))
   clear M CT OF; go_wp2; go_ret
   exact ⟨rfl,HS.out.1,by unfold avN; rw [if_pos (by omega)]; exact HS.out.2.1,HS.out.2.2⟩
 have hE:ynE ko=0:=if_neg h1
 go_upto_region 2 with fail; refine wp_region_list ?_; refine xpL (.int .i64 (ynE ko)) ?_; refine xaL (.bool false) (neqI .i64 _ _ _ _ _ _ rfl rfl rfl false (by rw [hE]; rfl) _) ?_; refine xT ?_; go_upto_region 4 with fail; refine wp_region_list ?_; refine xpL (.pointer (some ⟨R,0,none⟩)) ?_; refine xpL (.pointer (some ⟨R,0,none⟩)) ?_; refine xpL (.pointer (some ⟨R,197,none⟩)) ?_
 refine xaL (.map mc) (load1 59 _ ⟨R,197,none⟩ _ rfl rfl (fun _=>by kernel_rfl) (M.get mS 197 _ (flat_get _ [1,98,98,1,1,1] (by simp [kck_len]) 3 197 _ rfl rfl))) ?_
 obtain ⟨f_,hN_,_⟩:=CT
 obtain ⟨w2,hr_,hN2,hg2⟩:=NM.clr hN_ Tryz.underlying59 0
 replace M:=((M.perm List.perm_middle.symm).touchN hg2).perm List.perm_middle; refine actL (w':=w2) (.tuple #[]) rfl (clrOpM _ rfl rfl hr_) ?_; simp only [Act.put]; replace OF:=OF.trans ((Off.touchedN hg2).mono (fun _ hx=>mT _ hx)); have CT:=Cts.zero hN2; clear hr_ hN_ hN2 hg2; refine xT ?_; go_upto_region 5 with fail; refine wp_region_list ?_; refine xpL (.int .i64 0) ?_; refine xT ?_
 have hE2:=show Hid _ from hE; clear hE; have HS:=show Hid _ from (And.intro M (And.intro CT OF)); clear M CT OF; go_wp2; go_ret
 exact ⟨by rw [hE2.out]; rfl,HS.out.1,by unfold avN; rw [if_neg (by omega)]; exact HS.out.2.1,HS.out.2.2⟩
end
end Go.Proofs.YtknodedhcdpbiaaGreatDoor
