/- Texts of Se Sf Xp Ve Vk Vx Vy Vz, joined. -/
import Derived.Test.YtknodedhcdpbiaaGreatDoorP9GuardEnds
set_option maxRecDepth 20000
set_option maxHeartbeats 64000000
namespace Go.Proofs.YtknodedhcdpbiaaGreatDoor
open Go.RowKit
section
open Go.RowKit Go.MapKept Go.ChangeMaps Go.WideShapes
def isp (p:Int):Bool:=decide (0≤p∧p≤255)
theorem isp_yes {p:Int} (h:0≤p∧p≤255):isp p=true:=decide_eq_true h
theorem isp_no {p:Int} (h:¬ (0≤p∧p≤255)):isp p=false:=decide_eq_false h
theorem gispath_any (p:Int) (w:World):Calls Tryz.prog 19 #[.int .i64 p] w fun e' w'=>e'=.returned (.bool (isp p))∧Below w.heap.size w w':=by
 have M:=Mm.init w
 go_enter Tryz.func19,Tryz.ntmps19
 by_cases h1:p<0
 · go_upto_region 0 with fail
   refine wp_region_list ?_; refine xpL (.bool false) ?_; refine xT ?_; go_upto_region 1 with fail; refine wp_region_list ?_; refine xpL (.int .i64 p) ?_; refine xaL (.bool false) (geqI .i64 _ _ _ _ _ _ rfl rfl rfl false (decide_eq_false (by omega)) _) ?_; refine xpL (.bool false) ?_
   with_reducible refine skipL ?_ ?_
   · rfl
   simp only [aP,lI,l0,lS]
   with_reducible refine skipL ?_ ?_
   · rfl
   simp only [aP,lI,l0,lS]; refine xpL (.bool false) ?_; refine xpL (.bool false) ?_; refine xT ?_; have HS:=show Hid _ from (And.intro (isp_no (p:=p) (by omega)) (Below.refl w.heap.size w)); clear M; go_wp2; go_ret
   exact ⟨by rw [HS.out.1]; rfl,HS.out.2⟩
 by_cases h2:p≤255
 · go_upto_region 0 with fail
   refine wp_region_list ?_; refine xpL (.bool false) ?_; refine xT ?_; go_upto_region 1 with fail; refine wp_region_list ?_; refine xpL (.int .i64 p) ?_; refine xaL (.bool true) (geqI .i64 _ _ _ _ _ _ rfl rfl rfl true (decide_eq_true (by omega)) _) ?_; refine xpL (.bool true) ?_; refine xpL (.int .i64 p) ?_
   refine xaL (.bool true) (leqI .i64 _ _ _ _ _ _ rfl rfl rfl true (decide_eq_true (by omega)) _) ?_; refine xpL (.bool true) ?_; refine xpL (.bool true) ?_; refine xT ?_; have HS:=show Hid _ from (And.intro (isp_yes (p:=p) (by omega)) (Below.refl w.heap.size w)); clear M; go_wp2; go_ret
   exact ⟨by rw [HS.out.1]; rfl,HS.out.2⟩
 go_upto_region 0 with fail; refine wp_region_list ?_; refine xpL (.bool false) ?_; refine xT ?_; go_upto_region 1 with fail; refine wp_region_list ?_; refine xpL (.int .i64 p) ?_; refine xaL (.bool true) (geqI .i64 _ _ _ _ _ _ rfl rfl rfl true (decide_eq_true (by omega)) _) ?_; refine xpL (.bool true) ?_; refine xpL (.int .i64 p) ?_
 refine xaL (.bool false) (leqI .i64 _ _ _ _ _ _ rfl rfl rfl false (decide_eq_false (by omega)) _) ?_; refine xpL (.bool false) ?_; refine xpL (.bool false) ?_; refine xT ?_; have HS:=show Hid _ from (And.intro (isp_no (p:=p) (by omega)) (Below.refl w.heap.size w)); clear M; go_wp2; go_ret
 exact ⟨by rw [HS.out.1]; rfl,HS.out.2⟩
def ctv (cnt:Int→Int) (p:Int):Int:=if 0≤p∧p≤255 then cnt p else 0
theorem ctv_is {w:World} {m:Option Nat} {cnt:Int→Int} (h:Cts w m cnt):∃ f,NM w m f∧∀ p,(f p).getD (.int .i64 0)=.int .i64 (ctv cnt p):=by
 obtain ⟨f,h1,h2⟩:=h
 refine ⟨f,h1,fun p=>?_⟩
 unfold ctv
 rcases h2 p with ⟨e,h⟩ | ⟨hp,e⟩
 · rw [e]
   rcases h with h | h
   · rw [if_neg h]; rfl
   · rw [h]; split <;> rfl
 · rw [e,if_pos hp]; rfl
theorem gcounter_any (w0 w:World) (R:Nat) (T:List (Nat × List Value)) (r:Int) (ko ki:Kys) (mc m0 m1:Option Nat) (cnt:Int→Int) (C:Cts w mc cnt) (p:Int) (hp:i64 p) (M:Mm w0 ((R,gcf r ko ki mc m0 m1)::T) w) :
 Calls Tryz.prog 20 #[.pointer (some ⟨R,0,none⟩),.int .i64 p] w fun e' w'=>e'=.returned (.int .i64 (ctv cnt p))∧Below w.heap.size w w':=by
 replace M:Mm w0 ((R,[[Value.int .i64 r],kck ko,kck ki,[Value.map mc],[Value.map m0],[Value.map m1]].flatten)::T) w:=M
 have hb0:=M.below; have hwz:=xnR w.heap.size; have OF:=Off.refl [] w
 go_enter Tryz.func20,Tryz.ntmps20
 obtain ⟨f,hf,hfc⟩:=ctv_is C
 clear C; go_upto_region 0 with fail; refine wp_region_list ?_; refine xpL (.int .i64 0) ?_; refine xT ?_; go_upto_region 1 with fail; refine wp_region_list ?_; refine xpL (.pointer (some ⟨R,0,none⟩)) ?_; refine xpL (.pointer (some ⟨R,0,none⟩)) ?_; refine xpL (.pointer (some ⟨R,197,none⟩)) ?_
 refine xaL (.map mc) (load1 59 _ ⟨R,197,none⟩ _ rfl rfl (fun _=>by kernel_rfl) (M.get mS 197 _ (flat_get _ [1,98,98,1,1,1] (by simp [kck_len]) 3 197 _ rfl rfl))) ?_; refine xpL (.int .i64 p) ?_; refine xaL (.int .i64 (ctv cnt p)) (lookNE hf Tryz.underlying59 (.int .i64 0) (fun _=>by kernel_rfl) p hp _ (hfc p) _ _ rfl rfl rfl) ?_; refine xpL (.int .i64 (ctv cnt p)) ?_; refine xT ?_
 have hbel:Below w.heap.size w w:=⟨M.below.os.trans hb0.os.symm,M.below.tape.trans hb0.tape.symm,M.below.output.trans hb0.output.symm,OF.size,fun b hb=>OF.blk b hb (fun h=>by cases h)⟩
 have HS:=show Hid _ from hbel; clear M OF hbel; go_wp2; go_ret
 exact ⟨rfl,HS.out⟩
theorem gset_any (w0 w:World) (R:Nat) (T:List (Nat × List Value)) (r:Int) (ko ki:Kys) (mc m0 m1:Option Nat) (cnt:Int→Int) (C:Cts w mc cnt) (p n:Int) (hp:0≤p∧p≤255) (M:Mm w0 ((R,gcf r ko ki mc m0 m1)::(mbs mc++T)) w) :
 Calls Tryz.prog 21 #[.pointer (some ⟨R,0,none⟩),.int .i64 p,.int .i64 n] w fun e' w'=>∃ mc',e'=.returned (.tuple #[])∧Mm w0 ((R,gcf r ko ki mc' m0 m1)::(mbs mc'++T)) w'∧Cts w' mc' (fun q=>if q=p then n else cnt q)∧Off (R::(mbs mc).map Prod.fst) w w':=by
 have hp6:i64 p:=by unfold i64; omega
 obtain ⟨f,hN,hf⟩:=C
 cases mc with
 | none =>
   replace M:Mm w0 ((R,[[Value.int .i64 r],kck ko,kck ki,[Value.map none],[Value.map m0],[Value.map m1]].flatten)::T) w:=M
   have hb0:=M.below; have hwz:=xnR w.heap.size; have OF:=Off.refl [R] w
   go_enter Tryz.func21,Tryz.ntmps21
   go_upto_region 0 with fail; refine wp_region_list ?_; refine xpL (.pointer (some ⟨R,0,none⟩)) ?_; refine xpL (.pointer (some ⟨R,0,none⟩)) ?_; refine xpL (.pointer (some ⟨R,197,none⟩)) ?_; refine xaL (.map none) (load1 59 _ ⟨R,197,none⟩ _ rfl rfl (fun _=>by kernel_rfl) (M.get mS 197 _ (flat_get _ [1,98,98,1,1,1] (by simp [kck_len]) 3 197 _ rfl rfl))) ?_
   refine xaL (.bool true) (eqlMN none _ _ _ _ _ _ true rfl rfl rfl rfl Tryz.underlying59 _) ?_; refine xT ?_; go_upto_region 1 with fail; refine wp_region_list ?_; refine xpL (.pointer (some ⟨R,0,none⟩)) ?_; have hlb:=(Below.refl w.heap.size w).alloc (xnR _) (.map #[] 0); refine actL (w':=w.alloc (.map #[] 0)) (.map (some w.heap.size)) rfl (by kernel_rfl) ?_; simp only [aP,lI,l0,lS]
   have hB_:=hwz; replace hwz:=xnT hwz hlb.size; replace OF:=OF.below hlb; have I_B1:=IM.made Tryz.prog 3 w; replace M:=M.boxM; clear hlb; generalize w.alloc (.map #[] 0)=w1 at M I_B1 hwz OF ⊢; generalize eB_:w.heap.size=B1 at M I_B1 ⊢
   have hB_B1:w.heap.size≤B1:=by rw [← eB_]; exact hB_
   clear hB_ eB_
   replace M:Mm w0 ((B1,[])::(R,[[Value.int .i64 r],kck ko,kck ki,[Value.map none],[Value.map m0],[Value.map m1]].flatten)::T) w1:=M
   refine xpL (.pointer (some ⟨R,0,none⟩)) ?_; refine xpL (.pointer (some ⟨R,197,none⟩)) ?_; replace M:=M.swap
   refine skipOpL rfl (storeAny (.map (some B1)) R 197 59 _ _ rfl rfl rfl rfl rfl (M.isSome mS 197 (by rw [flat_len _ [1,98,98,1,1,1] (by simp [kck_len])]; decide)) (M.free mS 197 (by rw [flat_len _ [1,98,98,1,1,1] (by simp [kck_len])]; decide)) (by kernel_rfl)) ?_
   simp only [Act.put]; replace M:=M.set 197 (by rw [flat_len _ [1,98,98,1,1,1] (by simp [kck_len])]; decide) (.map (some B1))
   rw [flat_set1 _ [1,98,98,1,1,1] (by simp [kck_len]) 3 197 _ (.map (some B1)) rfl rfl] at M
   replace hwz:=xnT hwz (Off.size ((Off.refl [R] _).set (b:=R) mS 197 (.map (some B1)))); replace OF:=OF.and1 ((Off.refl [R] _).set (b:=R) mS 197 (.map (some B1))) (.inl (by simp)); replace I_B1:=I_B1.off ((Off.refl [R] _).set (b:=R) mS 197 (.map (some B1))) (by rw [List.mem_singleton]; exact (M.neq (i:=0) (j:=1) rfl rfl (by decide)).symm)
   generalize w1.setCell ⟨R,197,none⟩ (.map (some B1))=w2 at M hwz OF I_B1 ⊢
   replace M:Mm w0 ((R,[[Value.int .i64 r],kck ko,kck ki,[Value.map (some B1)],[Value.map m0],[Value.map m1]].flatten)::(B1,[])::T) w2:=M
   refine xT ?_
   have hfn:f=fun _=>none:=funext hN
   subst hfn; go_upto_region 2 with fail; refine wp_region_list ?_; refine xpL (.pointer (some ⟨R,0,none⟩)) ?_; refine xpL (.pointer (some ⟨R,0,none⟩)) ?_; refine xpL (.pointer (some ⟨R,197,none⟩)) ?_; refine xaL (.map (some B1)) (load1 59 _ ⟨R,197,none⟩ _ rfl rfl (fun _=>by kernel_rfl) (M.get mS 197 _ (flat_get _ [1,98,98,1,1,1] (by simp [kck_len]) 3 197 _ rfl rfl))) ?_
   refine xpL (.int .i64 p) ?_; refine xpL (.int .i64 n) ?_; replace M:=M.swap
   obtain ⟨w3,hr_,I2,hg2⟩:=IM.put (I_B1.mono (show 0≤256 by decide)) ukI Tryz.underlying59 (show 256<maxLen by decide) hp6 (.int .i64 n)
   replace M:=Mm.touch M hg2; clear I_B1; refine skipOpL rfl (putOpM _ _ _ rfl rfl rfl rfl hr_) ?_; simp only [Act.put]; have o1:=Off.touched hg2; replace hwz:=xnT hwz (Off.size o1); replace OF:=OF.and1 o1 (.inr (by omega)); clear hr_ hg2 o1; replace M:=M.swap; have C2:=Cts.put (cnt:=cnt) hp I2 hf
   replace M:Mm w0 ((R,gcf r ko ki (some B1) m0 m1)::(mbs (some B1)++T)) w3:=M
   exact ⟨rfl,.tuple #[],by kernel_rfl,some B1,rfl,M,C2,OF⟩
 | some b =>
   replace M:Mm w0 ((R,[[Value.int .i64 r],kck ko,kck ki,[Value.map (some b)],[Value.map m0],[Value.map m1]].flatten)::(b,[])::T) w:=M
   have hb0:=M.below; have hwz:=xnR w.heap.size; have OF:=Off.refl [R,b] w
   go_enter Tryz.func21,Tryz.ntmps21
   go_upto_region 0 with fail; refine wp_region_list ?_; refine xpL (.pointer (some ⟨R,0,none⟩)) ?_; refine xpL (.pointer (some ⟨R,0,none⟩)) ?_; refine xpL (.pointer (some ⟨R,197,none⟩)) ?_; refine xaL (.map (some b)) (load1 59 _ ⟨R,197,none⟩ _ rfl rfl (fun _=>by kernel_rfl) (M.get mS 197 _ (flat_get _ [1,98,98,1,1,1] (by simp [kck_len]) 3 197 _ rfl rfl))) ?_
   refine xaL (.bool false) (eqlMN (some b) _ _ _ _ _ _ false rfl rfl rfl rfl Tryz.underlying59 _) ?_; refine xT ?_; go_upto_region 2 with fail; refine wp_region_list ?_; refine xpL (.pointer (some ⟨R,0,none⟩)) ?_; refine xpL (.pointer (some ⟨R,0,none⟩)) ?_; refine xpL (.pointer (some ⟨R,197,none⟩)) ?_
   refine xaL (.map (some b)) (load1 59 _ ⟨R,197,none⟩ _ rfl rfl (fun _=>by kernel_rfl) (M.get mS 197 _ (flat_get _ [1,98,98,1,1,1] (by simp [kck_len]) 3 197 _ rfl rfl))) ?_; refine xpL (.int .i64 p) ?_; refine xpL (.int .i64 n) ?_; replace M:=M.swap
   obtain ⟨w1,hr_,I2,hg2⟩:=IM.put hN ukI Tryz.underlying59 (show 256<maxLen by decide) hp6 (.int .i64 n)
   replace M:=Mm.touch M hg2; refine skipOpL rfl (putOpM _ _ _ rfl rfl rfl rfl hr_) ?_; simp only [Act.put]; have o1:=Off.touched hg2; replace hwz:=xnT hwz (Off.size o1); replace OF:=OF.and1 o1 (.inl (by simp)); clear hr_ hg2 o1; replace M:=M.swap; have C2:=Cts.put (cnt:=cnt) hp I2 hf
   replace M:Mm w0 ((R,gcf r ko ki (some b) m0 m1)::(mbs (some b)++T)) w1:=M
   exact ⟨rfl,.tuple #[],by kernel_rfl,some b,rfl,M,C2,OF⟩
theorem gispath_is (p:Int) (b:Bool) (hb:isp p=b) (w:World):Calls Tryz.prog 19 #[.int .i64 p] w fun e' w'=>e'=.returned (.bool b)∧Below w.heap.size w w':=by
 subst hb
 exact gispath_any p w
def skE (cnt:Int→Int) (p n:Int):Int:=if ¬ (0≤p∧p≤255)∨n<cnt p∨281474976710656<n then 1 else 0
def skN (cnt:Int→Int) (p n:Int):Int→Int:=if skE cnt p n=0 then fun q=>if q=p then n else cnt q else cnt
theorem skE_err {cnt:Int→Int} {p n:Int} (h:¬ (0≤p∧p≤255)∨n<cnt p∨281474976710656<n):skE cnt p n=1:=if_pos h
theorem skE_ok {cnt:Int→Int} {p n:Int} (h:¬ (¬ (0≤p∧p≤255)∨n<cnt p∨281474976710656<n)):skE cnt p n=0:=if_neg h
theorem skN_err {cnt:Int→Int} {p n:Int} (h:skE cnt p n=1):skN cnt p n=cnt:=if_neg (by rw [h]; decide)
theorem skN_ok {cnt:Int→Int} {p n:Int} (h:skE cnt p n=0):skN cnt p n=fun q=>if q=p then n else cnt q:=if_pos h
theorem ctv_in {cnt:Int→Int} {p:Int} (h:0≤p∧p≤255):ctv cnt p=cnt p:=if_pos h
theorem gskip_any (w0 w:World) (R:Nat) (T:List (Nat × List Value)) (r:Int) (ko ki:Kys) (mc m0 m1:Option Nat) (cnt:Int→Int) (C:Cts w mc cnt) (p n:Int) (hp6:i64 p) (M:Mm w0 ((R,gcf r ko ki mc m0 m1)::(mbs mc++T)) w) :
 Calls Tryz.prog 12 #[.pointer (some ⟨R,0,none⟩),.int .i64 p,.int .i64 n] w fun e' w'=>∃ mc',e'=.returned (.int .i64 (skE cnt p n))∧Mm w0 ((R,gcf r ko ki mc' m0 m1)::(mbs mc'++T)) w'∧Cts w' mc' (skN cnt p n)∧Off (R::(mbs mc).map Prod.fst) w w':=by
 by_cases hq:0≤p∧p≤255
 · by_cases h1:n<cnt p
   · replace M:Mm w0 ((R,[[Value.int .i64 r],kck ko,kck ki,[Value.map mc],[Value.map m0],[Value.map m1]].flatten)::(mbs mc++T)) w:=M
     have hwz:=xnR w.heap.size; have OF:=Off.refl (R::(mbs mc).map Prod.fst) w
     go_enter Tryz.func12,Tryz.ntmps12
     have CT:=C; clear C; go_upto_region 0 with fail; refine wp_region_list ?_; refine xpL (.int .i64 0) ?_; refine xT ?_; go_upto_region 1 with fail; refine wp_region_list ?_; refine xpL (.int .i64 p) ?_; refine xcL (gispath_is p true (isp_yes hq) _) ?_; rintro e w1 ⟨rfl,l⟩; replace M:=M.call l; replace hwz:=xnT hwz l.size; replace OF:=OF.below l; replace CT:=CT.below l; clear l
     refine xeL ?_; refine xpL (.bool false) ?_; refine xpL (.bool false) ?_; refine xpL (.int .i64 n) ?_; refine xpL (.pointer (some ⟨R,0,none⟩)) ?_; refine xpL (.int .i64 p) ?_
     replace M:Mm w0 ((R,[[Value.int .i64 r],kck ko,kck ki,[Value.map mc],[Value.map m0],[Value.map m1]].flatten)::(mbs mc++T)) w1:=M
     refine xcL (gcounter_any w0 _ R _ _ _ _ _ _ _ cnt CT p hp6 M) ?_; rintro e w2 ⟨rfl,l⟩; replace M:=M.call l; replace hwz:=xnT hwz l.size; replace OF:=OF.below l; replace CT:=CT.below l; clear l; refine xeL ?_
     refine xaL (.bool true) (lssI .i64 _ _ _ _ _ _ rfl rfl rfl true (by rw [ctv_in hq]; exact decide_eq_true (by omega)) _) ?_
     refine xpL (.bool true) ?_; refine xpL (.bool true) ?_
     with_reducible refine skipL ?_ ?_
     · rfl
     simp only [aP,lI,l0,lS]
     with_reducible refine skipL ?_ ?_
     · rfl
     simp only [aP,lI,l0,lS]; refine xpL (.bool true) ?_; refine xT ?_; go_upto_region 2 with fail; refine wp_region_list ?_; refine xpL (.int .i64 1) ?_; refine xT ?_; have hE:=show Hid _ from (skE_err (cnt:=cnt) (p:=p) (n:=n) (by omega)); have HS:=show Hid _ from (And.intro M (And.intro CT OF)); clear M CT OF; go_wp2; go_ret
     first | exact ⟨by rw [hE.out]; rfl,mc,HS.out.1,by rw [skN_err hE.out]; exact HS.out.2.1,HS.out.2.2⟩ | exact ⟨mc,by rw [hE.out]; rfl,HS.out.1,by rw [skN_err hE.out]; exact HS.out.2.1,HS.out.2.2⟩
   by_cases h2:281474976710656<n
   · replace M:Mm w0 ((R,[[Value.int .i64 r],kck ko,kck ki,[Value.map mc],[Value.map m0],[Value.map m1]].flatten)::(mbs mc++T)) w:=M
     have hwz:=xnR w.heap.size; have OF:=Off.refl (R::(mbs mc).map Prod.fst) w
     go_enter Tryz.func12,Tryz.ntmps12
     have CT:=C; clear C; go_upto_region 0 with fail; refine wp_region_list ?_; refine xpL (.int .i64 0) ?_; refine xT ?_; go_upto_region 1 with fail; refine wp_region_list ?_; refine xpL (.int .i64 p) ?_; refine xcL (gispath_is p true (isp_yes hq) _) ?_; rintro e w1 ⟨rfl,l⟩; replace M:=M.call l; replace hwz:=xnT hwz l.size; replace OF:=OF.below l; replace CT:=CT.below l; clear l
     refine xeL ?_; refine xpL (.bool false) ?_; refine xpL (.bool false) ?_; refine xpL (.int .i64 n) ?_; refine xpL (.pointer (some ⟨R,0,none⟩)) ?_; refine xpL (.int .i64 p) ?_
     replace M:Mm w0 ((R,[[Value.int .i64 r],kck ko,kck ki,[Value.map mc],[Value.map m0],[Value.map m1]].flatten)::(mbs mc++T)) w1:=M
     refine xcL (gcounter_any w0 _ R _ _ _ _ _ _ _ cnt CT p hp6 M) ?_; rintro e w2 ⟨rfl,l⟩; replace M:=M.call l; replace hwz:=xnT hwz l.size; replace OF:=OF.below l; replace CT:=CT.below l; clear l; refine xeL ?_
     refine xaL (.bool false) (lssI .i64 _ _ _ _ _ _ rfl rfl rfl false (by rw [ctv_in hq]; exact decide_eq_false (by omega)) _) ?_
     refine xpL (.bool false) ?_; refine xpL (.bool false) ?_; refine xpL (.int .i64 n) ?_; refine xaL (.bool true) (gtrI .i64 _ _ _ _ _ _ rfl rfl rfl true (decide_eq_true (by omega)) _) ?_; refine xpL (.bool true) ?_; refine xT ?_; go_upto_region 2 with fail; refine wp_region_list ?_; refine xpL (.int .i64 1) ?_; refine xT ?_
     have hE:=show Hid _ from (skE_err (cnt:=cnt) (p:=p) (n:=n) (by omega)); have HS:=show Hid _ from (And.intro M (And.intro CT OF)); clear M CT OF; go_wp2; go_ret
     first | exact ⟨by rw [hE.out]; rfl,mc,HS.out.1,by rw [skN_err hE.out]; exact HS.out.2.1,HS.out.2.2⟩ | exact ⟨mc,by rw [hE.out]; rfl,HS.out.1,by rw [skN_err hE.out]; exact HS.out.2.1,HS.out.2.2⟩
   replace M:Mm w0 ((R,[[Value.int .i64 r],kck ko,kck ki,[Value.map mc],[Value.map m0],[Value.map m1]].flatten)::(mbs mc++T)) w:=M
   have hwz:=xnR w.heap.size; have OF:=Off.refl (R::(mbs mc).map Prod.fst) w
   go_enter Tryz.func12,Tryz.ntmps12
   have CT:=C; clear C; go_upto_region 0 with fail; refine wp_region_list ?_; refine xpL (.int .i64 0) ?_; refine xT ?_; go_upto_region 1 with fail; refine wp_region_list ?_; refine xpL (.int .i64 p) ?_; refine xcL (gispath_is p true (isp_yes hq) _) ?_; rintro e w1 ⟨rfl,l⟩; replace M:=M.call l; replace hwz:=xnT hwz l.size; replace OF:=OF.below l; replace CT:=CT.below l; clear l
   refine xeL ?_; refine xpL (.bool false) ?_; refine xpL (.bool false) ?_; refine xpL (.int .i64 n) ?_; refine xpL (.pointer (some ⟨R,0,none⟩)) ?_; refine xpL (.int .i64 p) ?_
   replace M:Mm w0 ((R,[[Value.int .i64 r],kck ko,kck ki,[Value.map mc],[Value.map m0],[Value.map m1]].flatten)::(mbs mc++T)) w1:=M
   refine xcL (gcounter_any w0 _ R _ _ _ _ _ _ _ cnt CT p hp6 M) ?_; rintro e w2 ⟨rfl,l⟩; replace M:=M.call l; replace hwz:=xnT hwz l.size; replace OF:=OF.below l; replace CT:=CT.below l; clear l; refine xeL ?_
   refine xaL (.bool false) (lssI .i64 _ _ _ _ _ _ rfl rfl rfl false (by rw [ctv_in hq]; exact decide_eq_false (by omega)) _) ?_
   refine xpL (.bool false) ?_; refine xpL (.bool false) ?_; refine xpL (.int .i64 n) ?_; refine xaL (.bool false) (gtrI .i64 _ _ _ _ _ _ rfl rfl rfl false (decide_eq_false (by omega)) _) ?_; refine xpL (.bool false) ?_; refine xT ?_; go_upto_region 3 with fail; refine wp_region_list ?_; refine xpL (.pointer (some ⟨R,0,none⟩)) ?_; refine xpL (.int .i64 p) ?_; refine xpL (.int .i64 n) ?_
   refine xcL (gset_any w0 _ R T _ _ _ mc _ _ cnt CT p n hq M) ?_; rintro e w3 ⟨mc2,rfl,M',C2,o1⟩; clear M CT; have M:=M'; clear M'; replace OF:=OF.trans o1; replace hwz:=xnT hwz o1.size; clear o1; refine xeL ?_; refine xT ?_; go_upto_region 4 with fail; refine wp_region_list ?_; refine xpL (.int .i64 0) ?_; refine xT ?_
   have hE:=show Hid _ from (skE_ok (cnt:=cnt) (p:=p) (n:=n) (by omega)); have HS:=show Hid _ from (And.intro M (And.intro C2 OF)); clear M C2 OF; go_wp2; go_ret
   first | exact ⟨by rw [hE.out]; rfl,mc2,HS.out.1,by rw [skN_ok hE.out]; exact HS.out.2.1,HS.out.2.2⟩ | exact ⟨mc2,by rw [hE.out]; rfl,HS.out.1,by rw [skN_ok hE.out]; exact HS.out.2.1,HS.out.2.2⟩
 replace M:Mm w0 ((R,[[Value.int .i64 r],kck ko,kck ki,[Value.map mc],[Value.map m0],[Value.map m1]].flatten)::(mbs mc++T)) w:=M
 have hwz:=xnR w.heap.size; have OF:=Off.refl (R::(mbs mc).map Prod.fst) w
 go_enter Tryz.func12,Tryz.ntmps12
 have CT:=C; clear C; go_upto_region 0 with fail; refine wp_region_list ?_; refine xpL (.int .i64 0) ?_; refine xT ?_; go_upto_region 1 with fail; refine wp_region_list ?_; refine xpL (.int .i64 p) ?_; refine xcL (gispath_is p false (isp_no hq) _) ?_; rintro e w1 ⟨rfl,l⟩; replace M:=M.call l; replace hwz:=xnT hwz l.size; replace OF:=OF.below l; replace CT:=CT.below l; clear l
 refine xeL ?_; refine xpL (.bool true) ?_; refine xpL (.bool true) ?_
 with_reducible refine skipL ?_ ?_
 · rfl
 simp only [aP,lI,l0,lS]
 with_reducible refine skipL ?_ ?_
 · rfl
 simp only [aP,lI,l0,lS]
 with_reducible refine skipL ?_ ?_
 · rfl
 simp only [aP,lI,l0,lS]
 with_reducible refine skipL ?_ ?_
 · rfl
 simp only [aP,lI,l0,lS]
 with_reducible refine skipL ?_ ?_
 · rfl
 simp only [aP,lI,l0,lS]; refine xpL (.bool true) ?_; refine xpL (.bool true) ?_
 with_reducible refine skipL ?_ ?_
 · rfl
 simp only [aP,lI,l0,lS]
 with_reducible refine skipL ?_ ?_
 · rfl
 simp only [aP,lI,l0,lS]; refine xpL (.bool true) ?_; refine xT ?_; go_upto_region 2 with fail; refine wp_region_list ?_; refine xpL (.int .i64 1) ?_; refine xT ?_; have hE:=show Hid _ from (skE_err (cnt:=cnt) (p:=p) (n:=n) (by omega)); have HS:=show Hid _ from (And.intro M (And.intro CT OF)); clear M CT OF; go_wp2; go_ret
 first | exact ⟨by rw [hE.out]; rfl,mc,HS.out.1,by rw [skN_err hE.out]; exact HS.out.2.1,HS.out.2.2⟩ | exact ⟨mc,by rw [hE.out]; rfl,HS.out.1,by rw [skN_err hE.out]; exact HS.out.2.1,HS.out.2.2⟩
def avN (ko:Kys) (cnt:Int→Int):Int→Int:=if 65535≤ko.e then cnt else fun _=>0
theorem gadvance_any (w0 w:World) (R:Nat) (T:List (Nat × List Value)) (r:Int) (ko ki:Kys) (mc m0 m1:Option Nat) (hgb:BGlob w0) (hko:KysW ko) (cnt:Int→Int) (C:Cts w mc cnt) (M:Mm w0 ((R,gcf r ko ki mc m0 m1)::(mbs mc++T)) w) :
 Calls Tryz.prog 11 #[.pointer (some ⟨R,0,none⟩)] w fun e' w'=>e'=.returned (.int .i64 (ynE ko))∧Mm w0 ((R,gcf r (yad ko) ki mc m0 m1)::(mbs mc++T)) w'∧Cts w' mc (avN ko cnt)∧Off (R::(mbs mc).map Prod.fst) w w':=by
 replace M:Mm w0 ((R,[[Value.int .i64 r],kck ko,kck ki,[Value.map mc],[Value.map m0],[Value.map m1]].flatten)::(mbs mc++T)) w:=M
 have hwz:=xnR w.heap.size; have OF:=Off.refl (R::(mbs mc).map Prod.fst) w
 go_enter Tryz.func11,Tryz.ntmps11
 have CT:=C; clear C; go_upto_region 0 with fail; refine wp_region_list ?_; refine xpL (.int .i64 0) ?_; refine xT ?_; go_upto_region 1 with fail; refine wp_region_list ?_; refine xpL (.pointer (some ⟨R,0,none⟩)) ?_; refine xpL (.pointer (some ⟨R,0,none⟩)) ?_; refine xpL (.pointer (some ⟨R,1,none⟩)) ?_
 replace M:Mm w0 ((R,[[Value.int .i64 r],kck ko,kck ki,[Value.map mc],[Value.map m0],[Value.map m1]].flatten)::(mbs mc++T)) w:=M
 refine xcL (gout_adv hgb hko M) ?_; rintro e w1 ⟨rfl,M',o1⟩; clear M; have M:=M'; clear M'; replace hwz:=xnT hwz (Off.size o1); replace OF:=OF.and1 o1 (.inl (by simp)); replace CT:=CT.off o1 (M.aside (g:=[_]) (fun p hp=>List.mem_append_left _ hp)); clear o1; refine xeL ?_; refine xpL (.int .i64 (ynE ko)) ?_; refine xT ?_
 by_cases h1:65535≤ko.e
 · have hE:ynE ko=6:=if_pos h1
   go_upto_region 2 with fail; refine wp_region_list ?_; refine xpL (.int .i64 (ynE ko)) ?_; refine xaL (.bool true) (neqI .i64 _ _ _ _ _ _ rfl rfl rfl true (by rw [hE]; rfl) _) ?_; refine xT ?_; go_upto_region 3 with fail; refine wp_region_list ?_; refine xpL (.int .i64 (ynE ko)) ?_; refine xpL (.int .i64 (ynE ko)) ?_; refine xT ?_; have HS:=show Hid _ from (And.intro M (And.intro CT OF))
   clear M CT OF; go_wp2; go_ret
   exact ⟨rfl,HS.out.1,by unfold avN; rw [if_pos (by omega)]; exact HS.out.2.1,HS.out.2.2⟩
 have hE:ynE ko=0:=if_neg h1
 go_upto_region 2 with fail; refine wp_region_list ?_; refine xpL (.int .i64 (ynE ko)) ?_; refine xaL (.bool false) (neqI .i64 _ _ _ _ _ _ rfl rfl rfl false (by rw [hE]; rfl) _) ?_; refine xT ?_; go_upto_region 4 with fail; refine wp_region_list ?_; refine xpL (.pointer (some ⟨R,0,none⟩)) ?_; refine xpL (.pointer (some ⟨R,0,none⟩)) ?_; refine xpL (.pointer (some ⟨R,197,none⟩)) ?_
 refine xaL (.map mc) (load1 59 _ ⟨R,197,none⟩ _ rfl rfl (fun _=>by kernel_rfl) (M.get mS 197 _ (flat_get _ [1,98,98,1,1,1] (by simp [kck_len]) 3 197 _ rfl rfl))) ?_
 obtain ⟨f_,hN_,_⟩:=CT
 obtain ⟨w2,hr_,hN2,hg2⟩:=NM.clr hN_ Tryz.underlying59 0
 replace M:=((M.perm List.perm_middle.symm).touchN hg2).perm List.perm_middle; refine actL (w':=w2) (.tuple #[]) rfl (clrOpM _ rfl rfl hr_) ?_; simp only [Act.put]; replace OF:=OF.trans ((Off.touchedN hg2).mono (fun _ hx=>mT _ hx)); have CT:=Cts.zero hN2; clear hr_ hN_ hN2 hg2; refine xT ?_; go_upto_region 5 with fail; refine wp_region_list ?_; refine xpL (.int .i64 0) ?_; refine xT ?_
 have hE2:=show Hid _ from hE; clear hE; have HS:=show Hid _ from (And.intro M (And.intro CT OF)); clear M CT OF; go_wp2; go_ret
 exact ⟨by rw [hE2.out]; rfl,HS.out.1,by unfold avN; rw [if_neg (by omega)]; exact HS.out.2.1,HS.out.2.2⟩
end
section
open Go.RowKit Go.MapKept Go.ChangeMaps Go.WideShapes
def gnw (role:Int) (a b:Nat→Int) (mine its:Int):List Value:=gcf (if role=1 then 1 else 0) (yat a mine) (yat b its) none none none
theorem gat_any (w0 w:World) (l:List (Nat × List Value)) (role:Int) (a b:Nat→Int) (mine its:Int) (hgb:BGlob w0) (ha:In 256 32 a) (hb:In 256 32 b) (M:Mm w0 l w) :
 Calls Tryz.prog 16 #[.int .i64 role,.agg (row .u8 32 a).toArray,.agg (row .u8 32 b).toArray,.int .i64 mine,.int .i64 its] w fun e' w'=>∃ R,e'=.returned (.pointer (some ⟨R,0,none⟩))∧w.heap.size≤R∧Mm w0 ((R,gnw role a b mine its)::l) w'∧Below w.heap.size w w':=by
 have hb0:=M.below; have hwz:=xnR w.heap.size; have OF:=Off.refl [] w
 go_enter Tryz.func16,Tryz.ntmps16
 by_cases hr:role=1
 · go_upto_region 0 with fail
   refine wp_region_list ?_; have hlb:=(Below.refl w.heap.size w).alloc (xnR _) (.cells (row .u8 32 a).toArray 23); refine actL (w':=w.alloc (.cells (row .u8 32 a).toArray 23)) (.pointer (some ⟨w.heap.size,0,none⟩)) rfl (by kernel_rfl) ?_; simp only [aP,lI,l0,lS]; have hB_:=hwz; replace hwz:=xnT hwz hlb.size; replace OF:=OF.below hlb
   replace M:=M.box (row .u8 32 a).toArray 23 w.heap.size rfl; clear hlb; generalize w.alloc (.cells (row .u8 32 a).toArray 23)=w1 at M hwz OF ⊢; generalize eB_:w.heap.size=B1 at M ⊢
   have hB_B1:w.heap.size≤B1:=by rw [← eB_]; exact hB_
   clear hB_ eB_
   replace M:Mm w0 ((B1,row .u8 32 a)::l) w1:=M
   have hlb:=(Below.refl w1.heap.size w1).alloc (xnR _) (.cells (row .u8 32 b).toArray 23); refine actL (w':=w1.alloc (.cells (row .u8 32 b).toArray 23)) (.pointer (some ⟨w1.heap.size,0,none⟩)) rfl (by kernel_rfl) ?_; simp only [aP,lI,l0,lS]; have hB_:=hwz; replace hwz:=xnT hwz hlb.size; replace OF:=OF.below hlb; replace M:=M.box (row .u8 32 b).toArray 23 w1.heap.size rfl
   clear hlb; generalize w1.alloc (.cells (row .u8 32 b).toArray 23)=w2 at M hwz OF ⊢; generalize eB_:w1.heap.size=B2 at M ⊢
   have hB_B2:w.heap.size≤B2:=by rw [← eB_]; exact hB_
   clear hB_ eB_
   replace M:Mm w0 ((B2,row .u8 32 b)::(B1,row .u8 32 a)::l) w2:=M
   refine xpL (.pointer none) ?_; refine xT ?_; go_upto_region 1 with fail; refine wp_region_list ?_; refine xpL (.int .i64 role) ?_; refine xaL (.bool false) (neqI .i64 _ _ _ _ _ _ rfl rfl rfl false (by rw [hr]; rfl) _) ?_; refine xT ?_; go_upto_region 3 with fail; refine wp_region_held_drew (S:=fun w'=>Mm w0 ((B2,row .u8 32 b)::(B1,row .u8 32 a)::l) w') (by kernel_rfl) M.drew ?_
   clear M; intro M; have hdr:=(Below.refl w2.heap.size w2).drew; replace hwz:=xnT hwz hdr.size; replace OF:=OF.below hdr; clear hdr; generalize w2.drew=w3 at M hwz OF ⊢; refine xrH 0 13 rfl (.int .i64 role) (fun _ M=>(by kernel_rfl)) M ?_
   refine xrH 1 14 rfl (.agg (row .u8 32 a).toArray) (fun _ M=>loadN 23 _ ⟨B1,0,none⟩ (row .u8 32 a) rfl rfl (fun _=>by kernel_rfl) (fun _=>by rw [row32]; kernel_rfl) (M.part (mT _ mS) 0 _ (by rw [List.drop_zero,List.take_length]))) M ?_; refine xrH 2 15 rfl (.int .i64 mine) (fun _ M=>(by kernel_rfl)) M ?_
   refine xrH 6 19 rfl (.agg (row .u8 32 b).toArray) (fun _ M=>loadN 23 _ ⟨B2,0,none⟩ (row .u8 32 b) rfl rfl (fun _=>by kernel_rfl) (fun _=>by rw [row32]; kernel_rfl) (M.part mS 0 _ (by rw [List.drop_zero,List.take_length]))) M ?_; refine xrH 7 20 rfl (.int .i64 its) (fun _ M=>(by kernel_rfl)) M ?_
   refine callH (i:=3) (some 16) rfl (by kernel_rfl) rfl rfl (fun _=>by kernel_rfl) (kat_any w0 _ _ a mine hgb ha M) ?_; rintro e w4 ⟨R2,rfl,hB_R2,M',l1⟩; clear M; have M:=M'; clear M'; replace hB_R2:=xnT hwz hB_R2; replace hwz:=xnT hwz l1.size; replace OF:=OF.below l1; clear l1
   refine ⟨_,rfl,M.tail,?_⟩
   simp only [aP,lI,l0,lS]; refine wpAnyH_more (S':=fun w'=>Mm w0 ((R2,kck (yat a mine))::(B2,row .u8 32 b)::(B1,row .u8 32 a)::l) w') (fun _ h=>h.tail) _ _ _ _ ?_; refine xrH 4 17 rfl (.pointer (some ⟨R2,0,none⟩)) (fun _ M=>(by kernel_rfl)) M ?_
   refine xrH 5 18 rfl (.agg (kck (yat a mine)).toArray) (fun _ M=>loadN 58 _ ⟨R2,0,none⟩ (kck (yat a mine)) rfl rfl (fun _=>by kernel_rfl) (fun _=>by rw [kck_len]; kernel_rfl) (M.rangeAt mS)) M ?_; refine callH (i:=8) (some 21) rfl (by kernel_rfl) rfl rfl (fun _=>by kernel_rfl) (kat_any w0 _ _ b its hgb hb M) ?_; rintro e w5 ⟨R3,rfl,hB_R3,M',l1⟩; clear M; have M:=M'; clear M'
   replace hB_R3:=xnT hwz hB_R3; replace hwz:=xnT hwz l1.size; replace OF:=OF.below l1; clear l1
   refine ⟨_,rfl,M.tail,?_⟩
   simp only [aP,lI,l0,lS]; refine wpAnyH_more (S':=fun w'=>Mm w0 ((R3,kck (yat b its))::(R2,kck (yat a mine))::(B2,row .u8 32 b)::(B1,row .u8 32 a)::l) w') (fun _ h=>h.tail) _ _ _ _ ?_; refine xrH 9 22 rfl (.pointer (some ⟨R3,0,none⟩)) (fun _ M=>(by kernel_rfl)) M ?_
   refine xrH 10 23 rfl (.agg (kck (yat b its)).toArray) (fun _ M=>loadN 58 _ ⟨R3,0,none⟩ (kck (yat b its)) rfl rfl (fun _=>by kernel_rfl) (fun _=>by rw [kck_len]; kernel_rfl) (M.rangeAt mS)) M ?_; refine xrH 11 24 rfl (.agg ([[Value.int .i64 role],kck (yat a mine),kck (yat b its),[Value.map none],[Value.map none],[Value.map none]].flatten).toArray) (fun _ M=>(by kernel_rfl)) M ?_
   have MH:=M; have hlb:=(Below.refl w5.heap.size w5).alloc (xnR _) (.cells ([[Value.int .i64 role],kck (yat a mine),kck (yat b its),[Value.map none],[Value.map none],[Value.map none]].flatten).toArray 64); replace MH:=MH.call hlb; refine onlyH (i:=12) (some 25) rfl (.pointer (some ⟨w5.heap.size,0,none⟩)) (by kernel_rfl) rfl rfl (by kernel_rfl) MH ?_; simp only [aP,lI,l0,lS]
   have hB_:=hwz; replace hwz:=xnT hwz hlb.size; replace OF:=OF.below hlb; replace M:=M.box ([[Value.int .i64 role],kck (yat a mine),kck (yat b its),[Value.map none],[Value.map none],[Value.map none]].flatten).toArray 64 w5.heap.size rfl; clear hlb
   generalize w5.alloc (.cells ([[Value.int .i64 role],kck (yat a mine),kck (yat b its),[Value.map none],[Value.map none],[Value.map none]].flatten).toArray 64)=w6 at M MH hwz OF ⊢; generalize eB_:w5.heap.size=B6 at M ⊢
   have hB_B6:w.heap.size≤B6:=by rw [← eB_]; exact hB_
   clear hB_ eB_
   replace M:Mm w0 ((B6,[[Value.int .i64 role],kck (yat a mine),kck (yat b its),[Value.map none],[Value.map none],[Value.map none]].flatten)::(R3,kck (yat b its))::(R2,kck (yat a mine))::(B2,row .u8 32 b)::(B1,row .u8 32 a)::l) w6:=M
   refine xrH 13 10 rfl (.pointer (some ⟨B6,0,none⟩)) (fun _ MH=>(by kernel_rfl)) MH ?_
   refine wpAnyH_done (by kernel_rfl) ?_ _
   first | show Exit.then _ _ _ _ _ | show Exit.inBlock _ _ _ _ _
   replace M:Mm w0 ((B6,[[Value.int .i64 role],kck (yat a mine),kck (yat b its),[Value.map none],[Value.map none],[Value.map none]].flatten)::l) w6:=M.sub _ (List.cons_sublist_cons.2 (List.Sublist.cons _ (List.Sublist.cons _ (List.Sublist.cons _ (List.Sublist.cons _ (List.Sublist.refl _))))))
   have hbel:Below w.heap.size w w6:=⟨M.below.os.trans hb0.os.symm,M.below.tape.trans hb0.tape.symm,M.below.output.trans hb0.output.symm,OF.size,fun b hb=>OF.blk b hb (fun h=>by cases h)⟩
   replace M:Mm w0 ((B6,gnw role a b mine its)::l) w6:=by
    unfold gnw
    rw [if_pos hr]
    rw [hr] at M
    exact M
   have HS:=show Hid _ from (And.intro hB_B6 (And.intro M hbel)); clear M OF hbel hB_B6; go_wp2; go_ret
   exact ⟨B6,rfl,HS.out⟩
 go_upto_region 0 with fail; refine wp_region_list ?_; have hlb:=(Below.refl w.heap.size w).alloc (xnR _) (.cells (row .u8 32 a).toArray 23); refine actL (w':=w.alloc (.cells (row .u8 32 a).toArray 23)) (.pointer (some ⟨w.heap.size,0,none⟩)) rfl (by kernel_rfl) ?_; simp only [aP,lI,l0,lS]; have hB_:=hwz; replace hwz:=xnT hwz hlb.size; replace OF:=OF.below hlb
 replace M:=M.box (row .u8 32 a).toArray 23 w.heap.size rfl; clear hlb; generalize w.alloc (.cells (row .u8 32 a).toArray 23)=w7 at M hwz OF ⊢; generalize eB_:w.heap.size=B7 at M ⊢
 have hB_B7:w.heap.size≤B7:=by rw [← eB_]; exact hB_
 clear hB_ eB_
 replace M:Mm w0 ((B7,row .u8 32 a)::l) w7:=M
 have hlb:=(Below.refl w7.heap.size w7).alloc (xnR _) (.cells (row .u8 32 b).toArray 23); refine actL (w':=w7.alloc (.cells (row .u8 32 b).toArray 23)) (.pointer (some ⟨w7.heap.size,0,none⟩)) rfl (by kernel_rfl) ?_; simp only [aP,lI,l0,lS]; have hB_:=hwz; replace hwz:=xnT hwz hlb.size; replace OF:=OF.below hlb; replace M:=M.box (row .u8 32 b).toArray 23 w7.heap.size rfl; clear hlb
 generalize w7.alloc (.cells (row .u8 32 b).toArray 23)=w8 at M hwz OF ⊢; generalize eB_:w7.heap.size=B8 at M ⊢
 have hB_B8:w.heap.size≤B8:=by rw [← eB_]; exact hB_
 clear hB_ eB_
 replace M:Mm w0 ((B8,row .u8 32 b)::(B7,row .u8 32 a)::l) w8:=M
 refine xpL (.pointer none) ?_; refine xT ?_; go_upto_region 1 with fail; refine wp_region_list ?_; refine xpL (.int .i64 role) ?_; refine xaL (.bool true) (neqI .i64 _ _ _ _ _ _ rfl rfl rfl true (by rw [bne_iff_ne]; exact hr) _) ?_; refine xT ?_; go_upto_region 2 with fail; refine wp_region_list ?_; refine xpL (.int .i64 0) ?_; refine xT ?_; go_upto_region 3 with fail
 refine wp_region_held_drew (S:=fun w'=>Mm w0 ((B8,row .u8 32 b)::(B7,row .u8 32 a)::l) w') (by kernel_rfl) M.drew ?_; clear M; intro M; have hdr:=(Below.refl w8.heap.size w8).drew; replace hwz:=xnT hwz hdr.size; replace OF:=OF.below hdr; clear hdr; generalize w8.drew=w9 at M hwz OF ⊢; refine xrH 0 13 rfl (.int .i64 0) (fun _ M=>(by kernel_rfl)) M ?_
 refine xrH 1 14 rfl (.agg (row .u8 32 a).toArray) (fun _ M=>loadN 23 _ ⟨B7,0,none⟩ (row .u8 32 a) rfl rfl (fun _=>by kernel_rfl) (fun _=>by rw [row32]; kernel_rfl) (M.part (mT _ mS) 0 _ (by rw [List.drop_zero,List.take_length]))) M ?_; refine xrH 2 15 rfl (.int .i64 mine) (fun _ M=>(by kernel_rfl)) M ?_
 refine xrH 6 19 rfl (.agg (row .u8 32 b).toArray) (fun _ M=>loadN 23 _ ⟨B8,0,none⟩ (row .u8 32 b) rfl rfl (fun _=>by kernel_rfl) (fun _=>by rw [row32]; kernel_rfl) (M.part mS 0 _ (by rw [List.drop_zero,List.take_length]))) M ?_; refine xrH 7 20 rfl (.int .i64 its) (fun _ M=>(by kernel_rfl)) M ?_
 refine callH (i:=3) (some 16) rfl (by kernel_rfl) rfl rfl (fun _=>by kernel_rfl) (kat_any w0 _ _ a mine hgb ha M) ?_; rintro e w10 ⟨R2,rfl,hB_R2,M',l1⟩; clear M; have M:=M'; clear M'; replace hB_R2:=xnT hwz hB_R2; replace hwz:=xnT hwz l1.size; replace OF:=OF.below l1; clear l1
 refine ⟨_,rfl,M.tail,?_⟩
 simp only [aP,lI,l0,lS]; refine wpAnyH_more (S':=fun w'=>Mm w0 ((R2,kck (yat a mine))::(B8,row .u8 32 b)::(B7,row .u8 32 a)::l) w') (fun _ h=>h.tail) _ _ _ _ ?_; refine xrH 4 17 rfl (.pointer (some ⟨R2,0,none⟩)) (fun _ M=>(by kernel_rfl)) M ?_
 refine xrH 5 18 rfl (.agg (kck (yat a mine)).toArray) (fun _ M=>loadN 58 _ ⟨R2,0,none⟩ (kck (yat a mine)) rfl rfl (fun _=>by kernel_rfl) (fun _=>by rw [kck_len]; kernel_rfl) (M.rangeAt mS)) M ?_; refine callH (i:=8) (some 21) rfl (by kernel_rfl) rfl rfl (fun _=>by kernel_rfl) (kat_any w0 _ _ b its hgb hb M) ?_; rintro e w11 ⟨R3,rfl,hB_R3,M',l1⟩; clear M; have M:=M'; clear M'
 replace hB_R3:=xnT hwz hB_R3; replace hwz:=xnT hwz l1.size; replace OF:=OF.below l1; clear l1
 refine ⟨_,rfl,M.tail,?_⟩
 simp only [aP,lI,l0,lS]; refine wpAnyH_more (S':=fun w'=>Mm w0 ((R3,kck (yat b its))::(R2,kck (yat a mine))::(B8,row .u8 32 b)::(B7,row .u8 32 a)::l) w') (fun _ h=>h.tail) _ _ _ _ ?_; refine xrH 9 22 rfl (.pointer (some ⟨R3,0,none⟩)) (fun _ M=>(by kernel_rfl)) M ?_
 refine xrH 10 23 rfl (.agg (kck (yat b its)).toArray) (fun _ M=>loadN 58 _ ⟨R3,0,none⟩ (kck (yat b its)) rfl rfl (fun _=>by kernel_rfl) (fun _=>by rw [kck_len]; kernel_rfl) (M.rangeAt mS)) M ?_; refine xrH 11 24 rfl (.agg ([[Value.int .i64 0],kck (yat a mine),kck (yat b its),[Value.map none],[Value.map none],[Value.map none]].flatten).toArray) (fun _ M=>(by kernel_rfl)) M ?_
 have MH:=M; have hlb:=(Below.refl w11.heap.size w11).alloc (xnR _) (.cells ([[Value.int .i64 0],kck (yat a mine),kck (yat b its),[Value.map none],[Value.map none],[Value.map none]].flatten).toArray 64); replace MH:=MH.call hlb; refine onlyH (i:=12) (some 25) rfl (.pointer (some ⟨w11.heap.size,0,none⟩)) (by kernel_rfl) rfl rfl (by kernel_rfl) MH ?_; simp only [aP,lI,l0,lS]
 have hB_:=hwz; replace hwz:=xnT hwz hlb.size; replace OF:=OF.below hlb; replace M:=M.box ([[Value.int .i64 0],kck (yat a mine),kck (yat b its),[Value.map none],[Value.map none],[Value.map none]].flatten).toArray 64 w11.heap.size rfl; clear hlb
 generalize w11.alloc (.cells ([[Value.int .i64 0],kck (yat a mine),kck (yat b its),[Value.map none],[Value.map none],[Value.map none]].flatten).toArray 64)=w12 at M MH hwz OF ⊢; generalize eB_:w11.heap.size=B12 at M ⊢
 have hB_B12:w.heap.size≤B12:=by rw [← eB_]; exact hB_
 clear hB_ eB_
 replace M:Mm w0 ((B12,[[Value.int .i64 0],kck (yat a mine),kck (yat b its),[Value.map none],[Value.map none],[Value.map none]].flatten)::(R3,kck (yat b its))::(R2,kck (yat a mine))::(B8,row .u8 32 b)::(B7,row .u8 32 a)::l) w12:=M
 refine xrH 13 10 rfl (.pointer (some ⟨B12,0,none⟩)) (fun _ MH=>(by kernel_rfl)) MH ?_
 refine wpAnyH_done (by kernel_rfl) ?_ _
 first | show Exit.then _ _ _ _ _ | show Exit.inBlock _ _ _ _ _
 replace M:Mm w0 ((B12,[[Value.int .i64 0],kck (yat a mine),kck (yat b its),[Value.map none],[Value.map none],[Value.map none]].flatten)::l) w12:=M.sub _ (List.cons_sublist_cons.2 (List.Sublist.cons _ (List.Sublist.cons _ (List.Sublist.cons _ (List.Sublist.cons _ (List.Sublist.refl _))))))
 have hbel:Below w.heap.size w w12:=⟨M.below.os.trans hb0.os.symm,M.below.tape.trans hb0.tape.symm,M.below.output.trans hb0.output.symm,OF.size,fun b hb=>OF.blk b hb (fun h=>by cases h)⟩
 replace M:Mm w0 ((B12,gnw role a b mine its)::l) w12:=by
  unfold gnw
  rw [if_neg hr]
  exact M
 have HS:=show Hid _ from (And.intro hB_B12 (And.intro M hbel)); clear M OF hbel hB_B12; go_wp2; go_ret
 exact ⟨B12,rfl,HS.out⟩
theorem gnew_any (w0 w:World) (l:List (Nat × List Value)) (role:Int) (a b:Nat→Int) (hgb:BGlob w0) (ha:In 256 32 a) (hb:In 256 32 b) (M:Mm w0 l w) :
 Calls Tryz.prog 9 #[.int .i64 role,.agg (row .u8 32 a).toArray,.agg (row .u8 32 b).toArray] w fun e' w'=>∃ R,e'=.returned (.pointer (some ⟨R,0,none⟩))∧w.heap.size≤R∧Mm w0 ((R,gnw role a b 0 0)::l) w'∧Below w.heap.size w w':=by
 have hb0:=M.below; have hwz:=xnR w.heap.size; have OF:=Off.refl [] w
 go_enter Tryz.func9,Tryz.ntmps9
 go_upto_region 0 with fail; refine wp_region_list ?_; have hlb:=(Below.refl w.heap.size w).alloc (xnR _) (.cells (row .u8 32 a).toArray 23); refine actL (w':=w.alloc (.cells (row .u8 32 a).toArray 23)) (.pointer (some ⟨w.heap.size,0,none⟩)) rfl (by kernel_rfl) ?_; simp only [aP,lI,l0,lS]; have hB_:=hwz; replace hwz:=xnT hwz hlb.size; replace OF:=OF.below hlb
 replace M:=M.box (row .u8 32 a).toArray 23 w.heap.size rfl; clear hlb; generalize w.alloc (.cells (row .u8 32 a).toArray 23)=w1 at M hwz OF ⊢; generalize eB_:w.heap.size=B1 at M ⊢
 have hB_B1:w.heap.size≤B1:=by rw [← eB_]; exact hB_
 clear hB_ eB_
 replace M:Mm w0 ((B1,row .u8 32 a)::l) w1:=M
 have hlb:=(Below.refl w1.heap.size w1).alloc (xnR _) (.cells (row .u8 32 b).toArray 23); refine actL (w':=w1.alloc (.cells (row .u8 32 b).toArray 23)) (.pointer (some ⟨w1.heap.size,0,none⟩)) rfl (by kernel_rfl) ?_; simp only [aP,lI,l0,lS]; have hB_:=hwz; replace hwz:=xnT hwz hlb.size; replace OF:=OF.below hlb; replace M:=M.box (row .u8 32 b).toArray 23 w1.heap.size rfl; clear hlb
 generalize w1.alloc (.cells (row .u8 32 b).toArray 23)=w2 at M hwz OF ⊢; generalize eB_:w1.heap.size=B2 at M ⊢
 have hB_B2:w.heap.size≤B2:=by rw [← eB_]; exact hB_
 clear hB_ eB_
 replace M:Mm w0 ((B2,row .u8 32 b)::(B1,row .u8 32 a)::l) w2:=M
 refine xpL (.pointer none) ?_; refine xT ?_; go_upto_region 1 with fail; refine wp_region_list ?_; refine xpL (.int .i64 role) ?_; refine xaL (.agg (row .u8 32 a).toArray) (loadN 23 _ ⟨B1,0,none⟩ (row .u8 32 a) rfl rfl (fun _=>by kernel_rfl) (fun _=>by rw [row32]; kernel_rfl) (M.part (mT _ mS) 0 _ (by rw [List.drop_zero,List.take_length]))) ?_
 refine xaL (.agg (row .u8 32 b).toArray) (loadN 23 _ ⟨B2,0,none⟩ (row .u8 32 b) rfl rfl (fun _=>by kernel_rfl) (fun _=>by rw [row32]; kernel_rfl) (M.part mS 0 _ (by rw [List.drop_zero,List.take_length]))) ?_; refine xcL (gat_any w0 _ _ role a b 0 0 hgb ha hb M) ?_; rintro e w3 ⟨RA,rfl,hB_RA,M',l1⟩; clear M; have M:=M'; clear M'; replace hB_RA:=xnT hwz hB_RA
 replace hwz:=xnT hwz l1.size; replace OF:=OF.below l1; clear l1; refine xeL ?_; refine xpL (.pointer (some ⟨RA,0,none⟩)) ?_; refine xT ?_
 replace M:Mm w0 ((RA,gnw role a b 0 0)::l) w3:=M.sub _ (List.cons_sublist_cons.2 (List.Sublist.cons _ (List.Sublist.cons _ (List.Sublist.refl _))))
 have hbel:Below w.heap.size w w3:=⟨M.below.os.trans hb0.os.symm,M.below.tape.trans hb0.tape.symm,M.below.output.trans hb0.output.symm,OF.size,fun b hb=>OF.blk b hb (fun h=>by cases h)⟩
 replace M:Mm w0 ((RA,gnw role a b 0 0)::l) w3:=by
  exact M
 have HS:=show Hid _ from (And.intro hB_RA (And.intro M hbel)); clear M OF hbel hB_RA; go_wp2; go_ret
 exact ⟨RA,rfl,HS.out⟩
end
def pinb (n a b:Int):Bool:=decide (n≥a)&&decide (n≤b)
theorem pinb_iff {n a b:Int}:pinb n a b=true↔a≤n∧n≤b:=by unfold pinb; simp
theorem pwithin_any (n least most:Int) (w:World) :
 Calls Tryz.prog 60 #[.int .i64 n,.int .i64 least,.int .i64 most] w fun e w'=>e=.returned (.bool (pinb n least most))∧Below w.heap.size w w':=by
 have M:=Mm.init w
 go_enter Tryz.func60,Tryz.ntmps60
 go_upto_region 0 with fail; refine wp_region_list ?_; refine xpL (.bool false) ?_; refine xT ?_; go_upto_region 1 with fail; refine wp_region_list ?_; refine xpL (.int .i64 n) ?_; refine xpL (.int .i64 least) ?_
 obtain ⟨b1,hb1⟩:∃ y_,y_=(decide (n≥least)):=⟨_,rfl⟩
 refine xaL (.bool b1) (geqI .i64 _ _ _ _ _ _ rfl rfl rfl b1 hb1.symm _) ?_; refine xpL (.bool b1) ?_
 refine mayL (b1) (.int .i64 n) ((bif b1 then (.int .i64 n) else undef)) (by cases b1 <;> rfl) (by cases b1 <;> rfl) (fun hc=>by cases b1 <;> first | (cases hc; done) | kernel_rfl) ?_
 simp only [aP,lI,l0,lS]
 refine mayL (b1) (.int .i64 most) ((bif b1 then (.int .i64 most) else undef)) (by cases b1 <;> rfl) (by cases b1 <;> rfl) (fun hc=>by cases b1 <;> first | (cases hc; done) | kernel_rfl) ?_
 simp only [aP,lI,l0,lS]
 obtain ⟨b2,hb2⟩:∃ y_,y_=(decide (n≤most)):=⟨_,rfl⟩
 refine mayL (b1) (.bool b2) ((bif b1 then (.bool b2) else undef)) (by cases b1 <;> rfl) (by cases b1 <;> rfl) (fun hc=>by cases b1 <;> first | (cases hc; done) | exact (leqI .i64 _ _ _ _ _ _ rfl rfl rfl b2 hb2.symm _)) ?_
 simp only [aP,lI,l0,lS]
 obtain ⟨b3,hb3⟩:∃ y_,y_=(b1&&b2):=⟨_,rfl⟩
 refine xaL (.bool b3) (by subst hb3; cases b1 <;> rfl) ?_; refine xpL (.bool b3) ?_; refine xT ?_; have hK:=show Hid _ from (show b3=pinb n least most by simp only [hb1,hb2,hb3]; rfl)
 try clear hb1
 try clear hb2
 try clear hb3
 go_wp2; go_ret
 exact ⟨by rw [← hK.out] <;> rfl,M.below⟩
theorem pmay_any (p:Pkt) (bp:Option Addr) (bc:Nat) (w:World):Calls Tryz.prog 40 #[.agg (pcs p bp bc).toArray] w fun e w'=>e=.returned (.bool (pok p))∧Below w.heap.size w w':=by
 have M:=Mm.init w
 unfold pcs
 go_enter Tryz.func40,Tryz.ntmps40
 go_upto_region 0 with fail; refine wp_region_list ?_; refine actL (w':=w.alloc (.cells #[.int .i64 p.kind,.int .i64 p.role,.int .i64 p.path,.int .i64 p.epo,.int .i64 p.ctr,.slice bp p.body.length bc] 70)) (.pointer (some ⟨w.heap.size,0,none⟩)) rfl (by kernel_rfl) ?_; simp only [aP,lI,l0,lS]
 have hB_B1:w.heap.size≤w.heap.size:=M.below.size
 replace M:=M.box #[.int .i64 p.kind,.int .i64 p.role,.int .i64 p.path,.int .i64 p.epo,.int .i64 p.ctr,.slice bp p.body.length bc] 70 w.heap.size rfl; generalize w.alloc (.cells #[.int .i64 p.kind,.int .i64 p.role,.int .i64 p.path,.int .i64 p.epo,.int .i64 p.ctr,.slice bp p.body.length bc] 70)=w1 at M  ⊢; generalize eB:w.heap.size=B1 at M hB_B1  ⊢
 have hE_B1:w.heap.size≤B1:=Nat.le_of_eq eB
 have hF_B1:B1≤w.heap.size:=Nat.le_of_eq eB.symm
 clear eB
 replace M:Mm w ([(B1,[.int .i64 p.kind,.int .i64 p.role,.int .i64 p.path,.int .i64 p.epo,.int .i64 p.ctr,.slice bp p.body.length bc])]) w1:=M
 refine xpL (.bool false) ?_; refine xT ?_; go_upto_region 1 with fail; refine wp_region_list ?_; refine xpL (.pointer (some ⟨B1,0,none⟩)) ?_; refine xaL (.int .i64 p.kind) (load1 3 _ ⟨B1,0,none⟩ _ rfl rfl (fun _=>by kernel_rfl) (M.get mS 0 _ rfl)) ?_; refine xT ?_; go_upto_region 2 with fail; refine wp_region_list ?_
 obtain ⟨b1,hb1⟩:∃ y_,y_=((p.kind:Int) == (1:Int)):=⟨_,rfl⟩
 refine xaL (.bool b1) (eqlI .i64 _ _ _ _ _ _ rfl rfl rfl b1 hb1.symm _) ?_; refine xpL (.bool b1) ?_; refine xT ?_
 cases b1 with
 | true =>
   have k1:p.kind=1:=by simpa using hb1.symm
   go_upto_region 4 with fail; refine wp_region_list ?_; refine xpL (.pointer (some ⟨B1,1,none⟩)) ?_; refine xaL (.int .i64 p.role) (load1 3 _ ⟨B1,1,none⟩ _ rfl rfl (fun _=>by kernel_rfl) (M.get mS 1 _ rfl)) ?_
   obtain ⟨b2,hb2⟩:∃ y_,y_=((p.role:Int) == (0:Int)):=⟨_,rfl⟩
   refine xaL (.bool b2) (eqlI .i64 _ _ _ _ _ _ rfl rfl rfl b2 hb2.symm _) ?_; refine xpL (.bool b2) ?_
   refine mayL (b2) (.pointer (some ⟨B1,2,none⟩)) ((bif b2 then (.pointer (some ⟨B1,2,none⟩)) else undef)) (by cases b2 <;> rfl) (by cases b2 <;> rfl) (fun hc=>by cases b2 <;> first | (cases hc; done) | kernel_rfl) ?_
   simp only [aP,lI,l0,lS]
   refine mayL (b2) (.int .i64 p.path) ((bif b2 then (.int .i64 p.path) else undef)) (by cases b2 <;> rfl) (by cases b2 <;> rfl) (fun hc=>by cases b2 <;> first | (cases hc; done) | exact (load1 3 _ ⟨B1,2,none⟩ _ rfl rfl (fun _=>by kernel_rfl) (M.get mS 2 _ rfl))) ?_
   simp only [aP,lI,l0,lS]
   obtain ⟨b3,hb3⟩:∃ y_,y_=((p.path:Int) == (0:Int)):=⟨_,rfl⟩
   refine mayL (b2) (.bool b3) ((bif b2 then (.bool b3) else undef)) (by cases b2 <;> rfl) (by cases b2 <;> rfl) (fun hc=>by cases b2 <;> first | (cases hc; done) | exact (eqlI .i64 _ _ _ _ _ _ rfl rfl rfl b3 hb3.symm _)) ?_
   simp only [aP,lI,l0,lS]
   obtain ⟨b4,hb4⟩:∃ y_,y_=(b2&&b3):=⟨_,rfl⟩
   refine xaL (.bool b4) (by subst hb4; cases b2 <;> rfl) ?_; refine xpL (.bool b4) ?_
   refine mayL (b4) (.pointer (some ⟨B1,3,none⟩)) ((bif b4 then (.pointer (some ⟨B1,3,none⟩)) else undef)) (by cases b4 <;> rfl) (by cases b4 <;> rfl) (fun hc=>by cases b4 <;> first | (cases hc; done) | kernel_rfl) ?_
   simp only [aP,lI,l0,lS]
   refine mayL (b4) (.int .i64 p.epo) ((bif b4 then (.int .i64 p.epo) else undef)) (by cases b4 <;> rfl) (by cases b4 <;> rfl) (fun hc=>by cases b4 <;> first | (cases hc; done) | exact (load1 3 _ ⟨B1,3,none⟩ _ rfl rfl (fun _=>by kernel_rfl) (M.get mS 3 _ rfl))) ?_
   simp only [aP,lI,l0,lS]
   obtain ⟨b5,hb5⟩:∃ y_,y_=((p.epo:Int) == (0:Int)):=⟨_,rfl⟩
   refine mayL (b4) (.bool b5) ((bif b4 then (.bool b5) else undef)) (by cases b4 <;> rfl) (by cases b4 <;> rfl) (fun hc=>by cases b4 <;> first | (cases hc; done) | exact (eqlI .i64 _ _ _ _ _ _ rfl rfl rfl b5 hb5.symm _)) ?_
   simp only [aP,lI,l0,lS]
   obtain ⟨b6,hb6⟩:∃ y_,y_=(b4&&b5):=⟨_,rfl⟩
   refine xaL (.bool b6) (by subst hb6; cases b4 <;> rfl) ?_; refine xpL (.bool b6) ?_
   refine mayL (b6) (.pointer (some ⟨B1,4,none⟩)) ((bif b6 then (.pointer (some ⟨B1,4,none⟩)) else undef)) (by cases b6 <;> rfl) (by cases b6 <;> rfl) (fun hc=>by cases b6 <;> first | (cases hc; done) | kernel_rfl) ?_
   simp only [aP,lI,l0,lS]
   refine mayL (b6) (.int .i64 p.ctr) ((bif b6 then (.int .i64 p.ctr) else undef)) (by cases b6 <;> rfl) (by cases b6 <;> rfl) (fun hc=>by cases b6 <;> first | (cases hc; done) | exact (load1 3 _ ⟨B1,4,none⟩ _ rfl rfl (fun _=>by kernel_rfl) (M.get mS 4 _ rfl))) ?_
   simp only [aP,lI,l0,lS]
   obtain ⟨b7,hb7⟩:∃ y_,y_=((p.ctr:Int) == (0:Int)):=⟨_,rfl⟩
   refine mayL (b6) (.bool b7) ((bif b6 then (.bool b7) else undef)) (by cases b6 <;> rfl) (by cases b6 <;> rfl) (fun hc=>by cases b6 <;> first | (cases hc; done) | exact (eqlI .i64 _ _ _ _ _ _ rfl rfl rfl b7 hb7.symm _)) ?_
   simp only [aP,lI,l0,lS]
   obtain ⟨b8,hb8⟩:∃ y_,y_=(b6&&b7):=⟨_,rfl⟩
   refine xaL (.bool b8) (by subst hb8; cases b6 <;> rfl) ?_; refine xpL (.bool b8) ?_
   refine mayL (b8) (.pointer (some ⟨B1,5,none⟩)) ((bif b8 then (.pointer (some ⟨B1,5,none⟩)) else undef)) (by cases b8 <;> rfl) (by cases b8 <;> rfl) (fun hc=>by cases b8 <;> first | (cases hc; done) | kernel_rfl) ?_
   simp only [aP,lI,l0,lS]
   refine mayL (b8) (.slice bp p.body.length bc) ((bif b8 then (.slice bp p.body.length bc) else undef)) (by cases b8 <;> rfl) (by cases b8 <;> rfl) (fun hc=>by cases b8 <;> first | (cases hc; done) | exact (load1 29 _ ⟨B1,5,none⟩ _ rfl rfl (fun _=>by kernel_rfl) (M.get mS 5 _ rfl))) ?_
   simp only [aP,lI,l0,lS]
   refine mayL (b8) (.int .i64 ((p.body.length:Nat):Int)) ((bif b8 then (.int .i64 ((p.body.length:Nat):Int)) else undef)) (by cases b8 <;> rfl) (by cases b8 <;> rfl) (fun hc=>by cases b8 <;> first | (cases hc; done) | exact (lenS _ 29 5 bp p.body.length bc rfl Tryz.underlying29 rfl _)) ?_
   simp only [aP,lI,l0,lS]
   obtain ⟨b9,hb9⟩:∃ y_,y_=(pinb ((p.body.length:Nat):Int) 1 300):=⟨_,rfl⟩
   have hC:Calls Tryz.prog 60 #[.int .i64 ((p.body.length:Nat):Int),.int .i64 1,.int .i64 300] w1 (fun e w'=>e=.returned (.bool b9)∧Below w1.heap.size w1 w'):=(by rw [hb9]; exact pwithin_any _ _ _ _)
   refine mayCallL (b8) (.bool b9) ((bif b8 then (.bool b9) else undef)) 60 #[.int .i64 ((p.body.length:Nat):Int),.int .i64 1,.int .i64 300] (by cases b8 <;> rfl) (by cases b8 <;> rfl) (fun hc=>by cases b8 <;> first | (cases hc; done) | (intro _; kernel_rfl)) (fun _=>hC) ?_
   intro w2 l; replace M:=M.call l; clear l hC; simp only [aP,lI,l0,lS]
   obtain ⟨b10,hb10⟩:∃ y_,y_=(b8&&b9):=⟨_,rfl⟩
   refine xaL (.bool b10) (by subst hb10; cases b8 <;> rfl) ?_; refine xpL (.bool b10) ?_; refine xT ?_
   have hA:b10=pok p:=by
    rw [pok_hlo (by omega)]
    apply Bool.eq_iff_iff.2
    simp only [hb2,hb3,hb4,hb5,hb6,hb7,hb8,hb9,hb10,xbA,decide_eq_true_eq,beq_iff_eq,pinb_iff]
    unfold Hlo
    omega
   replace hA:=show Hid _ from hA
   try clear hb1
   try clear hb2
   try clear hb3
   try clear hb4
   try clear hb5
   try clear hb6
   try clear hb7
   try clear hb8
   try clear hb9
   try clear hb10
   try clear k1
   try clear k2
   try clear k3
   go_wp2; go_ret
   exact ⟨by rw [← hA.out] <;> rfl,M.below⟩
 | false =>
   have k1:¬ p.kind=1:=by simpa using hb1.symm
   go_upto_region 3 with fail; refine wp_region_list ?_
   obtain ⟨b11,hb11⟩:∃ y_,y_=((p.kind:Int) == (2:Int)):=⟨_,rfl⟩
   refine xaL (.bool b11) (eqlI .i64 _ _ _ _ _ _ rfl rfl rfl b11 hb11.symm _) ?_; refine xpL (.bool b11) ?_; refine xT ?_
   cases b11 with
   | true =>
     have k2:p.kind=2:=by simpa using hb11.symm
     go_upto_region 4 with fail; refine wp_region_list ?_; refine xpL (.pointer (some ⟨B1,1,none⟩)) ?_; refine xaL (.int .i64 p.role) (load1 3 _ ⟨B1,1,none⟩ _ rfl rfl (fun _=>by kernel_rfl) (M.get mS 1 _ rfl)) ?_
     obtain ⟨b12,hb12⟩:∃ y_,y_=((p.role:Int) == (0:Int)):=⟨_,rfl⟩
     refine xaL (.bool b12) (eqlI .i64 _ _ _ _ _ _ rfl rfl rfl b12 hb12.symm _) ?_; refine xpL (.bool b12) ?_
     refine mayL (b12) (.pointer (some ⟨B1,2,none⟩)) ((bif b12 then (.pointer (some ⟨B1,2,none⟩)) else undef)) (by cases b12 <;> rfl) (by cases b12 <;> rfl) (fun hc=>by cases b12 <;> first | (cases hc; done) | kernel_rfl) ?_
     simp only [aP,lI,l0,lS]
     refine mayL (b12) (.int .i64 p.path) ((bif b12 then (.int .i64 p.path) else undef)) (by cases b12 <;> rfl) (by cases b12 <;> rfl) (fun hc=>by cases b12 <;> first | (cases hc; done) | exact (load1 3 _ ⟨B1,2,none⟩ _ rfl rfl (fun _=>by kernel_rfl) (M.get mS 2 _ rfl))) ?_
     simp only [aP,lI,l0,lS]
     obtain ⟨b13,hb13⟩:∃ y_,y_=((p.path:Int) == (0:Int)):=⟨_,rfl⟩
     refine mayL (b12) (.bool b13) ((bif b12 then (.bool b13) else undef)) (by cases b12 <;> rfl) (by cases b12 <;> rfl) (fun hc=>by cases b12 <;> first | (cases hc; done) | exact (eqlI .i64 _ _ _ _ _ _ rfl rfl rfl b13 hb13.symm _)) ?_
     simp only [aP,lI,l0,lS]
     obtain ⟨b14,hb14⟩:∃ y_,y_=(b12&&b13):=⟨_,rfl⟩
     refine xaL (.bool b14) (by subst hb14; cases b12 <;> rfl) ?_; refine xpL (.bool b14) ?_
     refine mayL (b14) (.pointer (some ⟨B1,3,none⟩)) ((bif b14 then (.pointer (some ⟨B1,3,none⟩)) else undef)) (by cases b14 <;> rfl) (by cases b14 <;> rfl) (fun hc=>by cases b14 <;> first | (cases hc; done) | kernel_rfl) ?_
     simp only [aP,lI,l0,lS]
     refine mayL (b14) (.int .i64 p.epo) ((bif b14 then (.int .i64 p.epo) else undef)) (by cases b14 <;> rfl) (by cases b14 <;> rfl) (fun hc=>by cases b14 <;> first | (cases hc; done) | exact (load1 3 _ ⟨B1,3,none⟩ _ rfl rfl (fun _=>by kernel_rfl) (M.get mS 3 _ rfl))) ?_
     simp only [aP,lI,l0,lS]
     obtain ⟨b15,hb15⟩:∃ y_,y_=((p.epo:Int) == (0:Int)):=⟨_,rfl⟩
     refine mayL (b14) (.bool b15) ((bif b14 then (.bool b15) else undef)) (by cases b14 <;> rfl) (by cases b14 <;> rfl) (fun hc=>by cases b14 <;> first | (cases hc; done) | exact (eqlI .i64 _ _ _ _ _ _ rfl rfl rfl b15 hb15.symm _)) ?_
     simp only [aP,lI,l0,lS]
     obtain ⟨b16,hb16⟩:∃ y_,y_=(b14&&b15):=⟨_,rfl⟩
     refine xaL (.bool b16) (by subst hb16; cases b14 <;> rfl) ?_; refine xpL (.bool b16) ?_
     refine mayL (b16) (.pointer (some ⟨B1,4,none⟩)) ((bif b16 then (.pointer (some ⟨B1,4,none⟩)) else undef)) (by cases b16 <;> rfl) (by cases b16 <;> rfl) (fun hc=>by cases b16 <;> first | (cases hc; done) | kernel_rfl) ?_
     simp only [aP,lI,l0,lS]
     refine mayL (b16) (.int .i64 p.ctr) ((bif b16 then (.int .i64 p.ctr) else undef)) (by cases b16 <;> rfl) (by cases b16 <;> rfl) (fun hc=>by cases b16 <;> first | (cases hc; done) | exact (load1 3 _ ⟨B1,4,none⟩ _ rfl rfl (fun _=>by kernel_rfl) (M.get mS 4 _ rfl))) ?_
     simp only [aP,lI,l0,lS]
     obtain ⟨b17,hb17⟩:∃ y_,y_=((p.ctr:Int) == (0:Int)):=⟨_,rfl⟩
     refine mayL (b16) (.bool b17) ((bif b16 then (.bool b17) else undef)) (by cases b16 <;> rfl) (by cases b16 <;> rfl) (fun hc=>by cases b16 <;> first | (cases hc; done) | exact (eqlI .i64 _ _ _ _ _ _ rfl rfl rfl b17 hb17.symm _)) ?_
     simp only [aP,lI,l0,lS]
     obtain ⟨b18,hb18⟩:∃ y_,y_=(b16&&b17):=⟨_,rfl⟩
     refine xaL (.bool b18) (by subst hb18; cases b16 <;> rfl) ?_; refine xpL (.bool b18) ?_
     refine mayL (b18) (.pointer (some ⟨B1,5,none⟩)) ((bif b18 then (.pointer (some ⟨B1,5,none⟩)) else undef)) (by cases b18 <;> rfl) (by cases b18 <;> rfl) (fun hc=>by cases b18 <;> first | (cases hc; done) | kernel_rfl) ?_
     simp only [aP,lI,l0,lS]
     refine mayL (b18) (.slice bp p.body.length bc) ((bif b18 then (.slice bp p.body.length bc) else undef)) (by cases b18 <;> rfl) (by cases b18 <;> rfl) (fun hc=>by cases b18 <;> first | (cases hc; done) | exact (load1 29 _ ⟨B1,5,none⟩ _ rfl rfl (fun _=>by kernel_rfl) (M.get mS 5 _ rfl))) ?_
     simp only [aP,lI,l0,lS]
     refine mayL (b18) (.int .i64 ((p.body.length:Nat):Int)) ((bif b18 then (.int .i64 ((p.body.length:Nat):Int)) else undef)) (by cases b18 <;> rfl) (by cases b18 <;> rfl) (fun hc=>by cases b18 <;> first | (cases hc; done) | exact (lenS _ 29 5 bp p.body.length bc rfl Tryz.underlying29 rfl _)) ?_
     simp only [aP,lI,l0,lS]
     obtain ⟨b19,hb19⟩:∃ y_,y_=(pinb ((p.body.length:Nat):Int) 1 300):=⟨_,rfl⟩
     have hC:Calls Tryz.prog 60 #[.int .i64 ((p.body.length:Nat):Int),.int .i64 1,.int .i64 300] w1 (fun e w'=>e=.returned (.bool b19)∧Below w1.heap.size w1 w'):=(by rw [hb19]; exact pwithin_any _ _ _ _)
     refine mayCallL (b18) (.bool b19) ((bif b18 then (.bool b19) else undef)) 60 #[.int .i64 ((p.body.length:Nat):Int),.int .i64 1,.int .i64 300] (by cases b18 <;> rfl) (by cases b18 <;> rfl) (fun hc=>by cases b18 <;> first | (cases hc; done) | (intro _; kernel_rfl)) (fun _=>hC) ?_
     intro w3 l; replace M:=M.call l; clear l hC; simp only [aP,lI,l0,lS]
     obtain ⟨b20,hb20⟩:∃ y_,y_=(b18&&b19):=⟨_,rfl⟩
     refine xaL (.bool b20) (by subst hb20; cases b18 <;> rfl) ?_; refine xpL (.bool b20) ?_; refine xT ?_
     have hA:b20=pok p:=by
      rw [pok_hlo (by omega)]
      apply Bool.eq_iff_iff.2
      simp only [hb12,hb13,hb14,hb15,hb16,hb17,hb18,hb19,hb20,xbA,decide_eq_true_eq,beq_iff_eq,pinb_iff]
      unfold Hlo
      omega
     replace hA:=show Hid _ from hA
     try clear hb1
     try clear hb11
     try clear hb12
     try clear hb13
     try clear hb14
     try clear hb15
     try clear hb16
     try clear hb17
     try clear hb18
     try clear hb19
     try clear hb20
     try clear k1
     try clear k2
     try clear k3
     go_wp2; go_ret
     exact ⟨by rw [← hA.out] <;> rfl,M.below⟩
   | false =>
     have k2:¬ p.kind=2:=by simpa using hb11.symm
     go_upto_region 5 with fail; refine wp_region_list ?_
     obtain ⟨b21,hb21⟩:∃ y_,y_=((p.kind:Int) == (3:Int)):=⟨_,rfl⟩
     refine xaL (.bool b21) (eqlI .i64 _ _ _ _ _ _ rfl rfl rfl b21 hb21.symm _) ?_; refine xpL (.bool b21) ?_; refine xT ?_
     cases b21 with
     | true =>
       have k3:p.kind=3:=by simpa using hb21.symm
       go_upto_region 6 with fail; refine wp_region_list ?_; refine xpL (.pointer (some ⟨B1,1,none⟩)) ?_; refine xaL (.int .i64 p.role) (load1 3 _ ⟨B1,1,none⟩ _ rfl rfl (fun _=>by kernel_rfl) (M.get mS 1 _ rfl)) ?_
       obtain ⟨b22,hb22⟩:∃ y_,y_=(pinb p.role 0 1):=⟨_,rfl⟩
       have hC:Calls Tryz.prog 60 #[.int .i64 p.role,.int .i64 0,.int .i64 1] w1 (fun e w'=>e=.returned (.bool b22)∧Below w1.heap.size w1 w'):=(by rw [hb22]; exact pwithin_any _ _ _ _)
       refine xcL (hC) ?_; rintro e w4 ⟨rfl,l⟩; replace M:=M.call l
       refine ⟨_,rfl,?_⟩
       clear l hC; simp only [aP,lI,l0,lS]; refine xpL (.bool b22) ?_
       refine mayL (b22) (.pointer (some ⟨B1,2,none⟩)) ((bif b22 then (.pointer (some ⟨B1,2,none⟩)) else undef)) (by cases b22 <;> rfl) (by cases b22 <;> rfl) (fun hc=>by cases b22 <;> first | (cases hc; done) | kernel_rfl) ?_
       simp only [aP,lI,l0,lS]
       refine mayL (b22) (.int .i64 p.path) ((bif b22 then (.int .i64 p.path) else undef)) (by cases b22 <;> rfl) (by cases b22 <;> rfl) (fun hc=>by cases b22 <;> first | (cases hc; done) | exact (load1 3 _ ⟨B1,2,none⟩ _ rfl rfl (fun _=>by kernel_rfl) (M.get mS 2 _ rfl))) ?_
       simp only [aP,lI,l0,lS]
       obtain ⟨b23,hb23⟩:∃ y_,y_=(pinb p.path 0 255):=⟨_,rfl⟩
       have hC:Calls Tryz.prog 60 #[.int .i64 p.path,.int .i64 0,.int .i64 255] w4 (fun e w'=>e=.returned (.bool b23)∧Below w4.heap.size w4 w'):=(by rw [hb23]; exact pwithin_any _ _ _ _)
       refine mayCallL (b22) (.bool b23) ((bif b22 then (.bool b23) else undef)) 60 #[.int .i64 p.path,.int .i64 0,.int .i64 255] (by cases b22 <;> rfl) (by cases b22 <;> rfl) (fun hc=>by cases b22 <;> first | (cases hc; done) | (intro _; kernel_rfl)) (fun _=>hC) ?_
       intro w5 l; replace M:=M.call l; clear l hC; simp only [aP,lI,l0,lS]
       obtain ⟨b24,hb24⟩:∃ y_,y_=(b22&&b23):=⟨_,rfl⟩
       refine xaL (.bool b24) (by subst hb24; cases b22 <;> rfl) ?_; refine xpL (.bool b24) ?_
       refine mayL (b24) (.pointer (some ⟨B1,3,none⟩)) ((bif b24 then (.pointer (some ⟨B1,3,none⟩)) else undef)) (by cases b24 <;> rfl) (by cases b24 <;> rfl) (fun hc=>by cases b24 <;> first | (cases hc; done) | kernel_rfl) ?_
       simp only [aP,lI,l0,lS]
       refine mayL (b24) (.int .i64 p.epo) ((bif b24 then (.int .i64 p.epo) else undef)) (by cases b24 <;> rfl) (by cases b24 <;> rfl) (fun hc=>by cases b24 <;> first | (cases hc; done) | exact (load1 3 _ ⟨B1,3,none⟩ _ rfl rfl (fun _=>by kernel_rfl) (M.get mS 3 _ rfl))) ?_
       simp only [aP,lI,l0,lS]
       obtain ⟨b25,hb25⟩:∃ y_,y_=(pinb p.epo 0 65535):=⟨_,rfl⟩
       have hC:Calls Tryz.prog 60 #[.int .i64 p.epo,.int .i64 0,.int .i64 65535] w5 (fun e w'=>e=.returned (.bool b25)∧Below w5.heap.size w5 w'):=(by rw [hb25]; exact pwithin_any _ _ _ _)
       refine mayCallL (b24) (.bool b25) ((bif b24 then (.bool b25) else undef)) 60 #[.int .i64 p.epo,.int .i64 0,.int .i64 65535] (by cases b24 <;> rfl) (by cases b24 <;> rfl) (fun hc=>by cases b24 <;> first | (cases hc; done) | (intro _; kernel_rfl)) (fun _=>hC) ?_
       intro w6 l; replace M:=M.call l; clear l hC; simp only [aP,lI,l0,lS]
       obtain ⟨b26,hb26⟩:∃ y_,y_=(b24&&b25):=⟨_,rfl⟩
       refine xaL (.bool b26) (by subst hb26; cases b24 <;> rfl) ?_; refine xpL (.bool b26) ?_
       refine mayL (b26) (.pointer (some ⟨B1,4,none⟩)) ((bif b26 then (.pointer (some ⟨B1,4,none⟩)) else undef)) (by cases b26 <;> rfl) (by cases b26 <;> rfl) (fun hc=>by cases b26 <;> first | (cases hc; done) | kernel_rfl) ?_
       simp only [aP,lI,l0,lS]
       refine mayL (b26) (.int .i64 p.ctr) ((bif b26 then (.int .i64 p.ctr) else undef)) (by cases b26 <;> rfl) (by cases b26 <;> rfl) (fun hc=>by cases b26 <;> first | (cases hc; done) | exact (load1 3 _ ⟨B1,4,none⟩ _ rfl rfl (fun _=>by kernel_rfl) (M.get mS 4 _ rfl))) ?_
       simp only [aP,lI,l0,lS]
       obtain ⟨b27,hb27⟩:∃ y_,y_=(pinb p.ctr 0 281474976710655):=⟨_,rfl⟩
       have hC:Calls Tryz.prog 60 #[.int .i64 p.ctr,.int .i64 0,.int .i64 281474976710655] w6 (fun e w'=>e=.returned (.bool b27)∧Below w6.heap.size w6 w'):=(by rw [hb27]; exact pwithin_any _ _ _ _)
       refine mayCallL (b26) (.bool b27) ((bif b26 then (.bool b27) else undef)) 60 #[.int .i64 p.ctr,.int .i64 0,.int .i64 281474976710655] (by cases b26 <;> rfl) (by cases b26 <;> rfl) (fun hc=>by cases b26 <;> first | (cases hc; done) | (intro _; kernel_rfl)) (fun _=>hC) ?_
       intro w7 l; replace M:=M.call l; clear l hC; simp only [aP,lI,l0,lS]
       obtain ⟨b28,hb28⟩:∃ y_,y_=(b26&&b27):=⟨_,rfl⟩
       refine xaL (.bool b28) (by subst hb28; cases b26 <;> rfl) ?_; refine xpL (.bool b28) ?_
       refine mayL (b28) (.pointer (some ⟨B1,5,none⟩)) ((bif b28 then (.pointer (some ⟨B1,5,none⟩)) else undef)) (by cases b28 <;> rfl) (by cases b28 <;> rfl) (fun hc=>by cases b28 <;> first | (cases hc; done) | kernel_rfl) ?_
       simp only [aP,lI,l0,lS]
       refine mayL (b28) (.slice bp p.body.length bc) ((bif b28 then (.slice bp p.body.length bc) else undef)) (by cases b28 <;> rfl) (by cases b28 <;> rfl) (fun hc=>by cases b28 <;> first | (cases hc; done) | exact (load1 29 _ ⟨B1,5,none⟩ _ rfl rfl (fun _=>by kernel_rfl) (M.get mS 5 _ rfl))) ?_
       simp only [aP,lI,l0,lS]
       refine mayL (b28) (.int .i64 ((p.body.length:Nat):Int)) ((bif b28 then (.int .i64 ((p.body.length:Nat):Int)) else undef)) (by cases b28 <;> rfl) (by cases b28 <;> rfl) (fun hc=>by cases b28 <;> first | (cases hc; done) | exact (lenS _ 29 5 bp p.body.length bc rfl Tryz.underlying29 rfl _)) ?_
       simp only [aP,lI,l0,lS]
       obtain ⟨b29,hb29⟩:∃ y_,y_=(pinb ((p.body.length:Nat):Int) 16 272):=⟨_,rfl⟩
       have hC:Calls Tryz.prog 60 #[.int .i64 ((p.body.length:Nat):Int),.int .i64 16,.int .i64 272] w7 (fun e w'=>e=.returned (.bool b29)∧Below w7.heap.size w7 w'):=(by rw [hb29]; exact pwithin_any _ _ _ _)
       refine mayCallL (b28) (.bool b29) ((bif b28 then (.bool b29) else undef)) 60 #[.int .i64 ((p.body.length:Nat):Int),.int .i64 16,.int .i64 272] (by cases b28 <;> rfl) (by cases b28 <;> rfl) (fun hc=>by cases b28 <;> first | (cases hc; done) | (intro _; kernel_rfl)) (fun _=>hC) ?_
       intro w8 l; replace M:=M.call l; clear l hC; simp only [aP,lI,l0,lS]
       obtain ⟨b30,hb30⟩:∃ y_,y_=(b28&&b29):=⟨_,rfl⟩
       refine xaL (.bool b30) (by subst hb30; cases b28 <;> rfl) ?_; refine xpL (.bool b30) ?_; refine xT ?_
       have hA:b30=pok p:=by
        rw [pok_rec k3]
        apply Bool.eq_iff_iff.2
        simp only [hb22,hb23,hb24,hb25,hb26,hb27,hb28,hb29,hb30,xbA,decide_eq_true_eq,pinb_iff]
        unfold Rec
        omega
       replace hA:=show Hid _ from hA
       try clear hb1
       try clear hb11
       try clear hb21
       try clear hb22
       try clear hb23
       try clear hb24
       try clear hb25
       try clear hb26
       try clear hb27
       try clear hb28
       try clear hb29
       try clear hb30
       try clear k1
       try clear k2
       try clear k3
       go_wp2; go_ret
       exact ⟨by rw [← hA.out] <;> rfl,M.below⟩
     | false =>
       have k3:¬ p.kind=3:=by simpa using hb21.symm
       go_upto_region 7 with fail; refine wp_region_list ?_; refine xpL (.bool false) ?_; refine xT ?_
       have hA:false=pok p:=by
        rw [pok_none (by omega) k3]
       replace hA:=show Hid _ from hA
       try clear hb1
       try clear hb11
       try clear hb21
       try clear k1
       try clear k2
       try clear k3
       go_wp2; go_ret
       exact ⟨by rw [← hA.out] <;> rfl,M.below⟩
def prc (p:Pkt):Bool:=decide (p.kind=3∧pok p=true)
theorem prec_any (p:Pkt) (bp:Option Addr) (bc:Nat) (w:World):Calls Tryz.prog 38 #[.agg (pcs p bp bc).toArray] w fun e w'=>e=.returned (.bool (prc p))∧Below w.heap.size w w':=by
 have M:=Mm.init w
 unfold pcs
 go_enter Tryz.func38,Tryz.ntmps38
 go_upto_region 0 with fail; refine wp_region_list ?_; refine actL (w':=w.alloc (.cells #[.int .i64 p.kind,.int .i64 p.role,.int .i64 p.path,.int .i64 p.epo,.int .i64 p.ctr,.slice bp p.body.length bc] 70)) (.pointer (some ⟨w.heap.size,0,none⟩)) rfl (by kernel_rfl) ?_; simp only [aP,lI,l0,lS]
 have hB_B1:w.heap.size≤w.heap.size:=M.below.size
 replace M:=M.box #[.int .i64 p.kind,.int .i64 p.role,.int .i64 p.path,.int .i64 p.epo,.int .i64 p.ctr,.slice bp p.body.length bc] 70 w.heap.size rfl; generalize w.alloc (.cells #[.int .i64 p.kind,.int .i64 p.role,.int .i64 p.path,.int .i64 p.epo,.int .i64 p.ctr,.slice bp p.body.length bc] 70)=w1 at M  ⊢; generalize eB:w.heap.size=B1 at M hB_B1  ⊢
 have hE_B1:w.heap.size≤B1:=Nat.le_of_eq eB
 have hF_B1:B1≤w.heap.size:=Nat.le_of_eq eB.symm
 clear eB
 replace M:Mm w ([(B1,[.int .i64 p.kind,.int .i64 p.role,.int .i64 p.path,.int .i64 p.epo,.int .i64 p.ctr,.slice bp p.body.length bc])]) w1:=M
 refine xpL (.bool false) ?_; refine xT ?_; go_upto_region 1 with fail; refine wp_region_list ?_; refine xpL (.pointer (some ⟨B1,0,none⟩)) ?_; refine xaL (.int .i64 p.kind) (load1 3 _ ⟨B1,0,none⟩ _ rfl rfl (fun _=>by kernel_rfl) (M.get mS 0 _ rfl)) ?_
 obtain ⟨b1,hb1⟩:∃ y_,y_=((p.kind:Int) == (3:Int)):=⟨_,rfl⟩
 refine xaL (.bool b1) (eqlI .i64 _ _ _ _ _ _ rfl rfl rfl b1 hb1.symm _) ?_; refine xpL (.bool b1) ?_
 refine mayL (b1) (.agg #[.int .i64 p.kind,.int .i64 p.role,.int .i64 p.path,.int .i64 p.epo,.int .i64 p.ctr,.slice bp p.body.length bc]) ((bif b1 then (.agg #[.int .i64 p.kind,.int .i64 p.role,.int .i64 p.path,.int .i64 p.epo,.int .i64 p.ctr,.slice bp p.body.length bc]) else undef)) (by cases b1 <;> rfl) (by cases b1 <;> rfl) (fun hc=>by cases b1 <;> first | (cases hc; done) | exact (loadN 70 _ ⟨B1,0,none⟩ [.int .i64 p.kind,.int .i64 p.role,.int .i64 p.path,.int .i64 p.epo,.int .i64 p.ctr,.slice bp p.body.length bc] rfl rfl (fun _=>by kernel_rfl) (fun _=>by kernel_rfl) (M.rangeAt mS))) ?_
 simp only [aP,lI,l0,lS]
 obtain ⟨b2,hb2⟩:∃ y_,y_=(pok p):=⟨_,rfl⟩
 have hC:Calls Tryz.prog 40 #[.agg #[.int .i64 p.kind,.int .i64 p.role,.int .i64 p.path,.int .i64 p.epo,.int .i64 p.ctr,.slice bp p.body.length bc]] w1 (fun e w'=>e=.returned (.bool b2)∧Below w1.heap.size w1 w'):=(by rw [hb2]; exact pmay_any p bp bc _)
 refine mayCallL (b1) (.bool b2) ((bif b1 then (.bool b2) else undef)) 40 #[.agg #[.int .i64 p.kind,.int .i64 p.role,.int .i64 p.path,.int .i64 p.epo,.int .i64 p.ctr,.slice bp p.body.length bc]] (by cases b1 <;> rfl) (by cases b1 <;> rfl) (fun hc=>by cases b1 <;> first | (cases hc; done) | (intro _; kernel_rfl)) (fun _=>hC) ?_
 intro w2 l; replace M:=M.call l; clear l hC; simp only [aP,lI,l0,lS]
 obtain ⟨b3,hb3⟩:∃ y_,y_=(b1&&b2):=⟨_,rfl⟩
 refine xaL (.bool b3) (by subst hb3; cases b1 <;> rfl) ?_; refine xpL (.bool b3) ?_; refine xT ?_
 have hA:b3=prc p:=by
  unfold prc
  rw [hb3,hb2,hb1]
  by_cases h3:p.kind=3
  · cases pok p <;> simp [h3]
  · simp [h3]
 replace hA:=show Hid _ from hA
 try clear hb1
 try clear hb2
 try clear hb3
 go_wp2; go_ret
 exact ⟨by rw [← hA.out] <;> rfl,M.below⟩
def PutF (len:Nat) (z:Nat→Int) (n s:Int) (B:Nat) (e:Ending) (w':World):Prop:=∃ v,e=.returned (.tuple #[v,.int .i64 (fE n s)])∧Own w' B 5 .u8 (fL len n s) (fput len z n s) v
def PutFixedOK:Prop:=∀ (sp:Option Addr) (len cap:Nat),len≤140737488351232→len≤cap→(sp=none→cap=0)→∀ z:Nat→Int,In 256 len z→∀ n:Int,(-9223372036854775808≤n∧n<9223372036854775808)→∀ s:Int,(-9223372036854775808≤s∧s<9223372036854775808)→∀ w:World,Src w sp len z→Calls Tryz.prog 59 #[.slice sp len cap,.int .i64 n,.int .i64 s] w fun e w'=>PutF len z n s w.heap.size e w'∧Below w.heap.size w w'
theorem eqlNil {P:Program} {o:Oper} {a:Act} (t e t':TypeId) (x y:Operand) (sp:Option Addr) (n c:Nat) (b:Bool) (ho:o.op=.binOp .eql t x y t') (hx:a.eval x=.slice sp n c) (hy:a.eval y=.slice none 0 0) (hu:P.underlying t=some (.slice e)) (hb:sp.isNone=b) (w:World) :
 (execOp a.eval o).run P w=.ok (.value (.bool b)) w:=by
 subst hb
 unfold execOp
 have e1:(eqGuard .eql t x y (.slice sp n c) (.slice none 0 0)).run P w=.ok () w:=rfl
 simp only [ho,hx,hy,Sem.run_bind,e1,Lib.run_eql_slice_nil w t e sp n c 0 0 hu,Sem.run_pure,Result.andThen_ok]
def pk2 {α:Type} (a b:α):Nat→α
 | 0=>a
 | _=>b
theorem tot2 (a b:Nat):tot (pk2 a b) 2=a+b:=by show 0+a+b=_; omega
theorem catIn2 {w:World} (C:Nat) (p1 p2:Option Addr) (l1 l2 c1 c2:Nat) (z1 z2:Nat→Int) (t:TypeId) (hC:C=w.heap.size) (h1:Src w p1 l1 z1) (h2:Src w p2 l2 z2) (n1:p1=none→c1=0) (n2:p2=none→c2=0) :
 CatIn (w.alloc (.cells #[.slice p1 l1 c1,.slice p2 l2 c2] t)) ⟨C,0,none⟩ 2 (pk2 p1 p2) (pk2 l1 l2) (pk2 c1 c2) (pk2 z1 z2):=by
 have hb:=(Below.refl w.heap.size w).alloc (xnR _) (.cells #[.slice p1 l1 c1,.slice p2 l2 c2] t)
 refine ⟨fun j hj=>?_,fun j hj=>?_,fun j hj=>?_⟩
 · rw [Addr.add_mid,World.cell?_alloc_at _ _ _ _ hC]
   match j,hj with
   | 0,_ | 1,_=>rfl
   | _+2,h=>omega
 · match j,hj with
   | 0,_=>exact h1.below hb (xnR _)
   | 1,_=>exact h2.below hb (xnR _)
   | _+2,h=>omega
 · match j,hj with
   | 0,_=>exact n1
   | 1,_=>exact n2
   | _+2,h=>omega
theorem catz2 (a b:Nat) (z1 z2:Nat→Int) (j:Nat):catz (pk2 a b) (pk2 z1 z2) 2 j=app z1 a z2 j:=by
 show app (app (fun _=>0) 0 z1) (0+a) z2 j=app z1 a z2 j
 unfold app
 rw [Nat.zero_add]
 by_cases h:j<a
 · rw [if_pos h,if_pos h,if_neg (xnZ j),Nat.sub_zero]
 · rw [if_neg h,if_neg h]
theorem clone_any (sp:Option Addr) (len cap:Nat) (hlen:len≤140737488351248) (hc:len≤cap) (hnil:sp=none→cap=0) (z:Nat→Int) (w:World) (hs:Src w sp len z) :
 Calls Tryz.prog 45 #[.slice sp len cap] w fun e w'=>∃ v,e=.returned v∧Own w' w.heap.size 5 .u8 len z v∧Below w.heap.size w w':=by
 have hB:=Below.refl w.heap.size w
 cases sp with
 | none =>
   obtain rfl:len=0:=by have:=hnil rfl; omega
   obtain rfl:=hnil rfl
   go_enter Tryz.func45,Tryz.ntmps45
   go_upto_region 1 with fail; refine wp_region_list ?_; refine xpL (.slice none 0 0) ?_; refine xqL (.bool true) (fun w=>eqlNil 29 5 _ _ _ none 0 0 true rfl rfl rfl Tryz.underlying29 rfl w) ?_; show Exit.then _ _ _ _ _; go_wp2; go_ret
   exact ⟨_,rfl,World.ownsRow_nil w _ _ 1,hB⟩
 | some ad =>
   go_enter Tryz.func45,Tryz.ntmps45
   go_upto_region 1 with fail; refine wp_region_list ?_; refine xpL (.slice (some ad) len cap) ?_; refine xqL (.bool false) (fun w=>eqlNil 29 5 _ _ _ (some ad) len cap false rfl rfl rfl Tryz.underlying29 rfl w) ?_; show Exit.then _ _ _ _ _; go_upto_region 3 with fail; refine wp_region_list ?_
   refine actL (w':=w.alloc (.cells #[] 5)) (.slice (some ⟨w.heap.size,0,none⟩) 0 0) rfl (by kernel_rfl) ?_; simp only [aP,lI,l0,lS]; refine xpL (.slice (some ad) len cap) ?_; have hb1:=(Below.refl w.heap.size w).alloc (xnR _) (.cells #[] 5)
   obtain ⟨v,w2,hr,ho,hgr,_⟩:=run_append_Own (P:=Tryz.prog) (ty:=29) Tryz.underlying29 one8 (Own.lit w w.heap.size 5 .u8 0 (fun _=>0) (xnR _) (by unfold maxLen; omega)) (some ad) (len) (cap) (z) ((hs).below hb1 (xnR _)) (fun e=>by cases e) (by unfold maxLen; omega) (by omega) hb1.size
   have hb2:=hb1.grown hgr hb1.size (fun b hb=>by injection hb with hb; simp only at hb; omega); refine xaL v (appendOp _ _ 29 _ _ _ rfl rfl rfl hr) ?_
   have hO:Own w2 w.heap.size 5 .u8 (len) (z) v:=by
    rw [Nat.zero_add] at ho
    exact ho.congr fun j _=>by unfold app; rw [if_neg (xnZ j),Nat.sub_zero]
   clear hr ho hgr hb1; refine xpL v ?_; show Exit.then _ _ _ _ _; go_wp2; go_ret
   exact ⟨_,rfl,hO,hb2⟩
theorem or_low (x d:Nat) (hd:d<256) (hx:x*256<9223372036854775808):bits .or .i64 ((x*256:Nat):Int) (d:Int)=((x*256+d:Nat):Int):=by
 have h1:(BitVec.ofInt 64 ((x*256:Nat):Int)).toNat=x*256:=by rw [BitVec.toNat_ofInt]; omega
 have h2:(BitVec.ofInt 64 ((d:Nat):Int)).toNat=d:=by rw [BitVec.toNat_ofInt]; omega
 have h3:x*256 ||| d=x*256+d:=by
  have:=Nat.two_pow_add_eq_or_of_lt (i:=8) (b:=d) (by omega) x
  rw [show (2:Nat)^8=256 from rfl,Nat.mul_comm] at this
  exact this.symm
 show IntKind.i64.wrap ((BitVec.ofInt 64 ((x*256:Nat):Int) ||| BitVec.ofInt 64 ((d:Nat):Int)).toNat:Nat)=_
 rw [BitVec.toNat_or,h1,h2,h3,xw6]
 omega
theorem fby_tail (n s j:Nat) (hs:s≤8) (hj:j<s):fby n 8 (8-s+j)=fby n s j:=by
 unfold fby
 rw [show 8-1-(8-s+j)=s-1-j by omega]
theorem vidx8 (b i:Nat) (hi:i<8) (w:World) {o:Oper} {a:Act} (x y:Operand) (ho:o.op=.indexAddr 159 x y) (hx:a.eval x=.pointer (some ⟨b,0,none⟩)) (hy:a.eval y=.int .i64 (i:Int)) :
 (execOp a.eval o).run Tryz.prog w=.ok (.value (.pointer (some ⟨b,i,none⟩))) w:=by
 have h:=idxArr (P:=Tryz.prog) 159 5 8 .i64 b 0 i x y Tryz.underlying159 (fun _=>by kernel_rfl) hi ho hx hy w
 rw [Nat.zero_add] at h
 exact h
theorem cut8 (b s:Nat) (hs:1≤s∧s≤8) (w:World):(Instr.sliceAt 159 (.pointer (some ⟨b,0,none⟩)) (some (.int .i64 ((8-s:Nat):Int))) none none).run Tryz.prog w=.ok (.slice (some ⟨b,8-s,none⟩) s s) w:=by
 have hl:Tryz.prog.arrayLen 159=8:=by kernel_rfl
 have hz:∀ w,(sizeOf (Tryz.prog.elem 159)).run Tryz.prog w=.ok 1 w:=fun w=>by kernel_rfl
 rw [run_sliceAt_array_l w 159 ⟨b,0,none⟩ (by kernel_rfl) .i64 _ (by omega) (by rw [hl]; omega),hz,hl]
 simp only [Result.andThen,slicedAt]
 rw [Int.toNat_natCast,if_neg (by omega),Addr.add_mid,Nat.zero_add,Nat.mul_one,show 8-(8-s)=s by omega]
theorem lowest_any (n s:Nat) (hs:1≤s∧s≤8) (w:World) :
 Calls Tryz.prog 80 #[.int .i64 (n:Int),.int .i64 (s:Int)] w fun e w'=>e=.returned (.slice (some ⟨w.heap.size,8-s,none⟩) s s)∧Kr w (w.heap.size+1) [(w.heap.size,.u8,8,fby n 8)] [] w':=by
 go_enter Tryz.func80,Tryz.ntmps80
 go_upto_region 1 with fail; refine wp_region_list ?_; refine allocL (row .u8 8 (fun _=>0)).toArray 159 rfl (fun _=>by kernel_rfl) ?_; simp only [aP,lI,l0,lS]; have K:=(Kr.init w).box .u8 8 (fun _=>0) 159 w.heap.size rfl; generalize w.alloc (.cells (row .u8 8 (fun _=>0)).toArray 159)=w1 at K ⊢; show Exit.then _ _ _ _ _; go_wp2
 go_loopw [7] (fun i w'=>∃ (m:Nat) (f:Nat→Int),m≤8∧i=.int .i64 (m:Int)∧Kr w (w.heap.size+1) [(w.heap.size,.u8,8,f)] [] w'∧∀ j,8-m≤j→j<8→f j=fby n 8 j) (fun i _=>8-(intOf i).toNat)
 case atStart=>exact ⟨0,_,by omega,rfl,K,fun j h1 h2=>by omega⟩
 case round =>
  clear K
  obtain ⟨m,f,hm,rfl,K,hd⟩:=hrel
  have g1:(0:Int)≤(m:Int):=by omega
  by_cases hlt:m<8
  · have g2:(m:Int)<8:=by omega
    have h7:7-m<8:=by omega
    go_upto_region 5 with fail; refine wp_region_list ?_; refine xpL (.int .i64 (m:Int)) ?_; refine xqL (.int .i64 ((7-m:Nat):Int)) (fun w=>subI .i64 _ _ _ _ _ _ _ rfl rfl rfl (by rw [xw6]; omega) w) ?_; refine xpL (.int .i64 (n:Int)) ?_; refine xpL (.int .i64 (m:Int)) ?_
    refine xqL (.int .i64 ((8*m:Nat):Int)) (fun w=>mulI .i64 _ _ _ _ _ _ _ rfl rfl rfl (by rw [xw6]; omega) w) ?_; refine xqL (.int .i64 ((n/256^m:Nat):Int)) (fun w=>shrI .i64 .i64 _ _ _ _ _ _ _ rfl rfl rfl (by omega) (shr_byte n m (by omega)) w) ?_
    refine xqL (.int .u8 (fby n 8 (7-m))) (fun w=>convI .i64 .u8 _ _ _ _ _ rfl (by kernel_rfl) Tryz.underlying5 (by kernel_rfl) rfl (by rw [IntKind.wrap_u8']; unfold fby; rw [show 8-1-(7-m)=m by omega]; omega) w) ?_
    refine xqL (.pointer (some ⟨w.heap.size,7-m,none⟩)) (fun w'=>vidx8 (w.heap.size) (7-m) h7 w' _ _ rfl rfl rfl) ?_
    refine storeL .u8 (fby n 8 (7-m)) (w.heap.size) (7-m) 5 _ _ rfl rfl rfl rfl (by rw [(K.get _ _ _ _ mS).cell (7-m) h7]; rfl) ((K.get _ _ _ _ mS).free (7-m) h7) (by kernel_rfl) ?_
    simp only [Act.put]; replace K:=K.setCell [] (w.heap.size) .u8 8 f (7-m) h7 (fby n 8 (7-m)) mS (fun _ hp=>by cases hp) (fun _ hp=>by cases hp) (xnR _)
    have HS:=show Hid _ from (And.intro K (show ∀ j,8-(m+1)≤j→j<8→upd f (7-m) (fby n 8 (7-m)) j=fby n 8 j from fun j h1 h2=>by
     by_cases e:j=7-m
     · subst e; rw [upd_same]
     · rw [upd_other _ _ _ _ e]; exact hd j (by omega) h2))
    clear K hd; generalize wr.setCell ⟨w.heap.size,7-m,none⟩ (.int .u8 (fby n 8 (7-m)))=w4 at HS ⊢; generalize upd f (7-m) (fby n 8 (7-m))=f' at HS
    show Exit.inBlock _ _ _ _ _
    go_wp2
    go_roundw
    case rel=>first | exact ⟨m+1,f',by omega,by go_num,HS.out⟩ | ((repeat apply Exists.intro); refine ⟨⟨m+1,f',by omega,by go_num,HS.out⟩,rfl⟩)
    case measure=>simp [intOf]; omega
  · obtain rfl:m=8:=by omega
    replace K:=K.headC (fby n 8) (fun j hj=>hd j (by omega) hj); clear hd hlt hm g1; go_upto_region 7 with fail; refine wp_region_list ?_; refine xpL (.int .i64 (s:Int)) ?_; refine xqL (.int .i64 ((8-s:Nat):Int)) (fun w=>subI .i64 _ _ _ _ _ _ _ rfl rfl rfl (by rw [xw6]; omega) w) ?_
    refine xqL (.slice (some ⟨w.heap.size,8-s,none⟩) s s) (fun w'=>cutOp _ _ _ _ _ _ rfl rfl rfl (cut8 (w.heap.size) s hs w')) ?_; refine xpL (.slice (some ⟨w.heap.size,8-s,none⟩) s s) ?_; show Exit.then _ _ _ _ _; go_wp2; go_ret
    exact ⟨rfl,K⟩
def jV (h:Int) (z:Nat→Int):Nat→Int
 | 0=>h
 | i+1=>jV h z i*256+z i
theorem jV_in (h:Int) (hh:0≤h∧h<64) (z:Nat→Int) (m:Nat) (hz:In 256 m z):∀ i,i≤m→0≤jV h z i∧jV h z i<64*256^i
 | 0,_=>by show 0≤h∧h<64*256^0; omega
 | i+1,hi=>by
   have h1:=jV_in h hh z m hz i (by omega); have h2:=hz i (by omega)
   show 0≤jV h z i*256+z i∧jV h z i*256+z i<64*256^(i+1)
   rw [Int.pow_succ]
   omega
theorem jV_zero (z:Nat→Int):∀ i,jV 0 z i=fV z i
 | 0=>rfl
 | i+1=>by
   show jV 0 z i*256+z i=fV z (i+1)
   rw [jV_zero z i]
   rfl
theorem vjoin_any (h:Int) (hh:0≤h∧h<64) (sp:Option Addr) (len cap:Nat) (hl:len≤7) (z:Nat→Int) (hz:In 256 len z) (w:World) (hs:Src w sp len z) :
 Calls Tryz.prog 82 #[.int .i64 h,.slice sp len cap] w fun e w'=>e=.returned (.int .i64 (jV h z len))∧Below w.heap.size w w':=by
 have hB:=Below.refl w.heap.size w
 go_enter Tryz.func82,Tryz.ntmps82
 go_upto_region 1 with fail; refine wp_region_list ?_; refine xpL (.slice sp len cap) ?_; refine xqL (.int .i64 (len:Int)) (fun w=>lenS _ 29 5 (sp) (len) (cap) rfl Tryz.underlying29 rfl w) ?_; refine xpL (.int .i64 0) ?_; show Exit.then _ _ _ _ _; go_wp2
 go_loopw [0,9] (fun hw i w'=>∃ m:Nat,m≤len∧hw=.int .i64 (jV h z m)∧i=.int .i64 (m:Int)∧w=w') (fun _ i _=>len-(intOf i).toNat)
 case atStart=>exact ⟨0,Nat.zero_le _,rfl,rfl,rfl⟩
 case round =>
  obtain ⟨m,hm,rfl,rfl,rfl⟩:=hrel
  by_cases hlt:m<len
  · have g1:(m:Int)<(len:Int):=by omega
    obtain ⟨ad,rfl,hc⟩:=hs m hlt
    have hzm:=hz m hlt; have hj:=jV_in h hh z len hz m hm
    have hj2:jV h z m<18014398509481984:=by
     have h6:(256:Nat)^m≤256^6:=Nat.pow_le_pow_right (by decide) (by omega)
     have e6:(256:Nat)^6=281474976710656:=by decide
     have e7:((256^m:Nat):Int)=(256:Int)^m:=by norm_cast
     omega
    obtain ⟨x,hx⟩:=xiN hj.1
    obtain ⟨d,hd⟩:=xiN hzm.1
    have hor:bits .or .i64 (jV h z m*256) (z m)=jV h z (m+1):=by
     show _=jV h z m*256+z m
     rw [hx,hd,show ((x:Nat):Int)*256=((x*256:Nat):Int) by omega,or_low x d (by omega) (by omega)]
     omega
    go_upto_region 3 with fail; refine wp_region_list ?_; refine xqL (.pointer (some (ad.add m))) (fun w=>idxSl 29 5 len cap .i64 ad m _ _ Tryz.underlying29 (fun _=>by kernel_rfl) hlt rfl rfl rfl w) ?_; refine xaL (.int .u8 (z m)) (loadAny 5 .u8 _ (ad.add m) _ rfl rfl Tryz.underlying5 hc) ?_; refine xpL (.int .u8 (z m)) ?_; show Exit.then _ _ _ _ _; go_upto_region 4 with fail
    refine wp_region_list ?_; refine xpL (.int .i64 (jV h z m)) ?_
    refine xqL (.int .i64 (jV h z m*256)) (fun w=>shlI .i64 .u64 _ _ _ _ _ _ _ rfl rfl rfl (by omega) (by rw [xw6,show min (8:Int).toNat IntKind.i64.bits=8 from rfl]; omega) w) ?_
    refine xpL (.int .u8 (z m)) ?_; refine xqL (.int .i64 (z m)) (fun w=>convI .u8 .i64 _ _ _ _ _ rfl (by kernel_rfl) Tryz.underlying3 (by kernel_rfl) rfl (by rw [xw6]; omega) w) ?_; refine xqL (.int .i64 (jV h z (m+1))) (fun w=>vorI .i64 _ _ _ _ _ _ _ rfl rfl rfl hor w) ?_; refine xpL (.int .i64 (jV h z (m+1))) ?_; clear hor hx hd hj hj2
    show Exit.inBlock _ _ _ _ _
    go_wp2
    go_roundw
    case rel=>first | exact ⟨m+1,by omega,rfl,by go_num,trivial⟩ | ((repeat apply Exists.intro); refine ⟨⟨m+1,by omega,rfl,by go_num,trivial⟩,rfl⟩)
    case measure=>simp [intOf]; omega
  · obtain rfl:m=len:=by omega
    have g1:¬ (m:Int)<(m:Int):=by omega
    clear hlt hm; go_wp2; go_ret
    exact ⟨rfl,hB⟩
structure Tp (w0:World) (B len:Nat) (z:Nat→Int) (w:World):Prop where
 lo:w0.heap.size≤B
 hi:B<w.heap.size
 cell:∃ sp cap,w.cell? ⟨B,0,none⟩=some (.slice sp len cap)∧len≤cap∧(sp=none→cap=0)∧Src w0 sp len z
 free:w.frozen? ⟨B,0,none⟩=false
 below:Below w0.heap.size w0 w
theorem Tp.call {w0 w w':World} {B len:Nat} {z:Nat→Int} (h:Tp w0 B len z w) (l:Below w.heap.size w w'):Tp w0 B len z w':=by
 obtain ⟨lo,hi,⟨sp,cap,h1,h2⟩,hf,hb⟩:=h
 exact ⟨lo,xnL hi l.size,⟨sp,cap,by rw [l.cell (p:=⟨B,0,none⟩) hi]; exact h1,h2⟩,by rw [l.frozen (p:=⟨B,0,none⟩) hi]; exact hf,hb.trans (l.mono hb.size)⟩
theorem Tp.set {w0 w:World} {B len:Nat} {z:Nat→Int} (h:Tp w0 B len z w) (sp:Option Addr) (len' cap:Nat) (z':Nat→Int) (hc:len'≤cap) (hn:sp=none→cap=0) (hs:Src w0 sp len' z'):Tp w0 B len' z' (w.setCell ⟨B,0,none⟩ (.slice sp len' cap)):=by
 obtain ⟨lo,hi,⟨sp',cap',h1,h2⟩,hf,hb⟩:=h
 exact ⟨lo,by have e:=size_setAll B 0 [.slice sp len' cap] w; simp only [World.setCells] at e; omega,⟨sp,cap,World.cell?_setCell_same' _ _ _ (by rw [h1]; rfl),hc,hn,hs⟩,by rw [World.frozen?_setCell]; exact hf,below_setAll hb B lo 0 [.slice sp len' cap]⟩
theorem storeSl {P:Program} {ops:Array Oper} {Q:Exit→Act→World→Prop} {o':Oper} {rest:List Oper} {a:Act} {w:World} (sp:Option Addr) (n c:Nat) (b:Nat) (ty:TypeId) (x y:Operand) (hw:Region.wanted o' (yielded ops a.tmps)=true) (ho:o'.op=.store ty x y) (hx:a.eval x=.pointer (some ⟨b,0,none⟩)) (hy:a.eval y=.slice sp n c)
 (hc:(w.cell? ⟨b,0,none⟩).isSome=true) (hf:w.frozen? ⟨b,0,none⟩=false) (hz:(P.info? ty).map (·.size)=some 1)
 (h:wpList P ops Q rest (a.put o'.dst undef) (w.setCell ⟨b,0,none⟩ (.slice sp n c))):wpList P ops Q (o'::rest) a w:=by
 have h0:∀ j:Nat,j < [Value.slice sp n c].length→j=0:=fun j hj=>by simpa using hj
 have hst:=run_storeCells_cells (P:=P) b 0 [.slice sp n c] 0 w (fun j hj=>by rw [h0 j hj]; simpa using hc) (fun j hj=>by rw [h0 j hj]; simpa using hf) (fun v hv=>by simp at hv; subst hv; rfl)
 have he:(execOp a.eval o').run P w=.ok .skip (w.setCell ⟨b,0,none⟩ (.slice sp n c)):=by
  cases hq:P.info? ty with
  | none=>simp [hq] at hz
  | some i =>
    have hs:i.size=1:=by simp [hq] at hz; omega
    simp only [Nat.add_zero] at hst
    have e:(storeVar ty ⟨b,0,none⟩ (.slice sp n c)).run P w=.ok () (w.setCell ⟨b,0,none⟩ (.slice sp n c)):=by
     simp [storeVar,sizeOf,typeInfo,hq,Value.cells,hs,hst,World.setCells]
    unfold execOp
    simp only [ho,hx,hy,Instr.storeAt,Instr.sureAddr,Sem.run_bind,Sem.run_pure,Result.andThen_ok,e]
 unfold wpList
 rw [if_pos hw]
 refine .inl ?_
 unfold Oper.wp
 rw [he]
 exact h
theorem along_any (sp:Option Addr) (len cap:Nat) (hc:len≤cap) (hnil:sp=none→cap=0) (z:Nat→Int) (w:World) (hs:Src w sp len z) :
 Calls Tryz.prog 81 #[.slice sp len cap] w fun e w'=>∃ B,e=.returned (.tuple #[(.func (.func 96) #[] #[.pointer (some ⟨B,0,none⟩)]),(.func (.func 97) #[] #[.pointer (some ⟨B,0,none⟩)])])∧Tp w B len z w':=by
 go_enter Tryz.func81,Tryz.ntmps81
 go_upto_region 0 with fail; refine wp_region_list ?_; refine actL (w':=w.alloc (.cells #[.slice sp len cap] 29)) (.pointer (some ⟨w.heap.size,0,none⟩)) rfl (by kernel_rfl) ?_; simp only [aP,lI,l0,lS]; refine xpL .nilFunc ?_; refine xpL .nilFunc ?_
 have T:Tp w w.heap.size len z (w.alloc (.cells #[.slice sp len cap] 29)):=⟨xnR _,by simp,⟨sp,cap,by rw [World.cell?_alloc_at _ _ _ _ rfl]; rfl,hc,hnil,hs⟩,by first | exact World.frozen?_alloc_new _ _ _ _ | (simp [World.frozen?,World.alloc]),(Below.refl _ _).alloc (xnR _) _⟩
 generalize w.alloc (.cells #[.slice sp len cap] 29)=w1 at T ⊢; generalize w.heap.size=B at *; show Exit.then _ _ _ _ _; go_upto_region 1 with fail; refine wp_region_list ?_; refine xpL (.func (.func 96) #[] #[.pointer (some ⟨B,0,none⟩)]) ?_; refine xpL (.func (.func 96) #[] #[.pointer (some ⟨B,0,none⟩)]) ?_; show Exit.then _ _ _ _ _; go_upto_region 2 with fail; refine wp_region_list ?_
 refine xpL (.func (.func 97) #[] #[.pointer (some ⟨B,0,none⟩)]) ?_; refine xpL (.func (.func 97) #[] #[.pointer (some ⟨B,0,none⟩)]) ?_; show Exit.then _ _ _ _ _; go_upto_region 3 with fail; refine wp_region_list ?_; refine xpL (.func (.func 96) #[] #[.pointer (some ⟨B,0,none⟩)]) ?_; refine xpL (.func (.func 97) #[] #[.pointer (some ⟨B,0,none⟩)]) ?_
 refine xpL (.func (.func 96) #[] #[.pointer (some ⟨B,0,none⟩)]) ?_; refine xpL (.func (.func 97) #[] #[.pointer (some ⟨B,0,none⟩)]) ?_; show Exit.then _ _ _ _ _; go_wp2; go_ret2
 exact ⟨B,rfl,T⟩
theorem next_any (w0:World) (B len:Nat) (z:Nat→Int) (m:Nat) (w:World) (T:Tp w0 B len z w) :
 Calls Tryz.prog 96 #[.int .i64 (m:Int),.pointer (some ⟨B,0,none⟩)] w fun e w' =>
  (len<m∧e=.returned (.tuple #[.slice none 0 0,.bool false])∧Tp w0 B len z w') ∨
  (m≤len∧∃ sp cap,e=.returned (.tuple #[.slice sp m cap,.bool true])∧m≤cap∧(sp=none→cap=0)∧Src w0 sp m z∧Tp w0 B (len-m) (fun j=>z (m+j)) w'):=by
 obtain ⟨sp,cap,hcell,hc,hnil,hs⟩:=T.cell
 by_cases h1:len<m
 · go_enter Tryz.func96,Tryz.ntmps96
   go_upto_region 1 with fail; refine wp_region_list ?_; refine xpL (.int .i64 (m:Int)) ?_; refine xaL (.slice sp len cap) (loadSl 29 5 _ ⟨B,0,none⟩ _ rfl rfl Tryz.underlying29 hcell) ?_; refine xqL (.int .i64 (len:Int)) (fun w=>lenS _ 29 5 (sp) (len) (cap) rfl Tryz.underlying29 rfl w) ?_
   refine xqL (.bool true) (fun w=>gtrI .i64 _ _ _ _ _ _ rfl rfl rfl true (decide_eq_true (by omega)) w) ?_; show Exit.then _ _ _ _ _; go_wp2; go_ret2
   exact .inl ⟨h1,rfl,T⟩
 · obtain ⟨cp,hcut1,hcs1,hcn1⟩:=cut_hiN (P:=Tryz.prog) (t:=29) (by kernel_rfl) (fun _=>by kernel_rfl) sp len cap m (by omega) hc hnil
   obtain ⟨cq,hcut2,hcs2,hcn2⟩:=cut_loN (P:=Tryz.prog) (t:=29) (by kernel_rfl) (fun _=>by kernel_rfl) sp len cap m (by omega) hc hnil
   go_enter Tryz.func96,Tryz.ntmps96
   go_upto_region 1 with fail; refine wp_region_list ?_; refine xpL (.int .i64 (m:Int)) ?_; refine xaL (.slice sp len cap) (loadSl 29 5 _ ⟨B,0,none⟩ _ rfl rfl Tryz.underlying29 hcell) ?_; refine xqL (.int .i64 (len:Int)) (fun w=>lenS _ 29 5 (sp) (len) (cap) rfl Tryz.underlying29 rfl w) ?_
   refine xqL (.bool false) (fun w=>gtrI .i64 _ _ _ _ _ _ rfl rfl rfl false (decide_eq_false (by omega)) w) ?_; show Exit.then _ _ _ _ _; go_upto_region 3 with fail; refine wp_region_list ?_; refine xaL (.slice sp len cap) (loadSl 29 5 _ ⟨B,0,none⟩ _ rfl rfl Tryz.underlying29 hcell) ?_; refine xpL (.int .i64 (m:Int)) ?_
   refine xqL (.slice cp m cap) (fun w=>cutHi _ _ _ _ _ _ rfl rfl rfl (hcut1 w)) ?_; refine xpL (.slice cp m cap) ?_; show Exit.then _ _ _ _ _; go_upto_region 4 with fail; refine wp_region_list ?_; refine xaL (.slice sp len cap) (loadSl 29 5 _ ⟨B,0,none⟩ _ rfl rfl Tryz.underlying29 hcell) ?_; refine xpL (.int .i64 (m:Int)) ?_
   refine xqL (.slice cq (len-m) (cap-m)) (fun w=>cutOp _ _ _ _ _ _ rfl rfl rfl (hcut2 w)) ?_; refine storeSl cq (len-m) (cap-m) B 29 _ _ rfl rfl rfl rfl (by rw [hcell]; rfl) T.free (by kernel_rfl) ?_; simp only [Act.put]; replace T:=T.set cq (len-m) (cap-m) (fun j=>z (m+j)) (by omega) hcn2 (hcs2 _ _ hs); replace hs:=hcs1 _ _ hs
   generalize w.setCell ⟨B,0,none⟩ (.slice cq (len-m) (cap-m))=w1 at T ⊢; clear hcut1 hcut2 hcs1 hcs2 hcn2 hcell; show Exit.then _ _ _ _ _; go_upto_region 5 with fail; refine wp_region_list ?_; refine xpL (.slice cp m cap) ?_; refine xpL (.slice cp m cap) ?_; refine xpL (.bool true) ?_; show Exit.then _ _ _ _ _; go_wp2; go_ret2
   exact .inr ⟨by omega,cp,cap,rfl,by omega,hcn1,hs,T⟩
theorem left_any (w0:World) (B len:Nat) (hlen:len≤140737488351240) (z:Nat→Int) (w:World) (T:Tp w0 B len z w) :
 Calls Tryz.prog 97 #[.pointer (some ⟨B,0,none⟩)] w fun e w'=>∃ v,e=.returned v∧Own w' w.heap.size 5 .u8 len z v∧Below w.heap.size w w':=by
 obtain ⟨sp,cap,hcell,hc,hnil,hs⟩:=T.cell
 go_enter Tryz.func97,Tryz.ntmps97
 go_upto_region 1 with fail; refine wp_region_list ?_; refine xaL (.slice sp len cap) (loadSl 29 5 _ ⟨B,0,none⟩ _ rfl rfl Tryz.underlying29 hcell) ?_; refine xcL (clone_any sp len cap (by omega) hc hnil z _ (hs.below T.below (xnR _))) ?_; rintro e w1 ⟨v,rfl,hO,hB⟩; refine xeL ?_; refine xpL v ?_; show Exit.then _ _ _ _ _; go_wp2; go_ret
 exact ⟨v,rfl,hO,hB⟩
theorem isSize_any (s:Int) (w:World):Calls Tryz.prog 79 #[.int .i64 s] w fun e w'=>e=.returned (.bool (decide (1≤s∧s≤7)))∧Below w.heap.size w w':=by
 have hB:=Below.refl w.heap.size w
 by_cases h1:1≤s
 · by_cases h2:s≤7
   · rw [decide_eq_true (And.intro h1 h2)]
     go_enter Tryz.func79,Tryz.ntmps79
     go_wp2; go_ret
     exact ⟨rfl,hB⟩
   · rw [decide_eq_false (fun h=>h2 h.2)]
     go_enter Tryz.func79,Tryz.ntmps79
     go_wp2; go_ret
     exact ⟨rfl,hB⟩
 · rw [decide_eq_false (fun h=>h1 h.1)]
   go_enter Tryz.func79,Tryz.ntmps79
   go_wp2; go_ret
   exact ⟨rfl,hB⟩
theorem shl_bytes (s:Nat) (h:s≤7):IntKind.i64.wrap (1*2^min ((8*s:Nat):Int).toNat IntKind.i64.bits)=((256^s:Nat):Int):=by
 have:s=0∨s=1∨s=2∨s=3∨s=4∨s=5∨s=6∨s=7:=by omega
 rcases this with rfl | rfl | rfl | rfl | rfl | rfl | rfl | rfl <;> rfl
theorem vputfixed_any:PutFixedOK:=by
 intro sp len cap hlen hcap hnil z hz n hn s hs2 w hs
 go_enter Tryz.func59,Tryz.ntmps59
 by_cases hsz':1≤s∧s≤7
 · have hsz:decide (1≤s∧s≤7)=true:=decide_eq_true hsz'
   by_cases h1:n<0
   · have hb:fbad n s:=by unfold fbad; omega
     have e1:fE n s=1:=by unfold fE; rw [if_pos hb]
     have e2:fL len n s=0:=by unfold fL; rw [if_pos hb]
     go_upto_region 1 with fail; refine wp_region_list ?_; refine xpL (.int .i64 s) ?_; refine xcL (isSize_any s _) ?_; rintro e w1 ⟨rfl,hB⟩
     rw [hsz]
     refine xeL ?_; refine xpL (.bool false) ?_; refine xpL (.bool false) ?_; refine xpL (.int .i64 n) ?_; refine xqL (.bool true) (fun w=>lssI .i64 _ _ _ _ _ _ rfl rfl rfl true (decide_eq_true h1) w) ?_; refine xpL (.bool true) ?_; refine xpL (.bool true) ?_; refine skipL (by kernel_rfl) ?_; simp only [aP,lI,l0,lS]; refine skipL (by kernel_rfl) ?_; simp only [aP,lI,l0,lS]
     refine skipL (by kernel_rfl) ?_; simp only [aP,lI,l0,lS]; refine skipL (by kernel_rfl) ?_; simp only [aP,lI,l0,lS]; refine skipL (by kernel_rfl) ?_; simp only [aP,lI,l0,lS]; refine xpL (.bool true) ?_; show Exit.then _ _ _ _ _; go_wp2; go_ret2
     exact ⟨⟨_,by rw [e1]; rfl,by rw [e2]; exact World.ownsRow_nil _ _ _ 1⟩,hB⟩
   · obtain ⟨n,rfl⟩:=xiN (show 0≤n by omega)
     obtain ⟨s,rfl⟩:=xiN (show 0≤s by omega)
     have hpw:(256:Int)^((s:Nat):Int).toNat=((256^s:Nat):Int):=by rw [Int.toNat_natCast]; exact (Int.natCast_pow 256 s).symm
     by_cases h2:256^s≤n
     · have hb:fbad (n:Int) (s:Int):=by unfold fbad; rw [hpw]; omega
       have e1:fE (n:Int) (s:Int)=1:=by unfold fE; rw [if_pos hb]
       have e2:fL len (n:Int) (s:Int)=0:=by unfold fL; rw [if_pos hb]
       go_upto_region 1 with fail; refine wp_region_list ?_; refine xpL (.int .i64 (s:Int)) ?_; refine xcL (isSize_any s _) ?_; rintro e w1 ⟨rfl,hB⟩
       rw [hsz]
       refine xeL ?_; refine xpL (.bool false) ?_; refine xpL (.bool false) ?_; refine xpL (.int .i64 (n:Int)) ?_; refine xqL (.bool false) (fun w=>lssI .i64 _ _ _ _ _ _ rfl rfl rfl false (decide_eq_false (by omega)) w) ?_; refine xpL (.bool false) ?_; refine xpL (.bool false) ?_; refine xpL (.int .i64 (n:Int)) ?_; refine xpL (.int .i64 (s:Int)) ?_
       refine xqL (.int .i64 ((8*s:Nat):Int)) (fun w=>mulI .i64 _ _ _ _ _ _ _ rfl rfl rfl (by rw [xw6]; omega) w) ?_; refine xqL (.int .i64 ((256^s:Nat):Int)) (fun w=>shlI .i64 .i64 _ _ _ _ _ _ _ rfl rfl rfl (by omega) (shl_bytes s (by omega)) w) ?_; refine xqL (.bool true) (fun w=>geqI .i64 _ _ _ _ _ _ rfl rfl rfl true (decide_eq_true (by omega)) w) ?_
       refine xpL (.bool true) ?_; show Exit.then _ _ _ _ _; go_wp2; go_ret2
       exact ⟨⟨_,by rw [e1]; rfl,by rw [e2]; exact World.ownsRow_nil _ _ _ 1⟩,hB⟩
     · have hb:¬ fbad (n:Int) (s:Int):=by unfold fbad; rw [hpw]; omega
       have e1:fE (n:Int) (s:Int)=0:=by unfold fE; rw [if_neg hb]
       have e2:fL len (n:Int) (s:Int)=len+s:=by unfold fL; rw [if_neg hb,Int.toNat_natCast]
       have e3:fput len z (n:Int) (s:Int)=app z len (fby n s):=rfl
       go_upto_region 1 with fail; refine wp_region_list ?_; refine xpL (.int .i64 (s:Int)) ?_; refine xcL (isSize_any s _) ?_; rintro e w1 ⟨rfl,hB⟩
       rw [hsz]
       refine xeL ?_; refine xpL (.bool false) ?_; refine xpL (.bool false) ?_; refine xpL (.int .i64 (n:Int)) ?_; refine xqL (.bool false) (fun w=>lssI .i64 _ _ _ _ _ _ rfl rfl rfl false (decide_eq_false (by omega)) w) ?_; refine xpL (.bool false) ?_; refine xpL (.bool false) ?_; refine xpL (.int .i64 (n:Int)) ?_; refine xpL (.int .i64 (s:Int)) ?_
       refine xqL (.int .i64 ((8*s:Nat):Int)) (fun w=>mulI .i64 _ _ _ _ _ _ _ rfl rfl rfl (by rw [xw6]; omega) w) ?_; refine xqL (.int .i64 ((256^s:Nat):Int)) (fun w=>shlI .i64 .i64 _ _ _ _ _ _ _ rfl rfl rfl (by omega) (shl_bytes s (by omega)) w) ?_; refine xqL (.bool false) (fun w=>geqI .i64 _ _ _ _ _ _ rfl rfl rfl false (decide_eq_false (by omega)) w) ?_
       refine xpL (.bool false) ?_; show Exit.then _ _ _ _ _; go_upto_region 3 with fail; refine wp_region_list ?_; refine xpL (.slice sp len cap) ?_; refine xpL (.int .i64 (n:Int)) ?_; refine xpL (.int .i64 (s:Int)) ?_; refine xcL (lowest_any n s (by omega) _) ?_; rintro e w2 ⟨rfl,R⟩
       have hS:Src w2 (some ⟨w1.heap.size,8-s,none⟩) s (fby n s):=((R.get _ _ _ _ mS).src (8-s) s (by omega)).congr fun j hj=>fby_tail n s j (by omega) hj
       replace hB:=hB.trans (R.below.mono hB.size); clear R; generalize w1.heap.size=B at *; refine xeL ?_; refine actL (w':=w2.alloc (.cells #[.slice sp len cap,.slice (some ⟨B,8-s,none⟩) (s) (s)] 29)) (.slice (some ⟨w2.heap.size,0,none⟩) 2 2) rfl (by kernel_rfl) ?_; simp only [aP,lI,l0,lS]
       have HC:=catIn2 w2.heap.size sp (some ⟨B,8-s,none⟩) len (s) cap (s) z (fby n s) 29 rfl (hs.below hB (xnR _)) hS hnil (fun e=>by cases e); replace hB:=hB.alloc hB.size (.cells #[.slice sp len cap,.slice (some ⟨B,8-s,none⟩) (s) (s)] 29); refine xcL (concat_any ⟨w2.heap.size,0,none⟩ 2 2 _ _ _ _ (by decide) (by rw [tot2]; omega) _ HC) ?_; rintro e w3 ⟨v,rfl,hO,hb⟩
       rw [tot2] at hO
       have hO2:Own w3 w.heap.size 5 .u8 (len+s) (app z len (fby n s)) v:=(hO.congr fun j _=>catz2 _ _ _ _ j).lower hB.size
       replace hB:=hB.trans (hb.mono hB.size); clear hO hb HC hS; refine xeL ?_; refine xpL v ?_; refine xpL (.int .i64 0) ?_; show Exit.then _ _ _ _ _; go_wp2; go_ret2
       exact ⟨⟨v,by rw [e1]; rfl,by rw [e2,e3]; exact hO2⟩,hB⟩
 · have hsz:decide (1≤s∧s≤7)=false:=decide_eq_false hsz'
   have hb:fbad n s:=by unfold fbad; omega
   have e1:fE n s=1:=by unfold fE; rw [if_pos hb]
   have e2:fL len n s=0:=by unfold fL; rw [if_pos hb]
   go_upto_region 1 with fail; refine wp_region_list ?_; refine xpL (.int .i64 s) ?_; refine xcL (isSize_any s _) ?_; rintro e w1 ⟨rfl,hB⟩
   rw [hsz]
   refine xeL ?_; refine xpL (.bool true) ?_; refine xpL (.bool true) ?_; refine skipL (by kernel_rfl) ?_; simp only [aP,lI,l0,lS]; refine skipL (by kernel_rfl) ?_; simp only [aP,lI,l0,lS]; refine xpL (.bool true) ?_; refine xpL (.bool true) ?_; refine skipL (by kernel_rfl) ?_; simp only [aP,lI,l0,lS]; refine skipL (by kernel_rfl) ?_; simp only [aP,lI,l0,lS]
   refine skipL (by kernel_rfl) ?_; simp only [aP,lI,l0,lS]; refine skipL (by kernel_rfl) ?_; simp only [aP,lI,l0,lS]; refine skipL (by kernel_rfl) ?_; simp only [aP,lI,l0,lS]; refine xpL (.bool true) ?_; show Exit.then _ _ _ _ _; go_wp2; go_ret2
   exact ⟨⟨_,by rw [e1]; rfl,by rw [e2]; exact World.ownsRow_nil _ _ _ 1⟩,hB⟩
end Go.Proofs.YtknodedhcdpbiaaGreatDoor
