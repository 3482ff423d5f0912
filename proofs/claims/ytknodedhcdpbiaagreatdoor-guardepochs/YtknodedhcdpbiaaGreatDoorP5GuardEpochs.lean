/- Texts of LawGuardEpochs Oi Gv Mi Fl Fm Fn Hz Fo Fp, joined. -/
import Derived.Test.YtknodedhcdpbiaaGreatDoorP4GuardEpochs
import Derived.Maps.Range
set_option maxRecDepth 20000
set_option maxHeartbeats 64000000
namespace Go.Proofs.YtknodedhcdpbiaaGreatDoor
open Go.RowKit
section
section
variable (x y:Nat→Int) (f t:Int) (a b:List Int)
def es0:Grd:=gat 0 x y f t
def eo0:Grd:=gat 1 y x t f
def es1:Grd:=gsN (es0 x y f t) 3 a.length
def es2:Grd:=gaN (es1 x y f t a)
def es3:Grd:=gsN (es2 x y f t a) 3 b.length
def ep0:List Int:=gsB (es0 x y f t) 3 a
def eq0:List Int:=gsB (es2 x y f t a) 3 b
def eo1:Grd:=gbN (eo0 x y f t) (eq0 x y f t a b)
def eo2:Grd:=gbN (eo1 x y f t a b) (ep0 x y f t a)
theorem es0_w (hx:In 256 32 x) (hy:In 256 32 y):GrdW (es0 x y f t):=gat_w 0 hx hy f t
theorem eo0_w (hx:In 256 32 x) (hy:In 256 32 y):GrdW (eo0 x y f t):=gat_w 1 hy hx t f
theorem es1_w (hx:In 256 32 x) (hy:In 256 32 y):GrdW (es1 x y f t a):=gsN_w (es0_w x y f t hx hy) _ _
theorem es2_w (hx:In 256 32 x) (hy:In 256 32 y):GrdW (es2 x y f t a):=gaN_w (es1_w x y f t a hx hy)
theorem eo1_w (hx:In 256 32 x) (hy:In 256 32 y):GrdW (eo1 x y f t a b):=gbN_w (eo0_w x y f t hx hy) _
theorem es0_E (la:a.length≤256):gsE (es0 x y f t) 3 a.length=0:=gsE_zero ⟨by decide,by decide⟩ la (show (0:Int)≤281474976710655 by decide)
theorem es1_out:(es1 x y f t a).out=yat x f:=by unfold es1 gsN; split <;> rfl
theorem es1_role:(es1 x y f t a).role=0:=by unfold es1 gsN; split <;> rfl
theorem es2_eq (he:¬ 65535≤(yat x f).e):(es2 x y f t a).out=yad (yat x f)∧(es2 x y f t a).cnt=(fun _=>0)∧(es2 x y f t a).role=0:=by
 have h1:=es1_out x y f t a
 unfold es2
 rw [gaN_on (by rw [h1]; exact he)]
 exact ⟨congrArg yad h1,rfl,es1_role x y f t a⟩
theorem es2_E (lb:b.length≤256) (he:¬ 65535≤(yat x f).e):gsE (es2 x y f t a) 3 b.length=0:=gsE_zero ⟨by decide,by decide⟩ lb (by rw [(es2_eq x y f t a he).2.1]; decide)
theorem es_opp2 (he:¬ 65535≤(yat x f).e):Opp (es2 x y f t a) (eo0 x y f t):=by
 obtain ⟨h1,_,h3⟩:=es2_eq x y f t a he
 refine ⟨by rw [h3]; show ¬ (0:Int)=1; decide,.inr (.inl ?_)⟩
 rw [h1,yad_on he]
 exact ⟨rfl,rfl⟩
theorem es_open2 (hx:In 256 32 x) (hy:In 256 32 y) (hb:Byts b) (lb:b.length≤256) (he:¬ 65535≤(yat x f).e):gbE (eo0 x y f t) (eq0 x y f t a b)=0∧gbP (eo0 x y f t) (eq0 x y f t a b)=3∧gbC (eo0 x y f t) (eq0 x y f t a b)=0∧gbT (eo0 x y f t) (eq0 x y f t a b)=b∧eo1 x y f t a b=goN (eo0 x y f t) (gpk (es2 x y f t a) 3 (gsT (es2 x y f t a) 3 b))∧goR (eo0 x y f t) (gpk (es2 x y f t a) 3 (gsT (es2 x y f t a) 3 b))=0:=by
 have hc:(es2 x y f t a).cnt 3=0:=by rw [(es2_eq x y f t a he).2.1]
 have h:=(es_opp2 x y f t a he).opens (es2_w x y f t a hx hy) hb (es2_E x y f t a b lb he) (by rw [hc]; exact (wchk_zero (by decide) (by decide) (by decide) (by simp):wchk [] 0=0))
 rw [hc] at h
 exact h
theorem eo1_eq (hx:In 256 32 x) (hy:In 256 32 y) (hb:Byts b) (lb:b.length≤256) (he:¬ 65535≤(yat x f).e):(eo1 x y f t a b).inn=yad (yat x f)∧(eo1 x y f t a b).role=1∧(eo1 x y f t a b).win (yat x f).e 3=[]:=by
 obtain ⟨_,_,_,_,h5,h6⟩:=es_open2 x y f t a b hx hy hb lb he
 obtain ⟨g1,_,_⟩:=es2_eq x y f t a he
 have e1:(gpk (es2 x y f t a) 3 (gsT (es2 x y f t a) 3 b)).epo=(eo0 x y f t).inn.e+1:=by
  show (es2 x y f t a).out.e=(yat x f).e+1
  rw [g1,yad_on he]
 refine ⟨by rw [h5,goN_next h6 e1]; rfl,by rw [h5,goN_role]; rfl,?_⟩
 rw [h5,goN_ok h6,if_pos e1]
 show (if (yat x f).e=(es2 x y f t a).out.e∧(3:Int)=3 then _ else (if (yat x f).e<(yat x f).e then [] else ([]:List Int)))=[]
 rw [if_neg (by rw [g1,yad_on he]; rintro ⟨c,_⟩; have c:(yat x f).e=(yat x f).e+1:=c; omega),if_neg (by omega)]
theorem es_opp1 (hx:In 256 32 x) (hy:In 256 32 y) (hb:Byts b) (lb:b.length≤256) (he:¬ 65535≤(yat x f).e):Opp (es0 x y f t) (eo1 x y f t a b):=by
 obtain ⟨h1,h2,_⟩:=eo1_eq x y f t a b hx hy hb lb he
 refine ⟨by rw [h2]; show ¬ (0:Int)=1; decide,.inr (.inr ?_)⟩
 rw [h1,yad_on he]
 exact ⟨show (yat x f).e=(yat x f).e+1-1 by omega,rfl,rfl⟩
theorem es_open1 (hx:In 256 32 x) (hy:In 256 32 y) (ha:Byts a) (hb:Byts b) (la:a.length≤256) (lb:b.length≤256) (he:¬ 65535≤(yat x f).e):gbE (eo1 x y f t a b) (ep0 x y f t a)=0∧gbP (eo1 x y f t a b) (ep0 x y f t a)=3∧gbC (eo1 x y f t a b) (ep0 x y f t a)=0∧gbT (eo1 x y f t a b) (ep0 x y f t a)=a∧eo2 x y f t a b=goN (eo1 x y f t a b) (gpk (es0 x y f t) 3 (gsT (es0 x y f t) 3 a))∧goR (eo1 x y f t a b) (gpk (es0 x y f t) 3 (gsT (es0 x y f t) 3 a))=0:=by
 have h:=(es_opp1 x y f t a b hx hy hb lb he).opens (es0_w x y f t hx hy) ha (es0_E x y f t a la) (by
  show wchk ((eo1 x y f t a b).win (yat x f).e 3) 0=0
  rw [(eo1_eq x y f t a b hx hy hb lb he).2.2]
  exact wchk_zero (by decide) (by decide) (by decide) (by simp))
 exact h
theorem eo2_inn (hx:In 256 32 x) (hy:In 256 32 y) (ha:Byts a) (hb:Byts b) (la:a.length≤256) (lb:b.length≤256) (he:¬ 65535≤(yat x f).e):(eo2 x y f t a b).inn=yad (yat x f):=by
 obtain ⟨_,_,_,_,h5,_⟩:=es_open1 x y f t a b hx hy ha hb la lb he
 have h1:=(eo1_eq x y f t a b hx hy hb lb he).1
 rw [h5,goN_now (by rw [h1,yad_on he]; show ¬ (yat x f).e=(yat x f).e+1+1; omega),h1]
end
theorem law_GuardEpochs {I:GrdI} (hK:GrdOK I) (hN:GrdNew I) (hA:GrdAt I) (hE:GrdEpo I) (x y:Nat→Int) (f t:Int) (hx:In 256 32 x) (hy:In 256 32 y) (hf:i64 f) (ht:i64 t) (spa:Option Addr) (capa:Nat) (a:List Int) (maxa:a.length≤140737488351232) (lea:a.length≤capa) (nila:spa=none→capa=0) (bya:Byts a) (spb:Option Addr) (capb:Nat) (b:List Int) (maxb:b.length≤140737488351232) (leb:b.length≤capb) (nilb:spb=none→capb=0) (byb:Byts b) (w0:World) (hg:GGlob w0) (srca:Src w0 spa a.length (bl a)) (srcb:Src w0 spb b.length (bl b)) :
 Calls Tryz.prog 6 #[.agg ([row .u8 32 x,row .u8 32 y,[Value.int .i64 f],[Value.int .i64 t]].flatten).toArray,.slice spa a.length capa,.slice spb b.length capb] w0 fun e w'=>e=.returned (.bool true)∧Below w0.heap.size w0 w':=by
 have hlo:0≤(yat x f).e:=(yat_w hx f).lo
 have hhi:(yat x f).e≤65535:=(yat_w hx f).hi
 have M:=Mm.init w0
 go_enter Tryz.func6,Tryz.ntmps6
 go_upto_region 0 with fail; refine wp_region_list ?_; have hlb:=(Below.refl w0.heap.size w0).alloc (xnR _) (.cells ([row .u8 32 x,row .u8 32 y,[Value.int .i64 f],[Value.int .i64 t]].flatten).toArray 50)
 refine actL (w':=w0.alloc (.cells ([row .u8 32 x,row .u8 32 y,[Value.int .i64 f],[Value.int .i64 t]].flatten).toArray 50)) (.pointer (some ⟨w0.heap.size,0,none⟩)) rfl (by kernel_rfl) ?_; simp only [aP,lI,l0,lS]; replace M:=M.box ([row .u8 32 x,row .u8 32 y,[Value.int .i64 f],[Value.int .i64 t]].flatten).toArray 50 w0.heap.size rfl; clear hlb
 generalize w0.alloc (.cells ([row .u8 32 x,row .u8 32 y,[Value.int .i64 f],[Value.int .i64 t]].flatten).toArray 50)=w1 at M  ⊢
 have hA_B1:w0.heap.size≤w0.heap.size:=xnR _
 generalize eB_:w0.heap.size=B1 at M hA_B1 ⊢
 replace hA_B1:w0.heap.size≤B1:=Nat.le_of_eq eB_
 clear eB_
 replace M:Mm w0 ((B1,[row .u8 32 x,row .u8 32 y,[Value.int .i64 f],[Value.int .i64 t]].flatten)::([]:List (Nat × List Value))) w1:=M
 refine xpL (.bool false) ?_; refine xT ?_; go_upto_region 1 with fail; refine wp_region_list ?_; refine xcL (shown16_any hK hN _ (hg.mm M)) ?_; rintro e w2 ⟨rfl,l⟩; replace M:=M.call l; clear l; refine xeL ?_; refine xpL (.bool true) ?_; refine xT ?_; go_upto_region 2 with fail; refine wp_region_list ?_; refine xpL (.pointer (some ⟨B1,0,none⟩)) ?_
 refine xaL (.agg (row .u8 32 x).toArray) (loadN 23 _ ⟨B1,0,none⟩ (row .u8 32 x) rfl rfl (fun _=>by kernel_rfl) (fun _=>by rw [row32]; kernel_rfl) (M.part mS 0 _ (flat_part _ [32,32,1,1] (by kernel_rfl) 0 0 _ rfl rfl))) ?_; refine xpL (.pointer (some ⟨B1,32,none⟩)) ?_
 refine xaL (.agg (row .u8 32 y).toArray) (loadN 23 _ ⟨B1,32,none⟩ (row .u8 32 y) rfl rfl (fun _=>by kernel_rfl) (fun _=>by rw [row32]; kernel_rfl) (M.part mS 32 _ (flat_part _ [32,32,1,1] (by kernel_rfl) 1 32 _ rfl rfl))) ?_; refine xpL (.pointer (some ⟨B1,64,none⟩)) ?_
 refine xaL (.int .i64 f) (load1 3 _ ⟨B1,64,none⟩ _ rfl rfl (fun _=>by kernel_rfl) (M.get mS 64 _ (flat_get _ [32,32,1,1] (by kernel_rfl) 2 64 _ rfl rfl))) ?_; refine xpL (.pointer (some ⟨B1,65,none⟩)) ?_; refine xaL (.int .i64 t) (load1 3 _ ⟨B1,65,none⟩ _ rfl rfl (fun _=>by kernel_rfl) (M.get mS 65 _ (flat_get _ [32,32,1,1] (by kernel_rfl) 3 65 _ rfl rfl))) ?_
 have key:=hA w0 _ _ 0 x y f t hg (by unfold i64; decide) hx hy hf ht M; refine xcL key ?_; clear key; rintro e w3 ⟨v_,bs0,rfl,hIs,M',l⟩
 obtain ⟨Rs,rfl⟩:=hK.ptr _ _ _ _ hIs
 clear M; have M:=M'.perm (pull0 ([(B1,[row .u8 32 x,row .u8 32 y,[Value.int .i64 f],[Value.int .i64 t]].flatten)]:List (Nat × List Value)) bs0 ([]:List (Nat × List Value))).symm; clear M'; clear l
 replace M:Mm w0 ((B1,[row .u8 32 x,row .u8 32 y,[Value.int .i64 f],[Value.int .i64 t]].flatten)::(bs0++([]:List (Nat × List Value)))) w3:=M
 refine xeL ?_; refine xpL (.pointer (some ⟨Rs,0,none⟩)) ?_; refine xT ?_; go_upto_region 3 with fail; refine wp_region_list ?_; refine xpL (.pointer (some ⟨B1,32,none⟩)) ?_
 refine xaL (.agg (row .u8 32 y).toArray) (loadN 23 _ ⟨B1,32,none⟩ (row .u8 32 y) rfl rfl (fun _=>by kernel_rfl) (fun _=>by rw [row32]; kernel_rfl) (M.part mS 32 _ (flat_part _ [32,32,1,1] (by kernel_rfl) 1 32 _ rfl rfl))) ?_; refine xpL (.pointer (some ⟨B1,0,none⟩)) ?_
 refine xaL (.agg (row .u8 32 x).toArray) (loadN 23 _ ⟨B1,0,none⟩ (row .u8 32 x) rfl rfl (fun _=>by kernel_rfl) (fun _=>by rw [row32]; kernel_rfl) (M.part mS 0 _ (flat_part _ [32,32,1,1] (by kernel_rfl) 0 0 _ rfl rfl))) ?_; refine xpL (.pointer (some ⟨B1,65,none⟩)) ?_
 refine xaL (.int .i64 t) (load1 3 _ ⟨B1,65,none⟩ _ rfl rfl (fun _=>by kernel_rfl) (M.get mS 65 _ (flat_get _ [32,32,1,1] (by kernel_rfl) 3 65 _ rfl rfl))) ?_; refine xpL (.pointer (some ⟨B1,64,none⟩)) ?_; refine xaL (.int .i64 f) (load1 3 _ ⟨B1,64,none⟩ _ rfl rfl (fun _=>by kernel_rfl) (M.get mS 64 _ (flat_get _ [32,32,1,1] (by kernel_rfl) 2 64 _ rfl rfl))) ?_
 have key:=hA w0 _ _ 1 y x t f hg (by unfold i64; decide) hy hx ht hf M; refine xcL key ?_; clear key; rintro e w4 ⟨v_,bo0,rfl,hIo,M',l⟩
 obtain ⟨Ro,rfl⟩:=hK.ptr _ _ _ _ hIo
 clear M; have M:=M'.perm (pull0 ([(B1,[row .u8 32 x,row .u8 32 y,[Value.int .i64 f],[Value.int .i64 t]].flatten)]:List (Nat × List Value)) bo0 (bs0++([]:List (Nat × List Value)))).symm; clear M'; replace hIs:=hK.bel hIs l; clear l
 replace M:Mm w0 ((B1,[row .u8 32 x,row .u8 32 y,[Value.int .i64 f],[Value.int .i64 t]].flatten)::(bo0++(bs0++([]:List (Nat × List Value))))) w4:=M
 refine xeL ?_; refine xpL (.pointer (some ⟨Ro,0,none⟩)) ?_; refine xT ?_; go_upto_region 4 with fail; refine wp_region_list ?_; refine xpL (.bool true) ?_; refine xpL (.bool false) ?_; refine xpL (.bool false) ?_; refine xpL (.pointer (some ⟨Rs,0,none⟩)) ?_; refine xpL (.bool false) ?_; refine xpL (.bool false) ?_; refine xpL (.bool false) ?_; refine xpL (.pointer (some ⟨Ro,0,none⟩)) ?_
 refine xpL (.bool false) ?_; refine xpL (.bool false) ?_; refine xT ?_
 by_cases la:a.length≤256
 · by_cases lb:b.length≤256
   · go_upto_region 6 with fail
     refine wp_region_list ?_; refine xpL (.slice spa a.length capa) ?_; refine xaL (.int .i64 ((a.length:Nat):Int)) (lenS _ 29 5 spa a.length capa rfl Tryz.underlying29 rfl _) ?_; refine xaL (.bool false) (gtrI .i64 _ _ _ _ _ _ rfl rfl rfl false (decide_eq_false (by omega)) _) ?_; refine xpL (.bool false) ?_; refine xpL (.slice spb b.length capb) ?_
     refine xaL (.int .i64 ((b.length:Nat):Int)) (lenS _ 29 5 spb b.length capb rfl Tryz.underlying29 rfl _) ?_; refine xaL (.bool false) (gtrI .i64 _ _ _ _ _ _ rfl rfl rfl false (decide_eq_false (by omega)) _) ?_; refine xpL (.bool false) ?_; refine xT ?_
     have hlp:(ep0 x y f t a).length=a.length+27:=gsB_len (es0_E x y f t a la)
     go_upto_region 8 with fail; refine wp_region_list ?_; refine xpL (.pointer (some ⟨Rs,0,none⟩)) ?_; refine xpL (.slice spa a.length capa) ?_; have Mp:=M.perm (pull1 ([(B1,[row .u8 32 x,row .u8 32 y,[Value.int .i64 f],[Value.int .i64 t]].flatten)]:List (Nat × List Value)) bo0 bs0 ([]:List (Nat × List Value)))
     have key:=hK.sel w0 _ _ (es0 x y f t) bs0 _ 3 spa capa a hg (es0_w x y f t hx hy) (by unfold i64; decide) hIs maxa lea nila bya Mp ((SrcA.of_old srca Mp.los).off (Off.of_below Mp.below))
     rw [es0_E x y f t a la] at key
     rw [show gsN (es0 x y f t) 3 a.length=es1 x y f t a from rfl] at key
     rw [show gsB (es0 x y f t) 3 a=ep0 x y f t a from rfl] at key
     refine xcL key ?_; clear key; rintro e w5 ⟨p5,c5,bs1,rfl,N_5,hI_,M',o1⟩; replace hIo:=hK.off _ _ _ _ _ _ hIo o1 (Mp.awayG (fun p_ hp_=>by simp [hp_])); clear o1 Mp M hIs; have hIs:=hI_; clear hI_
     have M:Mm w0 ((B1,[row .u8 32 x,row .u8 32 y,[Value.int .i64 f],[Value.int .i64 t]].flatten)::(bs1++((obs p5)++(bo0++([]:List (Nat × List Value)))))) w5:=M'.perm (pullY ([(B1,[row .u8 32 x,row .u8 32 y,[Value.int .i64 f],[Value.int .i64 t]].flatten)]:List (Nat × List Value)) bs1 (obs p5) (bo0++([]:List (Nat × List Value))))
     clear M'; refine xeL ?_; refine xpL (.tuple #[.slice p5 ((ep0 x y f t a).length) c5,.int .i64 0]) ?_; refine xpL (.slice p5 ((ep0 x y f t a).length) c5) ?_; refine xpL (.int .i64 0) ?_; refine xpL (.slice p5 ((ep0 x y f t a).length) c5) ?_; refine xpL (.int .i64 0) ?_; refine xT ?_; go_upto_region 9 with fail; refine wp_region_list ?_; refine xpL (.pointer (some ⟨Rs,0,none⟩)) ?_
     have Mp:=M.perm (pull0 ([(B1,[row .u8 32 x,row .u8 32 y,[Value.int .i64 f],[Value.int .i64 t]].flatten)]:List (Nat × List Value)) bs1 ((obs p5)++(bo0++([]:List (Nat × List Value))))); have key:=hE w0 _ _ (es1 x y f t a) bs1 _ (es1_w x y f t a hx hy) hIs Mp; clear Mp
     rw [es1_out x y f t a] at key
     refine xcL key ?_; clear key; rintro e w6 ⟨rfl,l⟩; replace M:=M.call l; replace hIs:=hK.bel hIs l; replace hIo:=hK.bel hIo l; replace N_5:=NewF.below N_5 l; clear l; refine xeL ?_; refine xpL (.tuple #[.int .i64 ((yat x f).e),.int .i64 ((es1 x y f t a).inn.e)]) ?_; refine xpL (.int .i64 ((yat x f).e)) ?_; refine xpL (.int .i64 ((es1 x y f t a).inn.e)) ?_
     refine xpL (.int .i64 ((yat x f).e)) ?_; refine xpL (.int .i64 ((es1 x y f t a).inn.e)) ?_; refine xT ?_
     by_cases he:65535≤(yat x f).e
     · go_upto_region 10 with fail
       refine wp_region_list ?_; refine xpL (.pointer (some ⟨Rs,0,none⟩)) ?_; have Mp:=M.perm (pull0 ([(B1,[row .u8 32 x,row .u8 32 y,[Value.int .i64 f],[Value.int .i64 t]].flatten)]:List (Nat × List Value)) bs1 ((obs p5)++(bo0++([]:List (Nat × List Value))))); have key:=hK.adv w0 _ _ (es1 x y f t a) bs1 _ hg (es1_w x y f t a hx hy) hIs Mp
       rw [show ynE (es1 x y f t a).out=6 by rw [es1_out x y f t a]; exact if_pos he] at key
       refine xcL key ?_; clear key; rintro e w7 ⟨bs2,rfl,hI_,M',o1⟩; replace hIo:=hK.off _ _ _ _ _ _ hIo o1 (Mp.awayG (fun p_ hp_=>by simp [hp_])); replace N_5:=NewF.offB N_5 o1 (Mp.awayS (fun p_ hp_=>by simp [hp_])); clear o1 Mp M hIs; have hIs:=hI_; clear hI_
       have M:Mm w0 ((B1,[row .u8 32 x,row .u8 32 y,[Value.int .i64 f],[Value.int .i64 t]].flatten)::(bs2++((obs p5)++(bo0++([]:List (Nat × List Value)))))) w7:=M'.perm (pull0 ([(B1,[row .u8 32 x,row .u8 32 y,[Value.int .i64 f],[Value.int .i64 t]].flatten)]:List (Nat × List Value)) bs2 ((obs p5)++(bo0++([]:List (Nat × List Value))))).symm
       clear M'; refine xeL ?_; refine xpL (.int .i64 6) ?_; refine xT ?_; go_upto_region 11 with fail; refine wp_region_list ?_; refine xpL (.int .i64 6) ?_; refine xaL (.bool true) (neqI .i64 _ _ _ _ _ _ rfl rfl rfl true (by decide) _) ?_; refine xT ?_; go_upto_region 12 with fail; refine wp_region_list ?_; refine xpL (.int .i64 0) ?_
       refine xaL (.bool true) (eqlI .i64 _ _ _ _ _ _ rfl rfl rfl true (beq_self_eq_true _) _) ?_; refine xpL (.bool true) ?_; refine xpL (.int .i64 6) ?_; refine xaL (.bool true) (eqlI .i64 _ _ _ _ _ _ rfl rfl rfl true (beq_self_eq_true _) _) ?_; refine xpL (.bool true) ?_; refine xpL (.bool true) ?_; refine xpL (.int .i64 ((yat x f).e)) ?_
       refine xaL (.bool true) (eqlI .i64 _ _ _ _ _ _ rfl rfl rfl true (by rw [show (yat x f).e=65535 by omega]; rfl) _) ?_
       refine xpL (.bool true) ?_; refine xpL (.bool true) ?_; refine xT ?_; have hbel:=M.below; clear M hIs hIo N_5; go_wp2; go_ret
       exact ⟨rfl,hbel⟩
     · have hlq:(eq0 x y f t a b).length=b.length+27:=gsB_len (es2_E x y f t a b lb he)
       have hye:(yad (yat x f)).e=(yat x f).e+1:=by rw [yad_on he]
       go_upto_region 10 with fail; refine wp_region_list ?_; refine xpL (.pointer (some ⟨Rs,0,none⟩)) ?_; have Mp:=M.perm (pull0 ([(B1,[row .u8 32 x,row .u8 32 y,[Value.int .i64 f],[Value.int .i64 t]].flatten)]:List (Nat × List Value)) bs1 ((obs p5)++(bo0++([]:List (Nat × List Value))))); have key:=hK.adv w0 _ _ (es1 x y f t a) bs1 _ hg (es1_w x y f t a hx hy) hIs Mp
       rw [show ynE (es1 x y f t a).out=0 by rw [es1_out x y f t a]; exact if_neg he] at key
       rw [show gaN (es1 x y f t a)=es2 x y f t a from rfl] at key
       refine xcL key ?_; clear key; rintro e w8 ⟨bs2,rfl,hI_,M',o1⟩; replace hIo:=hK.off _ _ _ _ _ _ hIo o1 (Mp.awayG (fun p_ hp_=>by simp [hp_])); replace N_5:=NewF.offB N_5 o1 (Mp.awayS (fun p_ hp_=>by simp [hp_])); clear o1 Mp M hIs; have hIs:=hI_; clear hI_
       have M:Mm w0 ((B1,[row .u8 32 x,row .u8 32 y,[Value.int .i64 f],[Value.int .i64 t]].flatten)::(bs2++((obs p5)++(bo0++([]:List (Nat × List Value)))))) w8:=M'.perm (pull0 ([(B1,[row .u8 32 x,row .u8 32 y,[Value.int .i64 f],[Value.int .i64 t]].flatten)]:List (Nat × List Value)) bs2 ((obs p5)++(bo0++([]:List (Nat × List Value))))).symm
       clear M'; refine xeL ?_; refine xpL (.int .i64 0) ?_; refine xT ?_; go_upto_region 11 with fail; refine wp_region_list ?_; refine xpL (.int .i64 0) ?_; refine xaL (.bool false) (neqI .i64 _ _ _ _ _ _ rfl rfl rfl false (by decide) _) ?_; refine xT ?_; go_upto_region 13 with fail; refine wp_region_list ?_; refine xpL (.pointer (some ⟨Rs,0,none⟩)) ?_; refine xpL (.slice spb b.length capb) ?_
       have Mp:=M.perm (pull0 ([(B1,[row .u8 32 x,row .u8 32 y,[Value.int .i64 f],[Value.int .i64 t]].flatten)]:List (Nat × List Value)) bs2 ((obs p5)++(bo0++([]:List (Nat × List Value))))); have key:=hK.sel w0 _ _ (es2 x y f t a) bs2 _ 3 spb capb b hg (es2_w x y f t a hx hy) (by unfold i64; decide) hIs maxb leb nilb byb Mp ((SrcA.of_old srcb Mp.los).off (Off.of_below Mp.below))
       rw [es2_E x y f t a b lb he] at key
       rw [show gsN (es2 x y f t a) 3 b.length=es3 x y f t a b from rfl] at key
       rw [show gsB (es2 x y f t a) 3 b=eq0 x y f t a b from rfl] at key
       refine xcL key ?_; clear key; rintro e w9 ⟨p9,c9,bs3,rfl,N_9,hI_,M',o1⟩; replace hIo:=hK.off _ _ _ _ _ _ hIo o1 (Mp.awayG (fun p_ hp_=>by simp [hp_])); replace N_5:=NewF.offB N_5 o1 (Mp.awayS (fun p_ hp_=>by simp [hp_])); clear o1 Mp M hIs; have hIs:=hI_; clear hI_
       have M:Mm w0 ((B1,[row .u8 32 x,row .u8 32 y,[Value.int .i64 f],[Value.int .i64 t]].flatten)::(bs3++((obs p9)++((obs p5)++(bo0++([]:List (Nat × List Value))))))) w9:=M'.perm (pullY ([(B1,[row .u8 32 x,row .u8 32 y,[Value.int .i64 f],[Value.int .i64 t]].flatten)]:List (Nat × List Value)) bs3 (obs p9) ((obs p5)++(bo0++([]:List (Nat × List Value)))))
       clear M'; refine xeL ?_; refine xpL (.tuple #[.slice p9 ((eq0 x y f t a b).length) c9,.int .i64 0]) ?_; refine xpL (.slice p9 ((eq0 x y f t a b).length) c9) ?_; refine xpL (.int .i64 0) ?_; refine xpL (.slice p9 ((eq0 x y f t a b).length) c9) ?_; refine xpL (.int .i64 0) ?_; refine xT ?_; go_upto_region 14 with fail; refine wp_region_list ?_; refine xpL (.pointer (some ⟨Ro,0,none⟩)) ?_
       have Mp:=M.perm (pull3 ([(B1,[row .u8 32 x,row .u8 32 y,[Value.int .i64 f],[Value.int .i64 t]].flatten)]:List (Nat × List Value)) bs3 (obs p9) (obs p5) bo0 ([]:List (Nat × List Value))); have key:=hE w0 _ _ (eo0 x y f t) bo0 _ (eo0_w x y f t hx hy) hIo Mp; clear Mp
       rw [show (eo0 x y f t).inn=yat x f from rfl] at key
       refine xcL key ?_; clear key; rintro e w10 ⟨rfl,l⟩; replace M:=M.call l; replace hIs:=hK.bel hIs l; replace hIo:=hK.bel hIo l; replace N_5:=NewF.below N_5 l; replace N_9:=NewF.below N_9 l; clear l; refine xeL ?_; refine xpL (.tuple #[.int .i64 ((eo0 x y f t).out.e),.int .i64 ((yat x f).e)]) ?_; refine xpL (.int .i64 ((eo0 x y f t).out.e)) ?_
       refine xpL (.int .i64 ((yat x f).e)) ?_; refine xpL (.int .i64 ((eo0 x y f t).out.e)) ?_; refine xpL (.int .i64 ((yat x f).e)) ?_; refine xT ?_; go_upto_region 15 with fail; refine wp_region_list ?_; refine xpL (.pointer (some ⟨Ro,0,none⟩)) ?_; refine xpL (.slice p9 ((eq0 x y f t a b).length) c9) ?_
       have Mp:=M.perm (pull3 ([(B1,[row .u8 32 x,row .u8 32 y,[Value.int .i64 f],[Value.int .i64 t]].flatten)]:List (Nat × List Value)) bs3 (obs p9) (obs p5) bo0 ([]:List (Nat × List Value)))
       have key:=hK.opn w0 _ _ (eo0 x y f t) bo0 _ p9 c9 (eq0 x y f t a b) hg (eo0_w x y f t hx hy) (gwl_ok (gwl_at _ _ _ _ _) (by decide)) hIo (by rw [hlq]; omega) (NewF.le N_9) (NewF.nilCap N_9) (gsB_byts (es2_w x y f t a hx hy) byb) Mp (NewF.srcB N_9 (Mp.awayS (fun p_ hp_=>by simp [hp_])))
       rw [(es_open2 x y f t a b hx hy byb lb he).1] at key
       rw [(es_open2 x y f t a b hx hy byb lb he).2.1] at key
       rw [(es_open2 x y f t a b hx hy byb lb he).2.2.1] at key
       rw [(es_open2 x y f t a b hx hy byb lb he).2.2.2.1] at key
       rw [show gbN (eo0 x y f t) (eq0 x y f t a b)=eo1 x y f t a b from rfl] at key
       refine xcL key ?_; clear key; rintro e w11 ⟨p11,c11,bo1,rfl,N_11,hI_,M',o1⟩; replace hIs:=hK.off _ _ _ _ _ _ hIs o1 (Mp.awayG (fun p_ hp_=>by simp [hp_])); replace N_5:=NewF.offB N_5 o1 (Mp.awayS (fun p_ hp_=>by simp [hp_])); replace N_9:=NewF.offB N_9 o1 (Mp.awayS (fun p_ hp_=>by simp [hp_])); clear o1 Mp M hIo; have hIo:=hI_; clear hI_
       have M:Mm w0 ((B1,[row .u8 32 x,row .u8 32 y,[Value.int .i64 f],[Value.int .i64 t]].flatten)::(bo1++((obs p11)++(bs3++((obs p9)++((obs p5)++([]:List (Nat × List Value)))))))) w11:=M'.perm (pullY ([(B1,[row .u8 32 x,row .u8 32 y,[Value.int .i64 f],[Value.int .i64 t]].flatten)]:List (Nat × List Value)) bo1 (obs p11) (bs3++((obs p9)++((obs p5)++([]:List (Nat × List Value))))))
       clear M'; refine xeL ?_; refine xpL (.tuple #[.int .i64 3,.int .i64 0,.slice p11 ((b).length) c11,.int .i64 0]) ?_; refine xpL (.int .i64 3) ?_; refine xpL (.int .i64 0) ?_; refine xpL (.slice p11 ((b).length) c11) ?_; refine xpL (.int .i64 0) ?_; refine xpL (.int .i64 3) ?_; refine xpL (.int .i64 0) ?_; refine xpL (.slice p11 ((b).length) c11) ?_; refine xpL (.int .i64 0) ?_
       refine xT ?_; go_upto_region 16 with fail; refine wp_region_list ?_; refine xpL (.pointer (some ⟨Ro,0,none⟩)) ?_; have Mp:=M.perm (pull0 ([(B1,[row .u8 32 x,row .u8 32 y,[Value.int .i64 f],[Value.int .i64 t]].flatten)]:List (Nat × List Value)) bo1 ((obs p11)++(bs3++((obs p9)++((obs p5)++([]:List (Nat × List Value)))))))
       have key:=hE w0 _ _ (eo1 x y f t a b) bo1 _ (eo1_w x y f t a b hx hy) hIo Mp; clear Mp
       rw [(eo1_eq x y f t a b hx hy byb lb he).1] at key
       rw [hye] at key
       refine xcL key ?_; clear key; rintro e w12 ⟨rfl,l⟩; replace M:=M.call l; replace hIs:=hK.bel hIs l; replace hIo:=hK.bel hIo l; replace N_5:=NewF.below N_5 l; replace N_9:=NewF.below N_9 l; replace N_11:=NewF.below N_11 l; clear l; refine xeL ?_; refine xpL (.tuple #[.int .i64 ((eo1 x y f t a b).out.e),.int .i64 ((yat x f).e+1)]) ?_
       refine xpL (.int .i64 ((eo1 x y f t a b).out.e)) ?_; refine xpL (.int .i64 ((yat x f).e+1)) ?_; refine xpL (.int .i64 ((eo1 x y f t a b).out.e)) ?_; refine xpL (.int .i64 ((yat x f).e+1)) ?_; refine xT ?_; go_upto_region 17 with fail; refine wp_region_list ?_; refine xpL (.pointer (some ⟨Ro,0,none⟩)) ?_; refine xpL (.slice p5 ((ep0 x y f t a).length) c5) ?_
       have Mp:=M.perm (pull0 ([(B1,[row .u8 32 x,row .u8 32 y,[Value.int .i64 f],[Value.int .i64 t]].flatten)]:List (Nat × List Value)) bo1 ((obs p11)++(bs3++((obs p9)++((obs p5)++([]:List (Nat × List Value)))))))
       have key:=hK.opn w0 _ _ (eo1 x y f t a b) bo1 _ p5 c5 (ep0 x y f t a) hg (eo1_w x y f t a b hx hy) (gwl_ok (gwl_opn (gwl_at _ _ _ _ _) _) (by decide)) hIo (by rw [hlp]; omega) (NewF.le N_5) (NewF.nilCap N_5) (gsB_byts (es0_w x y f t hx hy) bya) Mp (NewF.srcB N_5 (Mp.awayS (fun p_ hp_=>by simp [hp_])))
       rw [(es_open1 x y f t a b hx hy bya byb la lb he).1] at key
       rw [(es_open1 x y f t a b hx hy bya byb la lb he).2.1] at key
       rw [(es_open1 x y f t a b hx hy bya byb la lb he).2.2.1] at key
       rw [(es_open1 x y f t a b hx hy bya byb la lb he).2.2.2.1] at key
       rw [show gbN (eo1 x y f t a b) (ep0 x y f t a)=eo2 x y f t a b from rfl] at key
       refine xcL key ?_; clear key; rintro e w13 ⟨p13,c13,bo2,rfl,N_13,hI_,M',o1⟩; replace hIs:=hK.off _ _ _ _ _ _ hIs o1 (Mp.awayG (fun p_ hp_=>by simp [hp_])); replace N_5:=NewF.offB N_5 o1 (Mp.awayS (fun p_ hp_=>by simp [hp_])); replace N_9:=NewF.offB N_9 o1 (Mp.awayS (fun p_ hp_=>by simp [hp_])); replace N_11:=NewF.offB N_11 o1 (Mp.awayS (fun p_ hp_=>by simp [hp_]))
       clear o1 Mp M hIo; have hIo:=hI_; clear hI_
       have M:Mm w0 ((B1,[row .u8 32 x,row .u8 32 y,[Value.int .i64 f],[Value.int .i64 t]].flatten)::(bo2++((obs p13)++((obs p11)++(bs3++((obs p9)++((obs p5)++([]:List (Nat × List Value))))))))) w13:=M'.perm (pullY ([(B1,[row .u8 32 x,row .u8 32 y,[Value.int .i64 f],[Value.int .i64 t]].flatten)]:List (Nat × List Value)) bo2 (obs p13) ((obs p11)++(bs3++((obs p9)++((obs p5)++([]:List (Nat × List Value)))))))
       clear M'; refine xeL ?_; refine xpL (.tuple #[.int .i64 3,.int .i64 0,.slice p13 ((a).length) c13,.int .i64 0]) ?_; refine xpL (.int .i64 3) ?_; refine xpL (.int .i64 0) ?_; refine xpL (.slice p13 ((a).length) c13) ?_; refine xpL (.int .i64 0) ?_; refine xpL (.int .i64 3) ?_; refine xpL (.int .i64 0) ?_; refine xpL (.slice p13 ((a).length) c13) ?_; refine xpL (.int .i64 0) ?_
       refine xT ?_; go_upto_region 18 with fail; refine wp_region_list ?_; refine xpL (.pointer (some ⟨Ro,0,none⟩)) ?_; have Mp:=M.perm (pull0 ([(B1,[row .u8 32 x,row .u8 32 y,[Value.int .i64 f],[Value.int .i64 t]].flatten)]:List (Nat × List Value)) bo2 ((obs p13)++((obs p11)++(bs3++((obs p9)++((obs p5)++([]:List (Nat × List Value))))))))
       have key:=hE w0 _ _ (eo2 x y f t a b) bo2 _ (gbN_w (eo1_w x y f t a b hx hy) _) hIo Mp; clear Mp
       rw [eo2_inn x y f t a b hx hy bya byb la lb he] at key
       rw [hye] at key
       refine xcL key ?_; clear key; rintro e w14 ⟨rfl,l⟩; replace M:=M.call l; replace hIs:=hK.bel hIs l; replace hIo:=hK.bel hIo l; replace N_5:=NewF.below N_5 l; replace N_9:=NewF.below N_9 l; replace N_11:=NewF.below N_11 l; replace N_13:=NewF.below N_13 l; clear l; refine xeL ?_; refine xpL (.tuple #[.int .i64 ((eo2 x y f t a b).out.e),.int .i64 ((yat x f).e+1)]) ?_
       refine xpL (.int .i64 ((eo2 x y f t a b).out.e)) ?_; refine xpL (.int .i64 ((yat x f).e+1)) ?_; refine xpL (.int .i64 ((eo2 x y f t a b).out.e)) ?_; refine xpL (.int .i64 ((yat x f).e+1)) ?_; refine xT ?_; go_upto_region 19 with fail; refine wp_region_list ?_; refine xpL (.int .i64 0) ?_; refine xaL (.bool true) (eqlI .i64 _ _ _ _ _ _ rfl rfl rfl true (beq_self_eq_true _) _) ?_
       refine xpL (.bool true) ?_; refine xpL (.int .i64 0) ?_; refine xaL (.bool true) (eqlI .i64 _ _ _ _ _ _ rfl rfl rfl true (beq_self_eq_true _) _) ?_; refine xpL (.bool true) ?_; refine xpL (.bool true) ?_; refine xpL (.int .i64 0) ?_; refine xaL (.bool true) (eqlI .i64 _ _ _ _ _ _ rfl rfl rfl true (beq_self_eq_true _) _) ?_; refine xpL (.bool true) ?_; refine xpL (.bool true) ?_
       refine xpL (.int .i64 0) ?_; refine xaL (.bool true) (eqlI .i64 _ _ _ _ _ _ rfl rfl rfl true (beq_self_eq_true _) _) ?_; refine xpL (.bool true) ?_; refine xpL (.bool true) ?_; refine xpL (.slice p11 ((b).length) c11) ?_
       refine readL (.string (txt ((b).length) (bl b))) rfl (conv_txt 29 5 9 _ rfl Tryz.underlying29 Tryz.underlying5 Tryz.underlying9 p11 ((b).length) c11 (bl b) rfl _ (NewF.src N_11) (fun e=>by have h1:=(NewF.nilCap N_11) e; have h2:=(NewF.le N_11); omega)) ?_
       simp only [aP,lI,l0,lS]; refine xpL (.slice spb b.length capb) ?_; refine xaL (.string (txt b.length (bl b))) (conv_txt 29 5 9 _ rfl Tryz.underlying29 Tryz.underlying5 Tryz.underlying9 spb b.length capb (bl b) rfl _ (srcb.below M.below (xnR _)) (fun e=>by have h1:=nilb e; have h2:=leb; omega)) ?_; refine xaL (.bool true) (eqlS _ _ _ _ _ _ rfl rfl rfl rfl _) ?_
       refine xpL (.bool true) ?_; refine xpL (.bool true) ?_; refine xpL (.int .i64 0) ?_; refine xaL (.bool true) (eqlI .i64 _ _ _ _ _ _ rfl rfl rfl true (beq_self_eq_true _) _) ?_; refine xpL (.bool true) ?_; refine xpL (.bool true) ?_; refine xpL (.int .i64 0) ?_; refine xaL (.bool true) (eqlI .i64 _ _ _ _ _ _ rfl rfl rfl true (beq_self_eq_true _) _) ?_; refine xpL (.bool true) ?_
       refine xpL (.bool true) ?_; refine xpL (.slice p13 ((a).length) c13) ?_
       refine readL (.string (txt ((a).length) (bl a))) rfl (conv_txt 29 5 9 _ rfl Tryz.underlying29 Tryz.underlying5 Tryz.underlying9 p13 ((a).length) c13 (bl a) rfl _ (NewF.src N_13) (fun e=>by have h1:=(NewF.nilCap N_13) e; have h2:=(NewF.le N_13); omega)) ?_
       simp only [aP,lI,l0,lS]; refine xpL (.slice spa a.length capa) ?_; refine xaL (.string (txt a.length (bl a))) (conv_txt 29 5 9 _ rfl Tryz.underlying29 Tryz.underlying5 Tryz.underlying9 spa a.length capa (bl a) rfl _ (srca.below M.below (xnR _)) (fun e=>by have h1:=nila e; have h2:=lea; omega)) ?_; refine xaL (.bool true) (eqlS _ _ _ _ _ _ rfl rfl rfl rfl _) ?_
       refine xpL (.bool true) ?_; refine xpL (.bool true) ?_; refine xpL (.int .i64 ((yat x f).e)) ?_; refine xpL (.int .i64 ((yat x f).e)) ?_; refine xaL (.bool true) (eqlI .i64 _ _ _ _ _ _ rfl rfl rfl true (beq_self_eq_true _) _) ?_; refine xpL (.bool true) ?_; refine xpL (.bool true) ?_; refine xpL (.int .i64 ((yat x f).e+1)) ?_; refine xpL (.int .i64 ((yat x f).e)) ?_
       refine xaL (.int .i64 ((yat x f).e+1)) (addI .i64 _ _ _ _ _ _ _ rfl rfl rfl (by rw [xw6]; omega) _) ?_; refine xaL (.bool true) (eqlI .i64 _ _ _ _ _ _ rfl rfl rfl true (beq_self_eq_true _) _) ?_; refine xpL (.bool true) ?_; refine xpL (.bool true) ?_; refine xpL (.int .i64 ((yat x f).e+1)) ?_; refine xpL (.int .i64 ((yat x f).e)) ?_
       refine xaL (.int .i64 ((yat x f).e+1)) (addI .i64 _ _ _ _ _ _ _ rfl rfl rfl (by rw [xw6]; omega) _) ?_; refine xaL (.bool true) (eqlI .i64 _ _ _ _ _ _ rfl rfl rfl true (beq_self_eq_true _) _) ?_; refine xpL (.bool true) ?_; refine xpL (.bool true) ?_; refine xT ?_; have hbel:=M.below; clear M hIs hIo N_5 N_9 N_11 N_13; go_wp2; go_ret
       exact ⟨rfl,hbel⟩
   · go_upto_region 6 with fail
     refine wp_region_list ?_; refine xpL (.slice spa a.length capa) ?_; refine xaL (.int .i64 ((a.length:Nat):Int)) (lenS _ 29 5 spa a.length capa rfl Tryz.underlying29 rfl _) ?_; refine xaL (.bool false) (gtrI .i64 _ _ _ _ _ _ rfl rfl rfl false (decide_eq_false (by omega)) _) ?_; refine xpL (.bool false) ?_; refine xpL (.slice spb b.length capb) ?_
     refine xaL (.int .i64 ((b.length:Nat):Int)) (lenS _ 29 5 spb b.length capb rfl Tryz.underlying29 rfl _) ?_; refine xaL (.bool true) (gtrI .i64 _ _ _ _ _ _ rfl rfl rfl true (decide_eq_true (by omega)) _) ?_; refine xpL (.bool true) ?_; refine xT ?_; go_upto_region 7 with fail; refine wp_region_list ?_; refine xpL (.bool true) ?_; refine xT ?_; have hbel:=M.below; clear M hIs hIo; go_wp2
     go_ret
     exact ⟨rfl,hbel⟩
 · go_upto_region 6 with fail
   refine wp_region_list ?_; refine xpL (.slice spa a.length capa) ?_; refine xaL (.int .i64 ((a.length:Nat):Int)) (lenS _ 29 5 spa a.length capa rfl Tryz.underlying29 rfl _) ?_; refine xaL (.bool true) (gtrI .i64 _ _ _ _ _ _ rfl rfl rfl true (decide_eq_true (by omega)) _) ?_; refine xpL (.bool true) ?_
   with_reducible refine skipL ?_ ?_
   · rfl
   simp only [aP,lI,l0,lS]
   with_reducible refine skipL ?_ ?_
   · rfl
   simp only [aP,lI,l0,lS]
   with_reducible refine skipL ?_ ?_
   · rfl
   simp only [aP,lI,l0,lS]; refine xpL (.bool true) ?_; refine xT ?_; go_upto_region 7 with fail; refine wp_region_list ?_; refine xpL (.bool true) ?_; refine xT ?_; have hbel:=M.below; clear M hIs hIo; go_wp2; go_ret
   exact ⟨rfl,hbel⟩
end
section
section
variable {P:Program} {o:Oper} {a:Act}
theorem maxI (k k':IntKind) (n n' r:Int) (x y:Operand) (t t':TypeId) (ho:o.op=.call { callee:=.builtin .max,args:=#[x,y],argTypes:=#[t,t'] }) (hx:a.eval x=.int k n) (hy:a.eval y=.int k' n') (hr:(if n<n' then n' else n)=r) (w:World):(execOp a.eval o).run P w=.ok (.value (.int k r)) w:=by
 simp [execOp,ho,resolve,invoke,builtin,hx,hy,run_max_int2,hr]
end
theorem Mm.grownN {w0 w w':World} {l:List (Nat × List Value)} (h:Mm w0 l w) {r:Option Nat} (g:w.grownBy w' r) (hr:∀ b,r=some b→w0.heap.size≤b∧∀ p∈l,p.1≠b):Mm w0 l w' :=
 ⟨fun p hp=>⟨fun j hj=>by
  have e:w'.heap[p.1]?=w.heap[p.1]?:=g.block p.1 (h.rows p hp).2.2 (fun e=>(hr p.1 e.symm).2 p hp rfl)
  rw [World.cell?_of_block (a:=⟨p.1,j,none⟩) e,World.frozen?_of_block (a:=⟨p.1,j,none⟩) e]
  exact (h.rows p hp).1 j hj,(h.rows p hp).2.1,xnL (h.rows p hp).2.2 g.size⟩,h.apart,
  ⟨g.os.trans h.below.os,g.tape.trans h.below.tape,g.output.trans h.below.output,xnT h.below.size g.size,fun b hb=>(g.block b (xnL hb h.below.size) (fun e=>by have:=(hr b e.symm).1; omega)).trans (h.below.block b hb)⟩⟩
end
theorem Mm.addB {w0 w:World} {l:List (Nat × List Value)} (h:Mm w0 l w) {b:Nat} (lo:w0.heap.size≤b) (lt:b<w.heap.size) (hne:∀ p∈l,p.1≠b):Mm w0 ((b,[])::l) w :=
 ⟨fun p hp=>by
  rcases xc1 hp with rfl | hp
  · exact ⟨fun j hj=>absurd hj (xnZ j),lo,lt⟩
  · exact h.rows p hp,List.pairwise_cons.2 ⟨fun p hp=>(hne p hp).symm,h.apart⟩,h.below⟩
section
open Go.RowKit Go.MapKept Go.ChangeMaps Go.WideShapes
def heldR (v:Value):Option (DataW Value × List MemPlace):=some (.held v,[])
def IM (P:Program) (k:TypeId) (w:World) (b n:Nat) (f:Int→Option Value):Prop :=
 ∃ D:DataW Value,w.ownsMap P k heldR b n D∧∀ x,i64 x→Maps.has D (.int .i64 x)=(f x).isSome∧∀ d,D.atKey (.int .i64 x) d=((f x).map DataW.held).getD d
theorem wfI {x:Int} (h:i64 x):(Lit.int .i64 x).wf=true:=WalkArith.wf_i64 (by unfold i64 at h; omega)
theorem litNe {x y:Int} (h:y≠x):(Lit.int .i64 y)≠.int .i64 x:=fun e=>by injection e with _ e; exact h e
def iput (f:Int→Option Value) (x:Int) (v:Value):Int→Option Value:=fun y=>if y=x then some v else f y
theorem iput_same (f:Int→Option Value) (x:Int) (v:Value):iput f x v x=some v:=if_pos rfl
theorem iput_other {f:Int→Option Value} {x y:Int} {v:Value} (h:¬ y=x):iput f x v y=f y:=if_neg h
section
variable {P:Program} {k t e:TypeId} {w:World} {b n:Nat} {f:Int→Option Value}
theorem IM.made (P:Program) (k:TypeId) (w:World):IM P k (w.alloc (.map #[] 0)) w.heap.size 0 (fun _=>none) :=
 ⟨_,World.ownsMap_made w P k heldR,fun _ _=>⟨rfl,fun _=>rfl⟩⟩
theorem IM.mono (h:IM P k w b n f) {m:Nat} (hm:n≤m):IM P k w b m f:=let ⟨D,h,h2⟩:=h; ⟨D,h.mono hm,h2⟩
theorem IM.off {w':World} {X:List Nat} (h:IM P k w b n f) (o:Off X w w') (hb:b∉X):IM P k w' b n f:=by
 obtain ⟨D,⟨es,clock,h1,h2⟩,h3⟩:=h
 exact ⟨D,⟨es,clock,(o.blk b (Array.getElem?_eq_some_iff.1 h1).1 hb).trans h1,h2⟩,h3⟩
theorem IM.bel {w':World} (h:IM P k w b n f) (l:Below w.heap.size w w'):IM P k w' b n f:=h.off (X:=[]) (Off.of_below l) (fun hb=>by cases hb)
theorem IM.look (h:IM P k w b n f) (hk:P.underlying k=some (.int .i64)) (ht:P.underlying t=some (.map k e)) {z:Value} (hz:(zeroValue e).run P w=.ok z w) {x:Int} (hx:i64 x):(Instr.lookup t (.map (some b)) (.int .i64 x) false).run P w=.ok ((f x).getD z) w:=by
 obtain ⟨D,h1,h2⟩:=h
 obtain ⟨v,ps,hr,hv⟩:=h1.lookup (Maps.int_keyed hk) ht hz (show heldR z=some (.held z,[]) from rfl) (Maps.keyOf_int_mk hk (wfI hx))
 rw [hr]
 have e:=(h2 x hx).2 (.held z)
 unfold heldR at hv
 injection hv with hv
 injection hv with hv _
 rw [e] at hv
 cases hf:f x with
 | none=>rw [hf] at hv; injection hv with hv; rw [hv]; rfl
 | some u=>rw [hf] at hv; injection hv with hv; rw [hv]; rfl
theorem IM.lookOk (h:IM P k w b n f) (hk:P.underlying k=some (.int .i64)) (ht:P.underlying t=some (.map k e)) {z:Value} (hz:(zeroValue e).run P w=.ok z w) {x:Int} (hx:i64 x):(Instr.lookup t (.map (some b)) (.int .i64 x) true).run P w=.ok (.tuple #[(f x).getD z,.bool (f x).isSome]) w:=by
 obtain ⟨D,h1,h2⟩:=h
 obtain ⟨v,ps,hr,hv⟩:=h1.look_ok (Maps.int_keyed hk) ht hz (show heldR z=some (.held z,[]) from rfl) (Maps.keyOf_int_mk hk (wfI hx))
 rw [hr,(h2 x hx).1]
 have e:=(h2 x hx).2 (.held z)
 unfold heldR at hv
 injection hv with hv
 injection hv with hv _
 rw [e] at hv
 cases hf:f x with
 | none=>rw [hf] at hv; injection hv with hv; rw [hv]; rfl
 | some u=>rw [hf] at hv; injection hv with hv; rw [hv]; rfl
theorem IM.put (h:IM P k w b n f) (hk:P.underlying k=some (.int .i64)) (ht:P.underlying t=some (.map k e)) (hn:n<maxLen) {x:Int} (hx:i64 x) (v:Value) :
 ∃ w',(Instr.mapUpdate t (.map (some b)) (.int .i64 x) v).run P w=.ok () w'∧IM P k w' b (n+1) (iput f x v)∧w.grownBy w' (some b):=by
 obtain ⟨D,h1,h2⟩:=h
 obtain ⟨w',hr,ho,hg⟩:=h1.update (Maps.int_keyed hk) ht hn (Maps.keyOf_int_mk hk (wfI hx)) (show heldR v=some (.held v,[]) from rfl)
 refine ⟨w',hr,⟨_,ho,fun y hy=>?_⟩,hg⟩
 by_cases c:y=x
 · subst c
   rw [iput_same]
   exact ⟨Maps.has_put_same h1.isMap (show WideAt.IsKeyLit (.int .i64 y) from trivial) _,fun d=>Maps.atKey_put_same h1.isMap (show WideAt.IsKeyLit (.int .i64 y) from trivial) _ d⟩
 · rw [iput_other c]
   exact ⟨(Maps.has_put_other (litNe c) _).trans (h2 y hy).1,fun d=>(Maps.atKey_put_other (litNe c) _ d).trans ((h2 y hy).2 d)⟩
theorem IM.bound (h:IM P k w b n f) (hk:P.underlying k=some (.int .i64)) (m:Nat) (hf:∀ x,(f x).isSome=true→0≤x∧x<m):IM P k w b m f:=by
 obtain ⟨D,ho,h2⟩:=h
 obtain ⟨L,hD,hp⟩:=ho.tidy (Maps.int_keyed hk)
 have h3:=fun x hx=>(h2 x hx).1
 obtain ⟨es,clock,hb,F,hs,hD'⟩:=ho
 refine ⟨D,⟨es,clock,hb,F,?_,hD'⟩,h2⟩
 have e1:L=(es.toList.map (WideElems.rg P k heldR)).foldr DataW.insert []:=by rw [hD] at hD'; injection hD'
 have e2:es.size=L.length:=by rw [e1,length_read]
 have hle:(L.map Prod.fst).length≤((List.range m).map fun i:Nat=>Lit.int .i64 (i:Int)).length:=?_
 · rw [List.length_map,List.length_map,List.length_range] at hle
   omega
 refine List.Nodup.length_le_of_subset (List.pairwise_map.2 hp) fun l hl=>?_
 obtain ⟨p,hpm,rfl⟩:=List.mem_map.1 hl
 rw [e1] at hpm
 obtain ⟨x,hx,hpx⟩:=List.mem_map.1 (mem_sorted.1 hpm)
 obtain ⟨y,hy⟩:=F.reads x hx
 rw [WideElems.rg_of hy] at hpx
 subst hpx; have hkey:=WideElems.rd_key hy
 have hkm:mapKey P k x.key=some y.1:=by
  unfold keyOf at hkey
  rw [hk] at hkey
  exact hkey
 unfold mapKey at hkm
 rw [hk] at hkm
 cases hxk:x.key with
 | int q a =>
   rw [hxk] at hkm
   simp only [Option.ite_none_right_eq_some,Option.some.injEq] at hkm
   obtain ⟨⟨rfl,hw⟩,hy1⟩:=hkm
   have hi:i64 a:=by
    unfold i64
    simp [Lit.wf,IntKind.min,IntKind.max,IntKind.signed,IntKind.bits] at hw
    omega
   have hh:Maps.has D (.int .i64 a)=true:=by
    rw [hD,Maps.has_eq,List.any_eq_true]
    exact ⟨y,by rw [e1]; exact hpm,by rw [← hy1]; exact WideAt.sameKey_self (show WideAt.IsKeyLit (.int .i64 a) from trivial)⟩
   rw [h3 a hi] at hh
   have hr:=hf a hh
   refine List.mem_map.2 ⟨a.toNat,List.mem_range.2 (by omega),?_⟩
   rw [← hy1,Int.toNat_of_nonneg hr.1]
 | _=>rw [hxk] at hkm; simp at hkm
theorem IM.clr (h:IM P k w b n f) (ht:P.underlying t=some (.map k e)) (ty:TypeId):∃ w',(Builtin.clear_ #[t] ty #[.map (some b)]).run P w=.ok (.tuple #[]) w'∧IM P k w' b 0 (fun _=>none)∧w.grownBy w' (some b):=by
 obtain ⟨D,⟨es,clock,hb,hF,_⟩,_⟩:=h
 refine ⟨setBlock w b (.map #[] clock),?_,⟨.map [],⟨#[],clock,heap_setBlock_same hb _,⟨by simp,stamped_empty clock,by simp⟩,xnR _,rfl⟩,fun _ _=>⟨rfl,fun _=>rfl⟩⟩,⟨rfl,rfl,rfl,by simp [setBlock],fun i _ hi=>heap_setBlock_other hb _ (fun e=>hi (by rw [e]))⟩⟩
 simp [Builtin.clear_,run_underlying ht,MapKept.run_getObj_map hb,MapKept.run_setObj_map _ hb,setBlock,Result.andThen]
end
section
variable {P:Program} {k t e:TypeId} {w:World} {b n:Nat} {f:Int→Option Value} {o:Oper} {a:Act}
end
theorem Mm.touch {w0 w w':World} {l:List (Nat × List Value)} {b:Nat} (M:Mm w0 ((b,[])::l) w) (g:w.grownBy w' (some b)):Mm w0 ((b,[])::l) w':=by
 have h:=M.tail.grownN g fun b' e=>by
  injection e with e
  subst e
  exact ⟨M.lo mS,fun p hp e=>(List.pairwise_cons.1 M.apart).1 p hp e.symm⟩
 exact h.addB (M.lo mS) (xnL (M.lt mS) g.size) fun p hp e=>(List.pairwise_cons.1 M.apart).1 p hp e.symm
theorem Off.touched {w w':World} {b:Nat} (g:w.grownBy w' (some b)):Off [b] w w':=(Off.refl [b] w).grown g fun b' e=>by
 injection e with e
 subst e
 exact .inl mS
end
def rp (n:Int):Nat:=(n%1024).toNat
structure Bts (W:Nat→Nat) (f:Nat→Bool):Prop where
 lt:∀ i,i<16→W i<2^64
 bit:∀ i b,i<16→b<64→(W i).testBit b=f (64*i+b)
def wsee (L:List Int) (k:Nat):Bool:=decide (wtop L-(k:Int)∈L)
theorem Bts.nil:Bts (fun _=>0) (wsee []):=⟨fun _ _=>by decide,fun i b _ _=>by rw [Nat.zero_testBit]; exact (decide_eq_false (by simp)).symm⟩
theorem Bts.congr {W:Nat→Nat} {f g:Nat→Bool} (h:Bts W f) (e:∀ k,k<1024→f k=g k):Bts W g:=⟨h.lt,fun i b hi hb=>by rw [h.bit i b hi hb]; exact e _ (by omega)⟩
theorem Bts.at {W:Nat→Nat} {f:Nat→Bool} (h:Bts W f) (k:Nat) (hk:k<1024):(W (k/64)).testBit (k%64)=f k:=by
 rw [h.bit _ _ (by omega) (by omega)]
 congr 1
 omega
theorem Bts.put {W V:Nat→Nat} {f:Nat→Bool} (h:Bts W f) (k:Nat) (hV:∀ i,i<16→V i=if i=k/64 then W i ||| 2^(k%64) else W i):Bts V (fun j=>decide (j=k) || f j):=by
 refine ⟨fun i hi=>?_,fun i b hi hb=>?_⟩
 · rw [hV i hi]
   split
   · exact Nat.or_lt_two_pow (h.lt i hi) (Nat.pow_lt_pow_right (by decide) (by omega))
   · exact h.lt i hi
 · rw [hV i hi]
   split
   · next e =>
     rw [Nat.testBit_or,h.bit i b hi hb,Nat.testBit_two_pow,Bool.or_comm]
     congr 1
     exact decide_eq_decide.2 (by omega)
   · next e =>
     rw [h.bit i b hi hb,decide_eq_false (by omega),Bool.false_or]
def wup (W:Nat→Nat) (d i:Nat):Nat:=if d/64≤i then W (i-d/64)*2^(d%64)%2^64 else 0
def wdn (W:Nat→Nat) (d i:Nat):Nat:=if d/64<i then W (i-d/64-1)/2^(64-d%64) else 0
def wst (W:Nat→Nat) (d i:Nat):Nat:=wup W d i ||| wdn W d i
theorem wup_lt (W:Nat→Nat) (d i:Nat):wup W d i<2^64:=by
 unfold wup
 split
 · exact Nat.mod_lt _ (by decide)
 · decide
theorem Bts.div_lt {W:Nat→Nat} {f:Nat→Bool} (h:Bts W f) (i e:Nat) (hi:i<16):W i/2^e<2^64:=Nat.lt_of_le_of_lt (Nat.div_le_self _ _) (h.lt i hi)
theorem Bts.up {W:Nat→Nat} {f:Nat→Bool} (h:Bts W f) (d:Nat):Bts (wst W d) (fun k=>decide (d≤k)&&f (k-d)):=by
 refine ⟨fun i hi=>?_,fun i b hi hb=>?_⟩
 · refine Nat.or_lt_two_pow (wup_lt W d i) ?_
   unfold wdn
   split
   · exact h.div_lt _ _ (by omega)
   · decide
 · have e1:(wup W d i).testBit b=(decide (64*(d/64)+d%64≤64*i+b∧d%64≤b)&&f (64*i+b-d)):=by
    unfold wup
    by_cases c:d/64≤i
    · rw [if_pos c,Nat.testBit_mod_two_pow,decide_eq_true hb,Bool.true_and,Nat.testBit_mul_two_pow]
      by_cases c2:d%64≤b
      · rw [decide_eq_true (show b≥d%64 from c2),Bool.true_and,h.bit _ _ (by omega) (by omega),decide_eq_true (by omega),Bool.true_and]
        congr 1
        omega
      · rw [decide_eq_false (show ¬ b≥d%64 from c2),Bool.false_and,decide_eq_false (by omega),Bool.false_and]
    · rw [if_neg c,Nat.zero_testBit,decide_eq_false (by omega),Bool.false_and]
   have e2:(wdn W d i).testBit b=(decide (64*(d/64)+d%64≤64*i+b∧b<d%64)&&f (64*i+b-d)):=by
    unfold wdn
    by_cases c:d/64<i
    · rw [if_pos c,Nat.testBit_div_two_pow]
      by_cases c2:b<d%64
      · rw [h.bit _ _ (by omega) (by omega),decide_eq_true (by omega),Bool.true_and]
        congr 1
        omega
      · rw [Nat.testBit_lt_two_pow (xnL (h.lt _ (by omega)) (Nat.pow_le_pow_right (by decide) (by omega))),decide_eq_false (by omega),Bool.false_and]
    · rw [if_neg c,Nat.zero_testBit,decide_eq_false (by omega),Bool.false_and]
   unfold wst
   rw [Nat.testBit_or,e1,e2,← Bool.and_or_distrib_right]
   congr 1
   rw [← Bool.decide_or]
   exact decide_eq_decide.2 (by omega)
theorem wsee_put {L:List Int} {n:Int} {k:Nat} (hk:wtop L-n=(k:Int)) (j:Nat):(decide (j=k) || wsee L j)=wsee (L++[n]) j:=by
 unfold wsee
 rw [← Bool.decide_or,wtop_app,show max (wtop L) n=wtop L by omega]
 refine decide_eq_decide.2 ?_
 rw [List.mem_append,List.mem_singleton]
 constructor
 · rintro (h | h)
   · exact .inr (by omega)
   · exact .inl h
 · rintro (h | h)
   · exact .inr h
   · exact .inl (by omega)
theorem wsee_up {L:List Int} {n:Int} {d:Nat} (hd:n-wtop L=(d:Int)) (h1:1≤d) (j:Nat):(decide (j=0) || (decide (d≤j)&&wsee L (j-d)))=wsee (L++[n]) j:=by
 unfold wsee
 rw [← Bool.decide_and,← Bool.decide_or,wtop_app,show max (wtop L) n=n by omega]
 refine decide_eq_decide.2 ?_
 rw [List.mem_append,List.mem_singleton]
 constructor
 · rintro (h | ⟨h,h2⟩)
   · exact .inr (by omega)
   · refine .inl ?_
     rw [show n-(j:Int)=wtop L-((j-d:Nat):Int) by omega]
     exact h2
 · rintro (h | h)
   · have:=wtop_le h
     refine .inr ⟨by omega,?_⟩
     rw [show wtop L-((j-d:Nat):Int)=n-(j:Int) by omega]
     exact h
   · exact .inl (by omega)
def Wds (W:Nat→Nat) (L:List Int):Prop:=Bts W (wsee L)
theorem Wds.at {W:Nat→Nat} {L:List Int} (h:Wds W L) {n:Int} {k:Nat} (hk:wtop L-n=(k:Int)) (hlt:k<1024):(W (k/64)).testBit (k%64)=decide (n∈L):=by
 rw [Bts.at h k hlt]
 unfold wsee
 rw [← hk]
 exact decide_eq_decide.2 (by rw [show wtop L-(wtop L-n)=n by omega])
theorem shr64 (x e:Nat) (he:e≤64):(x:Int)/2^min ((e:Nat):Int).toNat IntKind.u64.bits=((x/2^e:Nat):Int):=by
 have h1:min ((e:Nat):Int).toNat IntKind.u64.bits=e:=by
  show min ((e:Nat):Int).toNat 64=e
  omega
 rw [h1]
 norm_cast
theorem shl64 (x e:Nat) (he:e≤64):IntKind.u64.wrap ((x:Int)*2^min ((e:Nat):Int).toNat IntKind.u64.bits)=((x*2^e%2^64:Nat):Int):=by
 have h1:min ((e:Nat):Int).toNat IntKind.u64.bits=e:=by
  show min ((e:Nat):Int).toNat 64=e
  omega
 rw [h1,show (x:Int)*2^e=((x*2^e:Nat):Int) by norm_cast,IntKind.wrap_u64]
 omega
theorem and64 (x y:Nat) (hx:x<2^64) (hy:y<2^64):bits .and .u64 (x:Int) (y:Int)=((x &&& y:Nat):Int):=by
 have key:(BitVec.ofInt 64 (x:Int) &&& BitVec.ofInt 64 (y:Int)).toNat=x &&& y:=by
  rw [BitVec.toNat_and,BitVec.toNat_ofInt,BitVec.toNat_ofInt,show ((x:Int)%((2^64:Nat):Int)).toNat=x by omega,show ((y:Int)%((2^64:Nat):Int)).toNat=y by omega]
 show IntKind.u64.wrap ((BitVec.ofInt 64 (x:Int) &&& BitVec.ofInt 64 (y:Int)).toNat:Nat)=_
 rw [key,IntKind.wrap_u64]
 have:=Nat.and_lt_two_pow x hy
 omega
theorem or64 (x y:Nat) (hx:x<2^64) (hy:y<2^64):bits .or .u64 (x:Int) (y:Int)=((x ||| y:Nat):Int):=by
 have key:(BitVec.ofInt 64 (x:Int) ||| BitVec.ofInt 64 (y:Int)).toNat=x ||| y:=by
  rw [BitVec.toNat_or,BitVec.toNat_ofInt,BitVec.toNat_ofInt,show ((x:Int)%((2^64:Nat):Int)).toNat=x by omega,show ((y:Int)%((2^64:Nat):Int)).toNat=y by omega]
 show IntKind.u64.wrap ((BitVec.ofInt 64 (x:Int) ||| BitVec.ofInt 64 (y:Int)).toNat:Nat)=_
 rw [key,IntKind.wrap_u64]
 have:=Nat.or_lt_two_pow hx hy
 omega
theorem bit64 (x e:Nat) (hx:x<2^64):bits .and .u64 ((x/2^e:Nat):Int) 1=(if x.testBit e then 1 else 0):=by
 rw [show (1:Int)=((1:Nat):Int) from rfl,and64 _ 1 (Nat.lt_of_le_of_lt (Nat.div_le_self _ _) hx) (by decide),Nat.and_one_is_mod]
 rw [Nat.testBit_eq_decide_div_mod_eq]
 by_cases h:x/2^e%2=1
 · rw [h,decide_eq_true rfl]; rfl
 · rw [decide_eq_false h,show x/2^e%2=0 by omega]; rfl
section
section
variable {P:Program} {ops:Array Oper} {Q:Exit→Act→World→Prop} {md:Region.Mode} {S S2:World→Prop} {c:Nat}
theorem readC {i:Nat} {oi oc:Oper} (dst:Option Tmp) (hdst:oi.dst=dst) {n:Nat} {l:Array Bool} {a:Act} {w:World} (v:Value) (hi:ops[i]?=some oi) (hc:ops[c]?=some oc) (hwait:(oc.after.any fun e=>Region.binds md e&&e.on == i)=true)
 (hw:Region.wanted oi (yielded ops a.tmps)=true) (hv:∀ w,S w→(execOp a.eval oi).run P w=.ok (.value v) w)
 (hs:Region.noSelect ops=true) (hf:Region.free md ops l i=true) (hl:l.getD c true=false) (hr:(Region.ready md ops l).contains i=true)
 (hQ:∀ p a w,Q (.panic p) (a.put dst v) w→Q (.panic p) a w) (hS:S w)
 (h:wpAnyC P md ops Q S c n (l.setIfInBounds i true) (a.put dst v) w):wpAnyC P md ops Q S c (n+1) l a w:=by
 subst hdst
 exact wpAnyC_take hi hc hwait hs hf hl hr hQ (.inl ⟨hw,hv⟩) hS h
theorem skipC (dst:Option Tmp) {oc:Oper} (hdst:oc.dst=dst) {n:Nat} {l:Array Bool} {a:Act} {w w':World} (hr:Region.ready md ops l=[c]) (hi:ops[c]?=some oc)
 (hw:Region.wanted oc (yielded ops a.tmps)=true) (he:(execOp a.eval oc).run P w=.ok .skip w') (hl:(l.setIfInBounds c true).getD c true=true)
 (h:wpAnyH P md ops Q S2 n (l.setIfInBounds c true) (a.put dst undef) w'):wpAnyC P md ops Q S c (n+1) l a w :=
 ⟨fun h0=>(by rw [h0] at hr; cases hr),fun j hj=>by
  rw [hr] at hj
  obtain rfl:=xm1 hj
  unfold wpOp
  simp only [hi,hw,if_true]; refine .inl ?_
  unfold Oper.wp
  rw [he]
  subst hdst
  exact ⟨fun hf=>(by rw [hl] at hf; cases hf),wpAnyC_rest n _ _ _ hl (wpAny_of_held n _ _ _ h)⟩⟩
end
end
def wcv (T:Int) (W:Nat→Nat):List Value:=.int .i64 (T+1)::row .u64 16 (fun i=>(W i:Int))
theorem wcv_len (T:Int) (W:Nat→Nat):(wcv T W).length=17:=by unfold wcv; rw [List.length_cons,row_length]
theorem wcv_get (T:Int) (W:Nat→Nat) (i:Nat) (h:i<16):(wcv T W)[1+i]?=some (.int .u64 (W i:Int)):=by
 unfold wcv
 rw [Nat.add_comm,List.getElem?_cons_succ]
 exact row_get .u64 16 _ i h
theorem row_put (k:IntKind) (n:Nat) (f:Nat→Int) (i:Nat) (v:Int):(row k n f).set i (.int k v)=row k n (fun j=>if j=i then v else f j):=by
 refine List.ext_getElem? fun j=>?_
 rw [List.getElem?_set]
 by_cases hj:j<n
 · rw [row_get k n _ j hj,row_get k n _ j hj,row_length]
   by_cases e:i=j
   · rw [if_pos e,if_pos (by omega),if_pos e.symm]
   · rw [if_neg e,if_neg (fun h=>e h.symm)]
 · rw [List.getElem?_eq_none (by rw [row_length]; omega),List.getElem?_eq_none (by rw [row_length]; omega),row_length]
   split
   · rw [if_neg (by omega)]
   · rfl
theorem row_nat (n:Nat) (W:Nat→Nat) (i v:Nat):row .u64 n (fun j=>if j=i then ((v:Nat):Int) else (W j:Int))=row .u64 n (fun j=>((if j=i then v else W j:Nat):Int)):=row_congr _ _ fun j _=>by split <;> rfl
theorem wcv_set (T:Int) (W:Nat→Nat) (i v:Nat):(wcv T W).set (1+i) (.int .u64 (v:Int))=wcv T (fun j=>if j=i then v else W j):=by
 unfold wcv
 rw [Nat.add_comm,List.set_cons_succ,row_put,row_nat]
theorem wcv_setA (T:Int) (W V:Nat→Nat):setL (wcv T W) 1 (row .u64 16 (fun i=>(V i:Int)))=wcv T V:=by
 have h:=setL_pre [.int .i64 (T+1)] (row .u64 16 (fun i=>(V i:Int))) (row .u64 16 (fun i=>(W i:Int))) 0; have h2:=setL_left (row .u64 16 (fun i=>(V i:Int))) (row .u64 16 (fun i=>(W i:Int))) [] (by rw [row_length,row_length])
 rw [List.append_nil,List.append_nil] at h2
 rw [h2] at h
 exact h
theorem wcv_congr {T:Int} {W V:Nat→Nat} (h:∀ i,i<16→W i=V i):wcv T W=wcv T V:=by
 unfold wcv
 rw [row_congr .u64 16 (fun j hj=>by rw [h j hj])]
theorem quo64 (k:Nat) (hk:k≤562949953421312):IntKind.i64.wrap ((k:Int).tdiv 64)=((k/64:Nat):Int):=by
 rw [Int.tdiv_eq_ediv_of_nonneg (by omega),xw6]
 omega
theorem rem64 (k:Nat):(k:Int).tmod 64=((k%64:Nat):Int):=by
 rw [Int.tmod_eq_emod_of_nonneg (by omega)]
 omega
def ib (b:Bool):Int:=if b then 1 else 0
theorem ib_eq (b:Bool):(ib b == 1)=b:=by cases b <;> rfl
theorem ib64 (x e:Nat) (hx:x<2^64):bits .and .u64 ((x/2^e:Nat):Int) 1=ib (x.testBit e):=bit64 x e hx
theorem vtop14_any (w0 w:World) (R:Nat) (l:List (Nat × List Value)) (T:Int) (W:Nat→Nat) (hT1:-1≤T) (hT2:T≤281474976710655) (M:Mm w0 ((R,wcv T W)::l) w) :
 Calls Tryz.prog 65 #[.pointer (some ⟨R,0,none⟩)] w fun e w'=>e=.returned (.int .i64 T)∧Below w.heap.size w w':=by
 have hB:=Below.refl w.heap.size w
 go_enter Tryz.func65,Tryz.ntmps65
 go_upto_region 0 with fail; refine wp_region_list ?_; refine xpL (.int .i64 0) ?_; refine xT ?_; go_upto_region 1 with fail; refine wp_region_list ?_; refine xpL (.pointer (some ⟨R,0,none⟩)) ?_; refine xpL (.pointer (some ⟨R,0,none⟩)) ?_; refine xpL (.pointer (some ⟨R,0,none⟩)) ?_
 refine xaL (.int .i64 (T+1)) (load1 3 _ ⟨R,0,none⟩ _ rfl rfl (fun _=>by kernel_rfl) (M.get mS 0 _ rfl)) ?_; refine xaL (.int .i64 T) (subI .i64 _ _ _ _ _ _ _ rfl rfl rfl (by rw [xw6]; omega) _) ?_; refine xpL (.int .i64 T) ?_; refine xT ?_; have HS:=show Hid _ from hB; clear M hB; go_wp2; go_ret
 exact ⟨rfl,HS.out⟩
theorem vplace_any (w0 w:World) (R:Nat) (l:List (Nat × List Value)) (T:Int) (W:Nat→Nat) (hT1:-1≤T) (hT2:T≤281474976710655) (n:Int) (k:Nat) (hk:T-n=(k:Int)) (hk2:k<1024) (M:Mm w0 ((R,wcv T W)::l) w) :
 Calls Tryz.prog 69 #[.pointer (some ⟨R,0,none⟩),.int .i64 n] w fun e w'=>e=.returned (.tuple #[.int .i64 ((k/64:Nat):Int),.int .i64 ((k%64:Nat):Int)])∧Below w.heap.size w w':=by
 have hB:=Below.refl w.heap.size w
 go_enter Tryz.func69,Tryz.ntmps69
 go_upto_region 0 with fail; refine wp_region_list ?_; refine xpL (.int .i64 0) ?_; refine xpL (.int .i64 0) ?_; refine xT ?_; go_upto_region 1 with fail; refine wp_region_list ?_; refine xpL (.pointer (some ⟨R,0,none⟩)) ?_; refine xcL (vtop14_any w0 _ R _ T W hT1 hT2 M) ?_; rintro e w1 ⟨rfl,l1⟩; replace M:=M.call l1; replace hB:=hB.trans (l1.mono hB.size); clear l1; refine xeL ?_
 refine xpL (.int .i64 n) ?_; refine xaL (.int .i64 ((k:Nat):Int)) (subI .i64 _ _ _ _ _ _ _ rfl rfl rfl (by rw [hk,xw6]; omega) _) ?_; refine xpL (.int .i64 ((k:Nat):Int)) ?_; refine xT ?_; go_upto_region 2 with fail; refine wp_region_list ?_; refine xpL (.int .i64 ((k:Nat):Int)) ?_
 refine xaL (.int .i64 ((k/64:Nat):Int)) (quoI .i64 _ _ _ _ _ _ _ rfl rfl rfl (by decide) (quo64 k (by omega)) _) ?_; refine xpL (.int .i64 ((k:Nat):Int)) ?_; refine xaL (.int .i64 ((k%64:Nat):Int)) (remI .i64 _ _ _ _ _ _ _ rfl rfl rfl (by decide) (rem64 k) _) ?_; refine xpL (.int .i64 ((k/64:Nat):Int)) ?_; refine xpL (.int .i64 ((k%64:Nat):Int)) ?_; refine xT ?_
 have HS:=show Hid _ from hB; clear M hB; go_wp2; go_ret2
 exact ⟨rfl,HS.out⟩
theorem vmarked_any (w0 w:World) (R:Nat) (l:List (Nat × List Value)) (T:Int) (W:Nat→Nat) (hT1:-1≤T) (hT2:T≤281474976710655) (hW:∀ i,i<16→W i<2^64) (n:Int) (k:Nat) (hk:T-n=(k:Int)) (hk2:k<1024) (b:Bool) (hb:(W (k/64)).testBit (k%64)=b) (M:Mm w0 ((R,wcv T W)::l) w) :
 Calls Tryz.prog 66 #[.pointer (some ⟨R,0,none⟩),.int .i64 n] w fun e w'=>e=.returned (.bool b)∧Below w.heap.size w w':=by
 have hB:=Below.refl w.heap.size w
 go_enter Tryz.func66,Tryz.ntmps66
 go_upto_region 0 with fail; refine wp_region_list ?_; refine xpL (.bool false) ?_; refine xT ?_; go_upto_region 1 with fail; refine wp_region_list ?_; refine xpL (.pointer (some ⟨R,0,none⟩)) ?_; refine xpL (.int .i64 n) ?_; refine xcL (vplace_any w0 _ R _ T W hT1 hT2 n k hk hk2 M) ?_; rintro e w1 ⟨rfl,l1⟩; replace M:=M.call l1; replace hB:=hB.trans (l1.mono hB.size); clear l1
 refine xeL ?_; refine xpL (.tuple #[.int .i64 ((k/64:Nat):Int),.int .i64 ((k%64:Nat):Int)]) ?_; refine xpL (.int .i64 ((k/64:Nat):Int)) ?_; refine xpL (.int .i64 ((k%64:Nat):Int)) ?_; refine xpL (.int .i64 ((k/64:Nat):Int)) ?_; refine xpL (.int .i64 ((k%64:Nat):Int)) ?_; refine xT ?_; go_upto_region 2 with fail; refine wp_region_list ?_
 refine xpL (.pointer (some ⟨R,0,none⟩)) ?_; refine xpL (.int .i64 ((k/64:Nat):Int)) ?_; refine xpL (.pointer (some ⟨R,0,none⟩)) ?_; refine xpL (.pointer (some ⟨R,1,none⟩)) ?_; refine xaL (.pointer (some ⟨R,1+(k/64),none⟩)) (idxArr 120 107 16 .i64 R 1 (k/64) _ _ Tryz.underlying120 (fun _=>by kernel_rfl) (by omega) rfl rfl rfl _) ?_
 refine readL (.int .u64 ((W (k/64):Nat):Int)) rfl (load1 107 _ ⟨R,1+(k/64),none⟩ _ rfl rfl (fun _=>by kernel_rfl) (M.get mS _ _ (wcv_get T W (k/64) (by omega)))) ?_; simp only [aP,lI,l0,lS]; refine xpL (.int .i64 ((k%64:Nat):Int)) ?_
 refine readL (.int .u64 ((W (k/64)/2^(k%64):Nat):Int)) rfl (shrI .u64 .i64 _ _ _ _ _ _ _ rfl rfl rfl (by omega) (shr64 _ _ (by omega)) _) ?_; simp only [aP,lI,l0,lS]; refine readL (.int .u64 (ib ((W (k/64)).testBit (k%64)))) rfl (vandI .u64 _ _ _ _ _ _ _ rfl rfl rfl (ib64 _ _ (hW _ (by omega))) _) ?_; simp only [aP,lI,l0,lS]
 refine xaL (.bool b) (eqlI .u64 _ _ _ _ _ _ rfl rfl rfl b (by rw [ib_eq]; exact hb) _) ?_; refine xpL (.bool b) ?_; refine xT ?_; have HS:=show Hid _ from hB; clear M hB; go_wp2; go_ret
 exact ⟨rfl,HS.out⟩
theorem wck_arg {L:List Int} {n:Int} (h:n<0∨281474976710655<n):wchk L n=1:=if_pos h
theorem wck_old {L:List Int} {n:Int} (h:¬ (n<0∨281474976710655<n)) (h2:n≤wtop L-1024∨n∈L):wchk L n=140:=by unfold wchk; rw [if_neg h,if_pos h2]
theorem wck_new {L:List Int} {n:Int} (h:¬ (n<0∨281474976710655<n)) (h2:¬ (n≤wtop L-1024∨n∈L)):wchk L n=0:=by unfold wchk; rw [if_neg h,if_neg h2]
theorem vcheck14_any (w0 w:World) (R:Nat) (l:List (Nat × List Value)) (L:List Int) (W:Nat→Nat) (hL:WinL L) (hW:Wds W L) (n:Int) (hn:i64 n) (M:Mm w0 ((R,wcv (wtop L) W)::l) w) :
 Calls Tryz.prog 48 #[.pointer (some ⟨R,0,none⟩),.int .i64 n] w fun e w'=>e=.returned (.int .i64 (wchk L n))∧Below w.heap.size w w':=by
 have hB:=Below.refl w.heap.size w
 go_enter Tryz.func48,Tryz.ntmps48
 have hT1:=wtop_ge L; have hT2:=wtop_max hL
 unfold i64 at hn
 go_upto_region 0 with fail; refine wp_region_list ?_; refine xpL (.int .i64 0) ?_; refine xT ?_
 by_cases h1:n<0
 · go_upto_region 1 with fail
   refine wp_region_list ?_; refine xpL (.int .i64 n) ?_; refine xaL (.bool true) (lssI .i64 _ _ _ _ _ _ rfl rfl rfl true (decide_eq_true (by omega)) _) ?_; refine xpL (.bool true) ?_
   with_reducible refine skipL ?_ ?_
   · rfl
   simp only [aP,lI,l0,lS]
   with_reducible refine skipL ?_ ?_
   · rfl
   simp only [aP,lI,l0,lS]; refine xpL (.bool true) ?_; refine xpL (.bool true) ?_; refine xT ?_; go_upto_region 2 with fail; refine wp_region_list ?_; refine xpL (.int .i64 1) ?_; refine xT ?_; have hk_:=show Hid _ from (wck_arg (L:=L) (.inl h1)); have HS:=show Hid _ from hB; clear M hB hW hL; go_wp2; go_ret
   exact ⟨by rw [hk_.out]; rfl,HS.out⟩
 · by_cases h2:281474976710655<n
   · go_upto_region 1 with fail
     refine wp_region_list ?_; refine xpL (.int .i64 n) ?_; refine xaL (.bool false) (lssI .i64 _ _ _ _ _ _ rfl rfl rfl false (decide_eq_false (by omega)) _) ?_; refine xpL (.bool false) ?_; refine xpL (.int .i64 n) ?_; refine xaL (.bool true) (gtrI .i64 _ _ _ _ _ _ rfl rfl rfl true (decide_eq_true (by omega)) _) ?_; refine xpL (.bool true) ?_; refine xpL (.bool true) ?_; refine xT ?_
     go_upto_region 2 with fail; refine wp_region_list ?_; refine xpL (.int .i64 1) ?_; refine xT ?_; have hk_:=show Hid _ from (wck_arg (L:=L) (.inr h2)); have HS:=show Hid _ from hB; clear M hB hW hL; go_wp2; go_ret
     exact ⟨by rw [hk_.out]; rfl,HS.out⟩
   · go_upto_region 1 with fail
     refine wp_region_list ?_; refine xpL (.int .i64 n) ?_; refine xaL (.bool false) (lssI .i64 _ _ _ _ _ _ rfl rfl rfl false (decide_eq_false (by omega)) _) ?_; refine xpL (.bool false) ?_; refine xpL (.int .i64 n) ?_; refine xaL (.bool false) (gtrI .i64 _ _ _ _ _ _ rfl rfl rfl false (decide_eq_false (by omega)) _) ?_; refine xpL (.bool false) ?_; refine xpL (.bool false) ?_; refine xT ?_
     by_cases h3:n>wtop L
     · go_upto_region 3 with fail
       refine wp_region_list ?_; refine xpL (.int .i64 n) ?_; refine xpL (.pointer (some ⟨R,0,none⟩)) ?_; refine xcL (vtop14_any w0 _ R _ (wtop L) W hT1 hT2 M) ?_; rintro e w1 ⟨rfl,l1⟩; replace M:=M.call l1; replace hB:=hB.trans (l1.mono hB.size); clear l1; refine xeL ?_; refine xaL (.bool true) (gtrI .i64 _ _ _ _ _ _ rfl rfl rfl true (decide_eq_true (by omega)) _) ?_
       refine xpL (.bool true) ?_; refine xT ?_; go_upto_region 4 with fail; refine wp_region_list ?_; refine xpL (.int .i64 0) ?_; refine xT ?_; have hk_:=show Hid _ from (wck_new (L:=L) (n:=n) (by omega) (fun h=>h.elim (fun h=>by omega) (fun h=>by have:=wtop_le h; omega))); have HS:=show Hid _ from hB; clear M hB hW hL; go_wp2; go_ret
       exact ⟨by rw [hk_.out]; rfl,HS.out⟩
     · go_upto_region 3 with fail
       refine wp_region_list ?_; refine xpL (.int .i64 n) ?_; refine xpL (.pointer (some ⟨R,0,none⟩)) ?_; refine xcL (vtop14_any w0 _ R _ (wtop L) W hT1 hT2 M) ?_; rintro e w2 ⟨rfl,l1⟩; replace M:=M.call l1; replace hB:=hB.trans (l1.mono hB.size); clear l1; refine xeL ?_; refine xaL (.bool false) (gtrI .i64 _ _ _ _ _ _ rfl rfl rfl false (decide_eq_false (by omega)) _) ?_
       refine xpL (.bool false) ?_; refine xT ?_
       by_cases h4:n≤wtop L-1024
       · go_upto_region 5 with fail
         refine wp_region_list ?_; refine xpL (.int .i64 n) ?_; refine xpL (.pointer (some ⟨R,0,none⟩)) ?_; refine xcL (vtop14_any w0 _ R _ (wtop L) W hT1 hT2 M) ?_; rintro e w3 ⟨rfl,l1⟩; replace M:=M.call l1; replace hB:=hB.trans (l1.mono hB.size); clear l1; refine xeL ?_; refine xaL (.int .i64 ((wtop L)-1024)) (subI .i64 _ _ _ _ _ _ _ rfl rfl rfl (by rw [xw6]; omega) _) ?_
         refine xaL (.bool true) (leqI .i64 _ _ _ _ _ _ rfl rfl rfl true (decide_eq_true (by omega)) _) ?_; refine xpL (.bool true) ?_
         with_reducible refine skipL ?_ ?_
         · rfl
         simp only [aP,lI,l0,lS]
         with_reducible refine skipL ?_ ?_
         · rfl
         simp only [aP,lI,l0,lS]
         with_reducible refine skipL ?_ ?_
         · rfl
         simp only [aP,lI,l0,lS]; refine xpL (.bool true) ?_; refine xpL (.bool true) ?_; refine xT ?_; go_upto_region 6 with fail; refine wp_region_list ?_; refine xpL (.int .i64 140) ?_; refine xT ?_; have hk_:=show Hid _ from (wck_old (L:=L) (n:=n) (by omega) (.inl h4)); have HS:=show Hid _ from hB; clear M hB hW hL; go_wp2; go_ret
         exact ⟨by rw [hk_.out]; rfl,HS.out⟩
       · have hk:wtop L-n=((wtop L-n).toNat:Int):=by omega
         by_cases hm:n∈L
         · go_upto_region 5 with fail
           refine wp_region_list ?_; refine xpL (.int .i64 n) ?_; refine xpL (.pointer (some ⟨R,0,none⟩)) ?_; refine xcL (vtop14_any w0 _ R _ (wtop L) W hT1 hT2 M) ?_; rintro e w4 ⟨rfl,l1⟩; replace M:=M.call l1; replace hB:=hB.trans (l1.mono hB.size); clear l1; refine xeL ?_; refine xaL (.int .i64 ((wtop L)-1024)) (subI .i64 _ _ _ _ _ _ _ rfl rfl rfl (by rw [xw6]; omega) _) ?_
           refine xaL (.bool false) (leqI .i64 _ _ _ _ _ _ rfl rfl rfl false (decide_eq_false (by omega)) _) ?_; refine xpL (.bool false) ?_; refine xpL (.pointer (some ⟨R,0,none⟩)) ?_; refine xpL (.int .i64 n) ?_; refine xcL (vmarked_any w0 _ R _ (wtop L) W hT1 hT2 hW.lt n (wtop L-n).toNat hk (by omega) true ((hW.at hk (by omega)).trans (decide_eq_true hm)) M) ?_; rintro e w5 ⟨rfl,l1⟩
           replace M:=M.call l1; replace hB:=hB.trans (l1.mono hB.size); clear l1; refine xeL ?_; refine xpL (.bool true) ?_; refine xpL (.bool true) ?_; refine xT ?_; go_upto_region 6 with fail; refine wp_region_list ?_; refine xpL (.int .i64 140) ?_; refine xT ?_; have hk_:=show Hid _ from (wck_old (L:=L) (n:=n) (by omega) (.inr hm)); have HS:=show Hid _ from hB; clear M hB hW hL
           go_wp2; go_ret
           exact ⟨by rw [hk_.out]; rfl,HS.out⟩
         · go_upto_region 5 with fail
           refine wp_region_list ?_; refine xpL (.int .i64 n) ?_; refine xpL (.pointer (some ⟨R,0,none⟩)) ?_; refine xcL (vtop14_any w0 _ R _ (wtop L) W hT1 hT2 M) ?_; rintro e w6 ⟨rfl,l1⟩; replace M:=M.call l1; replace hB:=hB.trans (l1.mono hB.size); clear l1; refine xeL ?_; refine xaL (.int .i64 ((wtop L)-1024)) (subI .i64 _ _ _ _ _ _ _ rfl rfl rfl (by rw [xw6]; omega) _) ?_
           refine xaL (.bool false) (leqI .i64 _ _ _ _ _ _ rfl rfl rfl false (decide_eq_false (by omega)) _) ?_; refine xpL (.bool false) ?_; refine xpL (.pointer (some ⟨R,0,none⟩)) ?_; refine xpL (.int .i64 n) ?_; refine xcL (vmarked_any w0 _ R _ (wtop L) W hT1 hT2 hW.lt n (wtop L-n).toNat hk (by omega) false ((hW.at hk (by omega)).trans (decide_eq_false hm)) M) ?_; rintro e w7 ⟨rfl,l1⟩
           replace M:=M.call l1; replace hB:=hB.trans (l1.mono hB.size); clear l1; refine xeL ?_; refine xpL (.bool false) ?_; refine xpL (.bool false) ?_; refine xT ?_; go_upto_region 7 with fail; refine wp_region_list ?_; refine xpL (.int .i64 0) ?_; refine xT ?_; have hk_:=show Hid _ from (wck_new (L:=L) (n:=n) (by omega) (fun h=>h.elim h4 hm)); have HS:=show Hid _ from hB
           clear M hB hW hL; go_wp2; go_ret
           exact ⟨by rw [hk_.out]; rfl,HS.out⟩
def VI (v:Value) (L:List Int) (bs:List (Nat × List Value)):Prop:=∃ R W,v=.pointer (some ⟨R,0,none⟩)∧Wds W L∧bs=[(R,wcv (wtop L) W)]
def fset (V:Nat→Nat) (j v i:Nat):Nat:=if i=j then v else V i
theorem fset_same (V:Nat→Nat) (j v:Nat):fset V j v j=v:=if_pos rfl
theorem row_fset (n:Nat) (V:Nat→Nat) (j v:Nat):(row .u64 n (fun i=>(V i:Int))).set (0+j) (.int .u64 ((v:Nat):Int))=row .u64 n (fun i=>(fset V j v i:Int)):=by
 rw [Nat.zero_add,row_put,row_nat]
 rfl
theorem row_at (n:Nat) (V:Nat→Nat) (j v:Nat) (hj:j<n) (hv:V j=v):(row .u64 n (fun i=>(V i:Int)))[0+j]?=some (.int .u64 ((v:Nat):Int)):=by
 rw [Nat.zero_add,row_get .u64 n _ j hj,hv]
def mvd (W:Nat→Nat) (d j i:Nat):Nat:=if i<j then wst W d i else 0
theorem mvd_next (W:Nat→Nat) (d j:Nat) (V:Nat→Nat) (hV:∀ i,i<16→V i=if i=j then wst W d j else mvd W d j i):∀ i,i<16→(V i:Int)=((mvd W d (j+1) i:Nat):Int):=fun i hi=>by
 rw [hV i hi]
 unfold mvd
 by_cases e:i=j
 · subst e
   rw [if_pos rfl,if_pos (by omega)]
 · rw [if_neg e]
   by_cases h:i<j
   · rw [if_pos h,if_pos (by omega)]
   · rw [if_neg h,if_neg (by omega)]
theorem mvd_fset (W:Nat→Nat) (d j v:Nat):∀ i,i<16→fset (fset (mvd W d j) j v) j (wst W d j) i=if i=j then wst W d j else mvd W d j i:=fun i _=>by
 unfold fset
 split <;> rfl
theorem mvd_end (W:Nat→Nat) (d:Nat):∀ i,i<16→mvd W d 16 i=wst W d i:=fun i hi=>by unfold mvd; rw [if_pos hi]
theorem wst_none (W:Nat→Nat) (d j:Nat) (h:j<d/64):wst W d j=0:=by unfold wst wup wdn; rw [if_neg (by omega),if_neg (by omega)]; rfl
theorem wst_up (W:Nat→Nat) (d j:Nat) (h:j=d/64):wst W d j=W (j-d/64)*2^(d%64)%2^64:=by
 unfold wst wup wdn
 rw [if_pos (by omega),if_neg (by omega),Nat.or_zero]
theorem wst_both (W:Nat→Nat) (d j:Nat) (h:d/64<j):wst W d j=W (j-d/64)*2^(d%64)%2^64 ||| W (j-d/64-1)/2^(64-d%64):=by
 unfold wst wup wdn
 rw [if_pos (by omega),if_pos h]
theorem vrise_any (w0 w:World) (R:Nat) (l:List (Nat × List Value)) (T:Int) (W:Nat→Nat) (hT1:-1≤T) (hT2:T≤281474976710655) (f:Nat→Bool) (hW:Bts W f) (n:Int) (d:Nat) (hd:n-T=(d:Int)) (hd1:1≤d) (hn:n≤281474976710655) (M:Mm w0 ((R,wcv T W)::l) w) :
 Calls Tryz.prog 68 #[.pointer (some ⟨R,0,none⟩),.int .i64 n] w fun e w'=>e=.returned (.tuple #[])∧Mm w0 ((R,wcv n (wst W d))::l) w'∧Off [R] w w':=by
 go_enter Tryz.func68,Tryz.ntmps68
 have OF:=Off.refl [R] w; go_upto_region 0 with fail; refine wp_region_list ?_; refine xpL (.int .i64 n) ?_; refine xpL (.pointer (some ⟨R,0,none⟩)) ?_; refine xcL (vtop14_any w0 _ R _ T W hT1 hT2 M) ?_; rintro e w1 ⟨rfl,l1⟩; replace M:=M.call l1; replace OF:=OF.below l1; clear l1; refine xeL ?_
 refine xaL (.int .i64 ((d:Nat):Int)) (subI .i64 _ _ _ _ _ _ _ rfl rfl rfl (by rw [hd,xw6]; omega) _) ?_; refine xaL (.int .i64 ((d/64:Nat):Int)) (quoI .i64 _ _ _ _ _ _ _ rfl rfl rfl (by decide) (quo64 d (by omega)) _) ?_; refine xpL (.int .i64 n) ?_; refine xpL (.pointer (some ⟨R,0,none⟩)) ?_; refine xcL (vtop14_any w0 _ R _ T W hT1 hT2 M) ?_; rintro e w2 ⟨rfl,l1⟩
 replace M:=M.call l1; replace OF:=OF.below l1; clear l1; refine xeL ?_; refine xaL (.int .i64 ((d:Nat):Int)) (subI .i64 _ _ _ _ _ _ _ rfl rfl rfl (by rw [hd,xw6]; omega) _) ?_; refine xaL (.int .i64 ((d%64:Nat):Int)) (remI .i64 _ _ _ _ _ _ _ rfl rfl rfl (by decide) (rem64 d) _) ?_; refine xpL (.int .i64 ((d/64:Nat):Int)) ?_; refine xpL (.int .i64 ((d%64:Nat):Int)) ?_
 refine xT ?_; go_upto_region 1 with fail; refine wp_region_list ?_; have hlb:=(Below.refl w2.heap.size w2).alloc (xnR _) (.cells zu64_16 120); refine actL (w':=w2.alloc (.cells zu64_16 120)) (.pointer (some ⟨w2.heap.size,0,none⟩)) rfl (by kernel_rfl) ?_; simp only [aP,lI,l0,lS]; have hBz0:=OF.size; replace OF:=OF.below hlb; replace M:=M.box zu64_16 120 w2.heap.size rfl; clear hlb
 generalize w2.alloc (.cells zu64_16 120)=w3 at M OF ⊢; generalize eB:w2.heap.size=B at M hBz0 ⊢
 have hBz:w.heap.size≤B:=hBz0
 clear eB hBz0
 replace M:Mm w0 ((B,row .u64 16 (fun i=>((mvd W d 0 i:Nat):Int)))::(R,wcv T W)::l) w3:=M
 refine xT ?_; go_upto_region 2 with fail; refine wp_region_list ?_; refine xpL (.int .i64 0) ?_; refine xT ?_; have HI:=show Hid _ from (And.intro M OF); clear M OF; go_wp2
 go_loopw [18] (fun i w'=>∃ j:Nat,j≤16∧i=.int .i64 (j:Int)∧Mm w0 ((B,row .u64 16 (fun i=>((mvd W d j i:Nat):Int)))::(R,wcv T W)::l) w'∧Off [R] w w') (fun i _=>16-(intOf i).toNat)
 case atStart=>exact ⟨0,Nat.zero_le _,rfl,HI.out⟩
 case round =>
  clear HI
  obtain ⟨j,hj,rfl,M,OF⟩:=hrel
  by_cases hlt:j<16
  · go_upto_region 3 with fail
    refine wp_region_list ?_; refine xaL (.bool true) (lssI .i64 _ _ _ _ _ _ rfl rfl rfl true (decide_eq_true (by omega)) _) ?_; refine xT ?_; go_upto_region 4 with fail; refine wp_region_list ?_; refine xpL (.int .i64 (j:Int)) ?_; refine xpL (.int .i64 (j:Int)) ?_; refine xT ?_
    by_cases h1:j<d/64
    · go_upto_region 5 with fail
      refine wp_region_list ?_; refine xpL (.int .i64 (j:Int)) ?_; refine xpL (.int .i64 ((d/64:Nat):Int)) ?_; refine xaL (.bool false) (geqI .i64 _ _ _ _ _ _ rfl rfl rfl false (decide_eq_false (by omega)) _) ?_; refine xT ?_; go_upto_region 7 with fail; refine wp_region_list ?_; refine xpL (.int .i64 (j:Int)) ?_; refine xpL (.int .i64 ((d/64:Nat):Int)) ?_
      refine xaL (.bool false) (gtrI .i64 _ _ _ _ _ _ rfl rfl rfl false (decide_eq_false (by omega)) _) ?_; refine xT ?_
      have hrow:=row_congr .u64 16 (mvd_next W d j (mvd W d j) (fun i _=>by
       by_cases e:i=j
       · rw [if_pos e,wst_none W d j h1,e]; exact if_neg (by omega)
       · rw [if_neg e]))
      rw [hrow] at M
      have HS:=show Hid _ from (And.intro M OF); clear M OF hW hrow; go_wp2
      go_roundw
      case rel=>exact ⟨j+1,by omega,by go_num,HS.out⟩
      case measure=>simp [intOf]; omega
    · go_upto_region 5 with fail
      refine wp_region_list ?_; refine xpL (.int .i64 (j:Int)) ?_; refine xpL (.int .i64 ((d/64:Nat):Int)) ?_; refine xaL (.bool true) (geqI .i64 _ _ _ _ _ _ rfl rfl rfl true (decide_eq_true (by omega)) _) ?_; refine xT ?_; go_upto_region 6 with fail; refine wp_region_list ?_; refine xpL (.int .i64 (j:Int)) ?_; refine xpL (.pointer (some ⟨R,0,none⟩)) ?_
      refine xpL (.int .i64 (j:Int)) ?_; refine xpL (.int .i64 ((d/64:Nat):Int)) ?_; refine xaL (.int .i64 ((j-d/64:Nat):Int)) (subI .i64 _ _ _ _ _ _ _ rfl rfl rfl (by rw [xw6]; omega) _) ?_; refine xpL (.pointer (some ⟨R,0,none⟩)) ?_; refine xpL (.pointer (some ⟨R,1,none⟩)) ?_
      refine xaL (.pointer (some ⟨R,1+(j-d/64),none⟩)) (idxArr 120 107 16 .i64 R 1 (j-d/64) _ _ Tryz.underlying120 (fun _=>by kernel_rfl) (by omega) rfl rfl rfl _) ?_; refine readL (.int .u64 ((W (j-d/64):Nat):Int)) rfl (load1 107 _ ⟨R,1+(j-d/64),none⟩ _ rfl rfl (fun _=>by kernel_rfl) (M.get (mT _ mS) _ _ (wcv_get T W (j-d/64) (by omega)))) ?_
      simp only [aP,lI,l0,lS]; refine xpL (.int .i64 ((d%64:Nat):Int)) ?_; refine readL (.int .u64 ((W (j-d/64)*2^(d%64)%2^64:Nat):Int)) rfl (shlI .u64 .i64 _ _ _ _ _ _ _ rfl rfl rfl (by omega) (shl64 _ _ (by omega)) _) ?_; simp only [aP,lI,l0,lS]
      refine xaL (.pointer (some ⟨B,0+j,none⟩)) (idxArr 120 107 16 .i64 B 0 j _ _ Tryz.underlying120 (fun _=>by kernel_rfl) (by omega) rfl rfl rfl _) ?_; refine skipOpL rfl (storeAny (.int .u64 ((W (j-d/64)*2^(d%64)%2^64:Nat):Int)) B (0+j) 107 _ _ rfl rfl rfl rfl rfl (M.isSome mS _ (by rw [row_length]; omega)) (M.free mS _ (by rw [row_length]; omega)) (by kernel_rfl)) ?_
      simp only [Act.put]; replace M:=M.set (0+j) (by rw [row_length]; omega) (.int .u64 ((W (j-d/64)*2^(d%64)%2^64:Nat):Int))
      rw [row_fset] at M
      replace OF:=OF.and1 ((Off.refl [B] _).set (b:=B) mS (0+j) (.int .u64 ((W (j-d/64)*2^(d%64)%2^64:Nat):Int))) (.inr (by omega)); generalize wr.setCell ⟨B,0+j,none⟩ (.int .u64 ((W (j-d/64)*2^(d%64)%2^64:Nat):Int))=w4 at M OF ⊢; refine xT ?_
      by_cases h2:d/64<j
      · go_upto_region 7 with fail
        refine wp_region_list ?_; refine xpL (.int .i64 (j:Int)) ?_; refine xpL (.int .i64 ((d/64:Nat):Int)) ?_; refine xaL (.bool true) (gtrI .i64 _ _ _ _ _ _ rfl rfl rfl true (decide_eq_true (by omega)) _) ?_; refine xT ?_; go_upto_region 8 with fail
        refine wp_region_C (S:=fun w'=>Mm w0 ((B,row .u64 16 (fun i=>((fset (mvd W d j) j (W (j-d/64)*2^(d%64)%2^64) i:Nat):Int)))::(R,wcv T W)::l) w') 17 (by kernel_rfl) M.drew ?_; clear M; intro M; have hdr:=(Below.refl w4.heap.size w4).drew; replace OF:=OF.below hdr; clear hdr; generalize w4.drew=w5 at M OF ⊢
        refine readC (i:=0) (some 39) rfl (.int .i64 (j:Int)) rfl rfl (by kernel_rfl) rfl (fun _ M=>(by kernel_rfl)) (by kernel_rfl) (by kernel_rfl) (by kernel_rfl) (by kernel_rfl) (fun _ _ _ h=>h) M ?_; simp only [aP,lI,l0,lS]
        refine readC (i:=1) (some 40) rfl (.pointer (some ⟨B,0+j,none⟩)) rfl rfl (by kernel_rfl) rfl (fun _ M=>idxArr 120 107 16 .i64 B 0 j _ _ Tryz.underlying120 (fun _=>by kernel_rfl) (by omega) rfl rfl rfl _) (by kernel_rfl) (by kernel_rfl) (by kernel_rfl) (by kernel_rfl) (fun _ _ _ h=>h) M ?_; simp only [aP,lI,l0,lS]
        refine readC (i:=2) (some 41) rfl (.int .u64 ((W (j-d/64)*2^(d%64)%2^64:Nat):Int)) rfl rfl (by kernel_rfl) rfl (fun _ M=>load1 107 _ ⟨B,0+j,none⟩ _ rfl rfl (fun _=>by kernel_rfl) (M.get mS _ _ (row_at 16 _ j (W (j-d/64)*2^(d%64)%2^64) hlt (fset_same _ _ _)))) (by kernel_rfl) (by kernel_rfl) (by kernel_rfl) (by kernel_rfl) (fun _ _ _ h=>h) M ?_
        simp only [aP,lI,l0,lS]; refine readC (i:=3) (some 42) rfl (.pointer (some ⟨R,0,none⟩)) rfl rfl (by kernel_rfl) rfl (fun _ M=>(by kernel_rfl)) (by kernel_rfl) (by kernel_rfl) (by kernel_rfl) (by kernel_rfl) (fun _ _ _ h=>h) M ?_; simp only [aP,lI,l0,lS]
        refine readC (i:=4) (some 43) rfl (.int .i64 (j:Int)) rfl rfl (by kernel_rfl) rfl (fun _ M=>(by kernel_rfl)) (by kernel_rfl) (by kernel_rfl) (by kernel_rfl) (by kernel_rfl) (fun _ _ _ h=>h) M ?_; simp only [aP,lI,l0,lS]
        refine readC (i:=5) (some 44) rfl (.int .i64 ((d/64:Nat):Int)) rfl rfl (by kernel_rfl) rfl (fun _ M=>(by kernel_rfl)) (by kernel_rfl) (by kernel_rfl) (by kernel_rfl) (by kernel_rfl) (fun _ _ _ h=>h) M ?_; simp only [aP,lI,l0,lS]
        refine readC (i:=6) (some 45) rfl (.int .i64 ((j-d/64:Nat):Int)) rfl rfl (by kernel_rfl) rfl (fun _ M=>subI .i64 _ _ _ _ _ _ _ rfl rfl rfl (by rw [xw6]; omega) _) (by kernel_rfl) (by kernel_rfl) (by kernel_rfl) (by kernel_rfl) (fun _ _ _ h=>h) M ?_; simp only [aP,lI,l0,lS]
        refine readC (i:=7) (some 46) rfl (.int .i64 ((j-d/64-1:Nat):Int)) rfl rfl (by kernel_rfl) rfl (fun _ M=>subI .i64 _ _ _ _ _ _ _ rfl rfl rfl (by rw [xw6]; omega) _) (by kernel_rfl) (by kernel_rfl) (by kernel_rfl) (by kernel_rfl) (fun _ _ _ h=>h) M ?_; simp only [aP,lI,l0,lS]
        refine readC (i:=8) (some 47) rfl (.pointer (some ⟨R,0,none⟩)) rfl rfl (by kernel_rfl) rfl (fun _ M=>(by kernel_rfl)) (by kernel_rfl) (by kernel_rfl) (by kernel_rfl) (by kernel_rfl) (fun _ _ _ h=>h) M ?_; simp only [aP,lI,l0,lS]
        refine readC (i:=9) (some 48) rfl (.pointer (some ⟨R,1,none⟩)) rfl rfl (by kernel_rfl) rfl (fun _ M=>(by kernel_rfl)) (by kernel_rfl) (by kernel_rfl) (by kernel_rfl) (by kernel_rfl) (fun _ _ _ h=>h) M ?_; simp only [aP,lI,l0,lS]
        refine readC (i:=10) (some 49) rfl (.pointer (some ⟨R,1+(j-d/64-1),none⟩)) rfl rfl (by kernel_rfl) rfl (fun _ M=>idxArr 120 107 16 .i64 R 1 (j-d/64-1) _ _ Tryz.underlying120 (fun _=>by kernel_rfl) (by omega) rfl rfl rfl _) (by kernel_rfl) (by kernel_rfl) (by kernel_rfl) (by kernel_rfl) (fun _ _ _ h=>h) M ?_; simp only [aP,lI,l0,lS]
        refine readC (i:=11) (some 50) rfl (.int .u64 ((W (j-d/64-1):Nat):Int)) rfl rfl (by kernel_rfl) rfl (fun _ M=>load1 107 _ ⟨R,1+(j-d/64-1),none⟩ _ rfl rfl (fun _=>by kernel_rfl) (M.get (mT _ mS) _ _ (wcv_get T W (j-d/64-1) (by omega)))) (by kernel_rfl) (by kernel_rfl) (by kernel_rfl) (by kernel_rfl) (fun _ _ _ h=>h) M ?_; simp only [aP,lI,l0,lS]
        refine readC (i:=12) (some 51) rfl (.int .i64 ((d%64:Nat):Int)) rfl rfl (by kernel_rfl) rfl (fun _ M=>(by kernel_rfl)) (by kernel_rfl) (by kernel_rfl) (by kernel_rfl) (by kernel_rfl) (fun _ _ _ h=>h) M ?_; simp only [aP,lI,l0,lS]
        refine readC (i:=13) (some 52) rfl (.int .i64 ((64-d%64:Nat):Int)) rfl rfl (by kernel_rfl) rfl (fun _ M=>subI .i64 _ _ _ _ _ _ _ rfl rfl rfl (by rw [xw6]; omega) _) (by kernel_rfl) (by kernel_rfl) (by kernel_rfl) (by kernel_rfl) (fun _ _ _ h=>h) M ?_; simp only [aP,lI,l0,lS]
        refine readC (i:=14) (some 53) rfl (.int .u64 ((W (j-d/64-1)/2^(64-d%64):Nat):Int)) rfl rfl (by kernel_rfl) rfl (fun _ M=>shrI .u64 .i64 _ _ _ _ _ _ _ rfl rfl rfl (by omega) (shr64 _ _ (by omega)) _) (by kernel_rfl) (by kernel_rfl) (by kernel_rfl) (by kernel_rfl) (fun _ _ _ h=>h) M ?_; simp only [aP,lI,l0,lS]
        refine readC (i:=15) (some 54) rfl (.int .u64 ((wst W d j:Nat):Int)) rfl rfl (by kernel_rfl) rfl (fun _ M=>vorI .u64 _ _ _ _ _ _ _ rfl rfl rfl (by rw [wst_both W d j h2]; exact or64 _ _ (Nat.mod_lt _ (by decide)) (hW.div_lt _ _ (by omega))) _) (by kernel_rfl) (by kernel_rfl) (by kernel_rfl) (by kernel_rfl) (fun _ _ _ h=>h) M ?_
        simp only [aP,lI,l0,lS]; refine readC (i:=16) (some 55) rfl (.pointer (some ⟨B,0+j,none⟩)) rfl rfl (by kernel_rfl) rfl (fun _ M=>idxArr 120 107 16 .i64 B 0 j _ _ Tryz.underlying120 (fun _=>by kernel_rfl) (by omega) rfl rfl rfl _) (by kernel_rfl) (by kernel_rfl) (by kernel_rfl) (by kernel_rfl) (fun _ _ _ h=>h) M ?_; simp only [aP,lI,l0,lS]
        refine skipC (S2:=fun _=>True) none rfl (by kernel_rfl) rfl rfl (storeAny (.int .u64 ((wst W d j:Nat):Int)) B (0+j) 107 _ _ rfl rfl rfl rfl rfl (M.isSome mS _ (by rw [row_length]; omega)) (M.free mS _ (by rw [row_length]; omega)) (by kernel_rfl)) (by kernel_rfl) ?_; simp only [Act.put]
        replace M:=M.set (0+j) (by rw [row_length]; omega) (.int .u64 ((wst W d j:Nat):Int))
        rw [row_fset] at M
        replace OF:=OF.and1 ((Off.refl [B] _).set (b:=B) mS (0+j) (.int .u64 ((wst W d j:Nat):Int))) (.inr (by omega)); generalize w5.setCell ⟨B,0+j,none⟩ (.int .u64 ((wst W d j:Nat):Int))=w6 at M OF ⊢
        refine wpAnyH_done (by kernel_rfl) ?_ _
        first | show Exit.then _ _ _ _ _ | show Exit.inBlock _ _ _ _ _
        have hrow:=row_congr .u64 16 (mvd_next W d j (fset (fset (mvd W d j) j (W (j-d/64)*2^(d%64)%2^64)) j (wst W d j)) (mvd_fset W d j _))
        rw [hrow] at M
        have HS:=show Hid _ from (And.intro M OF); clear M OF hW hrow; go_wp2
        go_roundw
        case rel=>exact ⟨j+1,by omega,by go_num,HS.out⟩
        case measure=>simp [intOf]; omega
      · go_upto_region 7 with fail
        refine wp_region_list ?_; refine xpL (.int .i64 (j:Int)) ?_; refine xpL (.int .i64 ((d/64:Nat):Int)) ?_; refine xaL (.bool false) (gtrI .i64 _ _ _ _ _ _ rfl rfl rfl false (decide_eq_false (by omega)) _) ?_; refine xT ?_
        have hrow:=row_congr .u64 16 (mvd_next W d j (fset (mvd W d j) j (W (j-d/64)*2^(d%64)%2^64)) (fun i _=>by unfold fset; rw [wst_up W d j (by omega)]))
        rw [hrow] at M
        have HS:=show Hid _ from (And.intro M OF); clear M OF hW hrow; go_wp2
        go_roundw
        case rel=>exact ⟨j+1,by omega,by go_num,HS.out⟩
        case measure=>simp [intOf]; omega
  · obtain rfl:j=16:=by omega
    go_upto_region 3 with fail; refine wp_region_list ?_; refine xaL (.bool false) (lssI .i64 _ _ _ _ _ _ rfl rfl rfl false (decide_eq_false (by omega)) _) ?_; refine xT ?_; replace M:=M.swap; go_upto_region 10 with fail; refine wp_region_held_drew (S:=fun w'=>∃ cs_,Mm w0 ((R,cs_)::(B,row .u64 16 (fun i=>((mvd W d 16 i:Nat):Int)))::l) w') (by kernel_rfl) ⟨_,M.drew⟩ ?_; intro _
    replace M:=M.drew; have hdr:=(Below.refl wr.heap.size wr).drew; replace OF:=OF.below hdr; clear hdr; generalize wr.drew=w7 at M OF ⊢; refine xrH 0 57 rfl (.pointer (some ⟨R,0,none⟩)) (fun _ ⟨_,M⟩=>(by kernel_rfl)) ⟨_,M⟩ ?_; refine xrH 1 58 rfl (.pointer (some ⟨R,0,none⟩)) (fun _ ⟨_,M⟩=>(by kernel_rfl)) ⟨_,M⟩ ?_
    refine xrH 2 59 rfl (.int .i64 n) (fun _ ⟨_,M⟩=>(by kernel_rfl)) ⟨_,M⟩ ?_; refine xrH 3 60 rfl (.int .i64 (n+1)) (fun _ ⟨_,M⟩=>addI .i64 _ _ _ _ _ _ _ rfl rfl rfl (by rw [xw6]; omega) _) ⟨_,M⟩ ?_
    refine xrH 4 61 rfl (.agg (row .u64 16 (fun i=>(mvd W d 16 i:Int))).toArray) (fun _ ⟨_,M⟩=>loadN 120 _ ⟨B,0,none⟩ (row .u64 16 (fun i=>(mvd W d 16 i:Int))) rfl rfl (fun _=>by kernel_rfl) (fun _=>by rw [row_length]; kernel_rfl) (M.rangeAt (mT _ mS))) ⟨_,M⟩ ?_; refine xrH 5 62 rfl (.pointer (some ⟨R,0,none⟩)) (fun _ ⟨_,M⟩=>(by kernel_rfl)) ⟨_,M⟩ ?_
    refine xrH 6 63 rfl (.pointer (some ⟨R,0,none⟩)) (fun _ ⟨_,M⟩=>(by kernel_rfl)) ⟨_,M⟩ ?_; refine doesH (i:=7) none rfl (by kernel_rfl) rfl rfl (storeAny (.int .i64 (n+1)) R 0 3 _ _ rfl rfl rfl rfl rfl (M.isSome mS 0 (by rw [wcv_len]; decide)) (M.free mS 0 (by rw [wcv_len]; decide)) (by kernel_rfl)) ⟨_,M.set 0 (by rw [wcv_len]; decide) (.int .i64 (n+1))⟩ ?_; simp only [Act.put]
    replace M:=M.set 0 (by rw [wcv_len]; decide) (.int .i64 (n+1)); replace OF:=OF.and1 ((Off.refl [R] _).set (b:=R) mS 0 (.int .i64 (n+1))) (.inl mS); generalize w7.setCell ⟨R,0,none⟩ (.int .i64 (n+1))=w8 at M OF ⊢
    replace M:Mm w0 ((R,wcv n W)::(B,row .u64 16 (fun i=>((mvd W d 16 i:Nat):Int)))::l) w8:=M
    refine xrH 8 64 rfl (.pointer (some ⟨R,0,none⟩)) (fun _ ⟨_,M⟩=>(by kernel_rfl)) ⟨_,M⟩ ?_; refine xrH 9 65 rfl (.pointer (some ⟨R,1,none⟩)) (fun _ ⟨_,M⟩=>(by kernel_rfl)) ⟨_,M⟩ ?_
    refine doesH (i:=10) none rfl (by kernel_rfl) rfl rfl (storeP (row .u64 16 (fun i=>(mvd W d 16 i:Int))) R 1 120 _ _ rfl rfl rfl (M.thereP mS 1 16 (by rw [wcv_len]; decide)) (by rw [List.size_toArray,row_length]; kernel_rfl) (row_one .u64 16 _)) ⟨_,M.setPart (row .u64 16 (fun i=>(mvd W d 16 i:Int))) 1 (by rw [row_length,wcv_len]; decide)⟩ ?_; simp only [Act.put]
    replace M:=M.setPart (row .u64 16 (fun i=>(mvd W d 16 i:Int))) 1 (by rw [row_length,wcv_len]; decide)
    rw [wcv_setA] at M
    replace OF:=OF.and1 ((Off.refl [R] _).setAll (b:=R) mS 1 (row .u64 16 (fun i=>(mvd W d 16 i:Int)))) (.inl mS); generalize w8.setCells R 1 (row .u64 16 (fun i=>(mvd W d 16 i:Int)))=w9 at M OF ⊢
    refine wpAnyH_done (by kernel_rfl) ?_ _
    rw [wcv_congr (mvd_end W d)] at M
    replace M:=M.drop2
    exact ⟨rfl,.tuple #[],by kernel_rfl,rfl,M,OF⟩
theorem wtop_put {L:List Int} {n:Int} (h:n≤wtop L):wtop (L++[n])=wtop L:=by rw [wtop_app]; omega
theorem wtop_up {L:List Int} {n:Int} (h:wtop L<n):wtop (L++[n])=n:=by rw [wtop_app]; omega
theorem wds_put {L:List Int} {W:Nat→Nat} {n:Int} {k:Nat} (hW:Wds W L) (hk:wtop L-n=(k:Int)):Wds (fset W (k/64) (W (k/64) ||| 2^(k%64))) (L++[n]) :=
 (Bts.put hW k (V:=fset W (k/64) (W (k/64) ||| 2^(k%64))) (fun i _=>by
  unfold fset
  by_cases e:i=k/64
  · rw [if_pos e,if_pos e,e]
  · rw [if_neg e,if_neg e])).congr (fun j _=>wsee_put hk j)
theorem wds_up {L:List Int} {W:Nat→Nat} {n:Int} {d:Nat} (hW:Wds W L) (hd:n-wtop L=(d:Int)) (h1:1≤d):Wds (fset (wst W d) 0 (wst W d 0 ||| 2^0)) (L++[n]) :=
 ((hW.up d).put 0 (V:=fset (wst W d) 0 (wst W d 0 ||| 2^0)) (fun i _=>by
  unfold fset
  by_cases e:i=0
  · subst e; rfl
  · rw [if_neg e]; exact (if_neg e).symm)).congr (fun j _=>wsee_up hd h1 j)
theorem wcv_fset (T:Int) (W:Nat→Nat) (i v:Nat):(wcv T W).set (1+i) (.int .u64 ((v:Nat):Int))=wcv T (fset W i v):=wcv_set T W i v
theorem one_shl (e:Nat) (he:e<64):IntKind.u64.wrap (1*2^min ((e:Nat):Int).toNat IntKind.u64.bits)=((2^e:Nat):Int):=by
 have h:=shl64 1 e (by omega)
 rw [Nat.one_mul,Nat.mod_eq_of_lt (Nat.pow_lt_pow_right (by decide) he)] at h
 exact h
theorem vmark14_any (w0 w:World) (R:Nat) (l:List (Nat × List Value)) (L:List Int) (W:Nat→Nat) (hL:WinL L) (hW:Wds W L) (n:Int) (hn:i64 n) (M:Mm w0 ((R,wcv (wtop L) W)::l) w) :
 Calls Tryz.prog 51 #[.pointer (some ⟨R,0,none⟩),.int .i64 n] w fun e w'=>e=.returned (.int .i64 (wchk L n))∧∃ V,Wds V (wmk L n)∧Mm w0 ((R,wcv (wtop (wmk L n)) V)::l) w'∧Off [R] w w':=by
 go_enter Tryz.func51,Tryz.ntmps51
 have OF:=Off.refl [R] w; have hT1:=wtop_ge L; have hT2:=wtop_max hL; go_upto_region 0 with fail; refine wp_region_list ?_; refine xpL (.int .i64 0) ?_; refine xT ?_; go_upto_region 1 with fail; refine wp_region_list ?_; refine xpL (.pointer (some ⟨R,0,none⟩)) ?_; refine xpL (.int .i64 n) ?_; refine xcL (vcheck14_any w0 _ R _ L W hL hW n hn M) ?_; rintro e w1 ⟨rfl,l1⟩
 replace M:=M.call l1; replace OF:=OF.below l1; clear l1; refine xeL ?_; refine xpL (.int .i64 (wchk L n)) ?_; refine xT ?_
 by_cases hc:wchk L n=0
 · obtain ⟨hn0,hn2,hn3,hn4⟩:=wchk_ok hc
   replace hc:=show Hid _ from hc; go_upto_region 2 with fail; refine wp_region_list ?_; refine xpL (.int .i64 (wchk L n)) ?_; refine xaL (.bool false) (neqI .i64 _ _ _ _ _ _ rfl rfl rfl false (by rw [hc.out]; rfl) _) ?_; refine xT ?_
   by_cases h1:wtop L<n
   · have hd:n-wtop L=((n-wtop L).toNat:Int):=by omega
     go_upto_region 4 with fail; refine wp_region_list ?_; refine xpL (.int .i64 n) ?_; refine xpL (.pointer (some ⟨R,0,none⟩)) ?_; refine xcL (vtop14_any w0 _ R _ (wtop L) W hT1 hT2 M) ?_; rintro e w2 ⟨rfl,l1⟩; replace M:=M.call l1; replace OF:=OF.below l1; clear l1; refine xeL ?_; refine xaL (.bool true) (gtrI .i64 _ _ _ _ _ _ rfl rfl rfl true (decide_eq_true (by omega)) _) ?_
     refine xT ?_; go_upto_region 5 with fail; refine wp_region_list ?_; refine xpL (.pointer (some ⟨R,0,none⟩)) ?_; refine xpL (.int .i64 n) ?_; refine xcL (vrise_any w0 _ R _ (wtop L) W hT1 hT2 _ hW n (n-wtop L).toNat hd (by omega) hn2 M) ?_; rintro e w3 ⟨rfl,M',o1⟩; clear M; have M:=M'; clear M'; replace OF:=OF.and1 o1 (.inl mS); clear o1; refine xeL ?_; refine xT ?_
     go_upto_region 6 with fail; refine wp_region_list ?_; refine xpL (.pointer (some ⟨R,0,none⟩)) ?_; refine xpL (.int .i64 n) ?_; refine xcL (vplace_any w0 _ R _ n (wst W (n-wtop L).toNat) (by omega) hn2 n 0 (by omega) (by omega) M) ?_; rintro e w4 ⟨rfl,l1⟩; replace M:=M.call l1; replace OF:=OF.below l1; clear l1; refine xeL ?_
     refine xpL (.tuple #[.int .i64 ((0/64:Nat):Int),.int .i64 ((0%64:Nat):Int)]) ?_; refine xpL (.int .i64 ((0/64:Nat):Int)) ?_; refine xpL (.int .i64 ((0%64:Nat):Int)) ?_; refine xpL (.int .i64 ((0/64:Nat):Int)) ?_; refine xpL (.int .i64 ((0%64:Nat):Int)) ?_; refine xT ?_; go_upto_region 7 with fail
     refine wp_region_C (S:=fun w'=>Mm w0 ((R,wcv n (wst W (n-wtop L).toNat))::l) w') 12 (by kernel_rfl) M.drew ?_; clear M; intro M; have hdr:=(Below.refl w4.heap.size w4).drew; replace OF:=OF.below hdr; clear hdr; generalize w4.drew=w5 at M OF ⊢
     refine readC (i:=0) (some 27) rfl (.pointer (some ⟨R,0,none⟩)) rfl rfl (by kernel_rfl) rfl (fun _ M=>(by kernel_rfl)) (by kernel_rfl) (by kernel_rfl) (by kernel_rfl) (by kernel_rfl) (fun _ _ _ h=>h) M ?_; simp only [aP,lI,l0,lS]
     refine readC (i:=1) (some 28) rfl (.int .i64 ((0/64:Nat):Int)) rfl rfl (by kernel_rfl) rfl (fun _ M=>(by kernel_rfl)) (by kernel_rfl) (by kernel_rfl) (by kernel_rfl) (by kernel_rfl) (fun _ _ _ h=>h) M ?_; simp only [aP,lI,l0,lS]
     refine readC (i:=2) (some 29) rfl (.pointer (some ⟨R,0,none⟩)) rfl rfl (by kernel_rfl) rfl (fun _ M=>(by kernel_rfl)) (by kernel_rfl) (by kernel_rfl) (by kernel_rfl) (by kernel_rfl) (fun _ _ _ h=>h) M ?_; simp only [aP,lI,l0,lS]
     refine readC (i:=3) (some 30) rfl (.pointer (some ⟨R,1,none⟩)) rfl rfl (by kernel_rfl) rfl (fun _ M=>(by kernel_rfl)) (by kernel_rfl) (by kernel_rfl) (by kernel_rfl) (by kernel_rfl) (fun _ _ _ h=>h) M ?_; simp only [aP,lI,l0,lS]
     refine readC (i:=4) (some 31) rfl (.pointer (some ⟨R,1+(0/64),none⟩)) rfl rfl (by kernel_rfl) rfl (fun _ M=>idxArr 120 107 16 .i64 R 1 (0/64) _ _ Tryz.underlying120 (fun _=>by kernel_rfl) (by omega) rfl rfl rfl _) (by kernel_rfl) (by kernel_rfl) (by kernel_rfl) (by kernel_rfl) (fun _ _ _ h=>h) M ?_; simp only [aP,lI,l0,lS]
     refine readC (i:=5) (some 32) rfl (.int .u64 (((wst W (n-wtop L).toNat) (0/64):Nat):Int)) rfl rfl (by kernel_rfl) rfl (fun _ M=>load1 107 _ ⟨R,1+(0/64),none⟩ _ rfl rfl (fun _=>by kernel_rfl) (M.get mS _ _ (wcv_get n (wst W (n-wtop L).toNat) (0/64) (by omega)))) (by kernel_rfl) (by kernel_rfl) (by kernel_rfl) (by kernel_rfl) (fun _ _ _ h=>h) M ?_
     simp only [aP,lI,l0,lS]; refine readC (i:=6) (some 33) rfl (.int .i64 ((0%64:Nat):Int)) rfl rfl (by kernel_rfl) rfl (fun _ M=>(by kernel_rfl)) (by kernel_rfl) (by kernel_rfl) (by kernel_rfl) (by kernel_rfl) (fun _ _ _ h=>h) M ?_; simp only [aP,lI,l0,lS]
     refine readC (i:=7) (some 34) rfl (.int .u64 ((2^(0%64):Nat):Int)) rfl rfl (by kernel_rfl) rfl (fun _ M=>shlI .u64 .i64 _ _ _ _ _ _ _ rfl rfl rfl (by omega) (one_shl _ (by omega)) _) (by kernel_rfl) (by kernel_rfl) (by kernel_rfl) (by kernel_rfl) (fun _ _ _ h=>h) M ?_; simp only [aP,lI,l0,lS]
     refine readC (i:=8) (some 35) rfl (.int .u64 (((wst W (n-wtop L).toNat) (0/64) ||| 2^(0%64):Nat):Int)) rfl rfl (by kernel_rfl) rfl (fun _ M=>vorI .u64 _ _ _ _ _ _ _ rfl rfl rfl (or64 _ _ ((hW.up _).lt _ (by omega)) (Nat.pow_lt_pow_right (by decide) (by omega))) _) (by kernel_rfl) (by kernel_rfl) (by kernel_rfl) (by kernel_rfl) (fun _ _ _ h=>h) M ?_
     simp only [aP,lI,l0,lS]; refine xqC 9 36 rfl (.pointer (some ⟨R,0,none⟩)) (fun _=>(by kernel_rfl)) M ?_; refine xqC 10 37 rfl (.pointer (some ⟨R,1,none⟩)) (fun _=>(by kernel_rfl)) M ?_
     refine readC (i:=11) (some 38) rfl (.pointer (some ⟨R,1+(0/64),none⟩)) rfl rfl (by kernel_rfl) rfl (fun _ M=>idxArr 120 107 16 .i64 R 1 (0/64) _ _ Tryz.underlying120 (fun _=>by kernel_rfl) (by omega) rfl rfl rfl _) (by kernel_rfl) (by kernel_rfl) (by kernel_rfl) (by kernel_rfl) (fun _ _ _ h=>h) M ?_; simp only [aP,lI,l0,lS]
     refine skipC (S2:=fun _=>True) none rfl (by kernel_rfl) rfl rfl (storeAny (.int .u64 (((wst W (n-wtop L).toNat) (0/64) ||| 2^(0%64):Nat):Int)) R (1+(0/64)) 107 _ _ rfl rfl rfl rfl rfl (M.isSome mS _ (by rw [wcv_len]; omega)) (M.free mS _ (by rw [wcv_len]; omega)) (by kernel_rfl)) (by kernel_rfl) ?_; simp only [Act.put]
     replace M:=M.set (1+(0/64)) (by rw [wcv_len]; omega) (.int .u64 (((wst W (n-wtop L).toNat) (0/64) ||| 2^(0%64):Nat):Int))
     rw [wcv_fset] at M
     replace OF:=OF.and1 ((Off.refl [R] _).set (b:=R) mS (1+(0/64)) (.int .u64 (((wst W (n-wtop L).toNat) (0/64) ||| 2^(0%64):Nat):Int))) (.inl mS); generalize w5.setCell ⟨R,1+(0/64),none⟩ (.int .u64 (((wst W (n-wtop L).toNat) (0/64) ||| 2^(0%64):Nat):Int))=w6 at M OF ⊢
     refine wpAnyH_done (by kernel_rfl) ?_ _
     first | show Exit.then _ _ _ _ _ | show Exit.inBlock _ _ _ _ _
     go_upto_region 8 with fail; refine wp_region_list ?_; refine xpL (.int .i64 0) ?_; refine xT ?_; have hk_:=show Hid _ from (wmk_ok hc.out); have hk2_:=show Hid _ from (wtop_up (L:=L) (n:=n) h1); have hV:=show Hid _ from (wds_up hW hd (by omega)); have HS:=show Hid _ from (And.intro M OF); clear M OF hW hL; go_wp2; go_ret
     exact ⟨by rw [hc.out]; rfl,_,by rw [hk_.out]; exact hV.out,by rw [hk_.out,hk2_.out]; exact HS.out⟩
   · obtain ⟨k,hk⟩:∃ k:Nat,wtop L-n=(k:Int):=⟨(wtop L-n).toNat,by omega⟩
     go_upto_region 4 with fail; refine wp_region_list ?_; refine xpL (.int .i64 n) ?_; refine xpL (.pointer (some ⟨R,0,none⟩)) ?_; refine xcL (vtop14_any w0 _ R _ (wtop L) W hT1 hT2 M) ?_; rintro e w7 ⟨rfl,l1⟩; replace M:=M.call l1; replace OF:=OF.below l1; clear l1; refine xeL ?_; refine xaL (.bool false) (gtrI .i64 _ _ _ _ _ _ rfl rfl rfl false (decide_eq_false (by omega)) _) ?_
     refine xT ?_; go_upto_region 6 with fail; refine wp_region_list ?_; refine xpL (.pointer (some ⟨R,0,none⟩)) ?_; refine xpL (.int .i64 n) ?_; refine xcL (vplace_any w0 _ R _ (wtop L) W hT1 hT2 n k hk (by omega) M) ?_; rintro e w8 ⟨rfl,l1⟩; replace M:=M.call l1; replace OF:=OF.below l1; clear l1; refine xeL ?_
     refine xpL (.tuple #[.int .i64 ((k/64:Nat):Int),.int .i64 ((k%64:Nat):Int)]) ?_; refine xpL (.int .i64 ((k/64:Nat):Int)) ?_; refine xpL (.int .i64 ((k%64:Nat):Int)) ?_; refine xpL (.int .i64 ((k/64:Nat):Int)) ?_; refine xpL (.int .i64 ((k%64:Nat):Int)) ?_; refine xT ?_; go_upto_region 7 with fail
     refine wp_region_C (S:=fun w'=>Mm w0 ((R,wcv (wtop L) W)::l) w') 12 (by kernel_rfl) M.drew ?_; clear M; intro M; have hdr:=(Below.refl w8.heap.size w8).drew; replace OF:=OF.below hdr; clear hdr; generalize w8.drew=w9 at M OF ⊢
     refine readC (i:=0) (some 27) rfl (.pointer (some ⟨R,0,none⟩)) rfl rfl (by kernel_rfl) rfl (fun _ M=>(by kernel_rfl)) (by kernel_rfl) (by kernel_rfl) (by kernel_rfl) (by kernel_rfl) (fun _ _ _ h=>h) M ?_; simp only [aP,lI,l0,lS]
     refine readC (i:=1) (some 28) rfl (.int .i64 ((k/64:Nat):Int)) rfl rfl (by kernel_rfl) rfl (fun _ M=>(by kernel_rfl)) (by kernel_rfl) (by kernel_rfl) (by kernel_rfl) (by kernel_rfl) (fun _ _ _ h=>h) M ?_; simp only [aP,lI,l0,lS]
     refine readC (i:=2) (some 29) rfl (.pointer (some ⟨R,0,none⟩)) rfl rfl (by kernel_rfl) rfl (fun _ M=>(by kernel_rfl)) (by kernel_rfl) (by kernel_rfl) (by kernel_rfl) (by kernel_rfl) (fun _ _ _ h=>h) M ?_; simp only [aP,lI,l0,lS]
     refine readC (i:=3) (some 30) rfl (.pointer (some ⟨R,1,none⟩)) rfl rfl (by kernel_rfl) rfl (fun _ M=>(by kernel_rfl)) (by kernel_rfl) (by kernel_rfl) (by kernel_rfl) (by kernel_rfl) (fun _ _ _ h=>h) M ?_; simp only [aP,lI,l0,lS]
     refine readC (i:=4) (some 31) rfl (.pointer (some ⟨R,1+(k/64),none⟩)) rfl rfl (by kernel_rfl) rfl (fun _ M=>idxArr 120 107 16 .i64 R 1 (k/64) _ _ Tryz.underlying120 (fun _=>by kernel_rfl) (by omega) rfl rfl rfl _) (by kernel_rfl) (by kernel_rfl) (by kernel_rfl) (by kernel_rfl) (fun _ _ _ h=>h) M ?_; simp only [aP,lI,l0,lS]
     refine readC (i:=5) (some 32) rfl (.int .u64 ((W (k/64):Nat):Int)) rfl rfl (by kernel_rfl) rfl (fun _ M=>load1 107 _ ⟨R,1+(k/64),none⟩ _ rfl rfl (fun _=>by kernel_rfl) (M.get mS _ _ (wcv_get (wtop L) W (k/64) (by omega)))) (by kernel_rfl) (by kernel_rfl) (by kernel_rfl) (by kernel_rfl) (fun _ _ _ h=>h) M ?_; simp only [aP,lI,l0,lS]
     refine readC (i:=6) (some 33) rfl (.int .i64 ((k%64:Nat):Int)) rfl rfl (by kernel_rfl) rfl (fun _ M=>(by kernel_rfl)) (by kernel_rfl) (by kernel_rfl) (by kernel_rfl) (by kernel_rfl) (fun _ _ _ h=>h) M ?_; simp only [aP,lI,l0,lS]
     refine readC (i:=7) (some 34) rfl (.int .u64 ((2^(k%64):Nat):Int)) rfl rfl (by kernel_rfl) rfl (fun _ M=>shlI .u64 .i64 _ _ _ _ _ _ _ rfl rfl rfl (by omega) (one_shl _ (by omega)) _) (by kernel_rfl) (by kernel_rfl) (by kernel_rfl) (by kernel_rfl) (fun _ _ _ h=>h) M ?_; simp only [aP,lI,l0,lS]
     refine readC (i:=8) (some 35) rfl (.int .u64 ((W (k/64) ||| 2^(k%64):Nat):Int)) rfl rfl (by kernel_rfl) rfl (fun _ M=>vorI .u64 _ _ _ _ _ _ _ rfl rfl rfl (or64 _ _ (hW.lt _ (by omega)) (Nat.pow_lt_pow_right (by decide) (by omega))) _) (by kernel_rfl) (by kernel_rfl) (by kernel_rfl) (by kernel_rfl) (fun _ _ _ h=>h) M ?_; simp only [aP,lI,l0,lS]
     refine xqC 9 36 rfl (.pointer (some ⟨R,0,none⟩)) (fun _=>(by kernel_rfl)) M ?_; refine xqC 10 37 rfl (.pointer (some ⟨R,1,none⟩)) (fun _=>(by kernel_rfl)) M ?_
     refine readC (i:=11) (some 38) rfl (.pointer (some ⟨R,1+(k/64),none⟩)) rfl rfl (by kernel_rfl) rfl (fun _ M=>idxArr 120 107 16 .i64 R 1 (k/64) _ _ Tryz.underlying120 (fun _=>by kernel_rfl) (by omega) rfl rfl rfl _) (by kernel_rfl) (by kernel_rfl) (by kernel_rfl) (by kernel_rfl) (fun _ _ _ h=>h) M ?_; simp only [aP,lI,l0,lS]
     refine skipC (S2:=fun _=>True) none rfl (by kernel_rfl) rfl rfl (storeAny (.int .u64 ((W (k/64) ||| 2^(k%64):Nat):Int)) R (1+(k/64)) 107 _ _ rfl rfl rfl rfl rfl (M.isSome mS _ (by rw [wcv_len]; omega)) (M.free mS _ (by rw [wcv_len]; omega)) (by kernel_rfl)) (by kernel_rfl) ?_; simp only [Act.put]
     replace M:=M.set (1+(k/64)) (by rw [wcv_len]; omega) (.int .u64 ((W (k/64) ||| 2^(k%64):Nat):Int))
     rw [wcv_fset] at M
     replace OF:=OF.and1 ((Off.refl [R] _).set (b:=R) mS (1+(k/64)) (.int .u64 ((W (k/64) ||| 2^(k%64):Nat):Int))) (.inl mS); generalize w9.setCell ⟨R,1+(k/64),none⟩ (.int .u64 ((W (k/64) ||| 2^(k%64):Nat):Int))=w10 at M OF ⊢
     refine wpAnyH_done (by kernel_rfl) ?_ _
     first | show Exit.then _ _ _ _ _ | show Exit.inBlock _ _ _ _ _
     go_upto_region 8 with fail; refine wp_region_list ?_; refine xpL (.int .i64 0) ?_; refine xT ?_; have hk_:=show Hid _ from (wmk_ok hc.out); have hk2_:=show Hid _ from (wtop_put (L:=L) (n:=n) (by omega)); have hV:=show Hid _ from (wds_put hW hk); have HS:=show Hid _ from (And.intro M OF); clear M OF hW hL; go_wp2; go_ret
     exact ⟨by rw [hc.out]; rfl,_,by rw [hk_.out]; exact hV.out,by rw [hk_.out,hk2_.out]; exact HS.out⟩
 · replace hc:=show Hid _ from hc
   go_upto_region 2 with fail; refine wp_region_list ?_; refine xpL (.int .i64 (wchk L n)) ?_; refine xaL (.bool true) (neqI .i64 _ _ _ _ _ _ rfl rfl rfl true (by rw [bne_iff_ne]; exact hc.out) _) ?_; refine xT ?_; go_upto_region 3 with fail; refine wp_region_list ?_; refine xpL (.int .i64 (wchk L n)) ?_; refine xpL (.int .i64 (wchk L n)) ?_; refine xT ?_
   have hk_:=show Hid _ from (wmk_err hc.out); have HS:=show Hid _ from (And.intro hW (And.intro M OF)); clear M OF hW hL; go_wp2; go_ret
   exact ⟨rfl,W,by rw [hk_.out]; exact HS.out⟩
end Go.Proofs.YtknodedhcdpbiaaGreatDoor
