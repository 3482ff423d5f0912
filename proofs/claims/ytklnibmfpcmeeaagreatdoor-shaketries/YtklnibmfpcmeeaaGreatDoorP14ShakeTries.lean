/- Texts of Nine RefTrim RefA RefB RefC RefCanon RefAdd RefMul, joined. -/
import Derived.Test.YtklnibmfpcmeeaaGreatDoorP13ShakeTries
set_option maxRecDepth 20000
set_option maxHeartbeats 64000000
namespace Go.Proofs.YtklnibmfpcmeeaaGreatDoor
open Go.RowKit
section
namespace Num
theorem prime_1224481:Prime 1224481:=prime_of_tr 1224481 1106 (by decide) (by decide +kernel) (by decide)
theorem prime_531581:Prime 531581:=prime_of_tr 531581 729 (by decide) (by decide +kernel) (by decide)
theorem prime_1257559732178653:Prime 1257559732178653 :=
 prime_two 1224481 531581 1027014492 2365697292 2 prime_1224481 prime_531581 (by decide +kernel) (by decide +kernel) (by decide +kernel) (by decide +kernel) (by decide +kernel) (by decide +kernel) (by decide +kernel) (by decide +kernel) (by decide +kernel) (by decide +kernel)
theorem prime_4434155615661930479:Prime 4434155615661930479 :=
 prime_one 1257559732178653 3526 2 prime_1257559732178653 (by decide +kernel) (by decide +kernel) (by decide +kernel) (by decide +kernel) (by decide +kernel) (by decide +kernel)
theorem prime_172054593956031949258510691:Prime 172054593956031949258510691 :=
 prime_one 4434155615661930479 38802110 2 prime_4434155615661930479 (by decide +kernel) (by decide +kernel) (by decide +kernel) (by decide +kernel) (by decide +kernel) (by decide +kernel)
theorem prime_19757330305831588566944191468367130476339:Prime 19757330305831588566944191468367130476339 :=
 prime_one 172054593956031949258510691 114831751082918 2 prime_172054593956031949258510691 (by decide +kernel) (by decide +kernel) (by decide +kernel) (by decide +kernel) (by decide +kernel) (by decide +kernel)
theorem prime_276602624281642239937218680557139826668747:Prime 276602624281642239937218680557139826668747 :=
 prime_one 19757330305831588566944191468367130476339 14 2 prime_19757330305831588566944191468367130476339 (by decide +kernel) (by decide +kernel) (by decide +kernel) (by decide +kernel) (by decide +kernel) (by decide +kernel)
theorem prime_7237005577332262213973186563042994240857116359379907606001950938285454250989:Prime 7237005577332262213973186563042994240857116359379907606001950938285454250989 :=
 prime_one 276602624281642239937218680557139826668747 26163907866482859529727157400808004 2 prime_276602624281642239937218680557139826668747 (by decide +kernel) (by decide +kernel) (by decide +kernel) (by decide +kernel) (by decide +kernel) (by decide +kernel)
end Num
namespace Ed
section
variable {n:Nat} [NeZero n] {d:Fin n} {iv:Fin n→Fin n}
theorem Fld.nil_of (h:Fld d iv) {k:Fin n} (hc:Con d k) {P:Pt n} (hP:On d P) (h1:P.y=1):P=nil:=by
 have hx:P.x=0:=by
  have e:=hP
  unfold On at e
  rw [h1] at e
  rcases h.dom (at_one _ e) with q | q
  · exact h.sq_zero q
  · exact absurd q (con_ne h hc)
 cases P
 simp only at h1 hx
 rw [h1,hx]; rfl
theorem Fld.two_nil (h:Fld d iv) {k:Fin n} (hc:Con d k) {P:Pt n} (hP:On d P) (h2:P.y=-1):mul d iv 2 P=nil:=by
 have hx:P.x=0:=by
  have e:=hP
  unfold On at e
  rw [h2] at e
  rcases h.dom (at_minus _ e) with q | q
  · exact h.sq_zero q
  · exact absurd q (con_ne h hc)
 show sum d iv (sum d iv nil P) P=nil
 rw [sum_comm nil P,h.sum_nil]
 unfold sum nil
 obtain ⟨g1,g2,g3⟩:=dbl_minus (d:=d) P.y (iv (1+d*0*0*P.y*P.y)) h2
 rw [hx,g1,g2,g3,h.iv_one]
 rw [show (1*1:Fin n)=1 by clear h; grind]
theorem plus_zero (y:Fin n) (h:1+y=0):y=-1:=by grind
theorem Fld.two_of (h:Fld d iv) {k:Fin n} (hc:Con d k) {P:Pt n} (hP:On d P) (h0:aff iv P=0):mul d iv 2 P=nil:=by
 unfold aff at h0
 rcases h.dom h0 with q | q
 · exact h.two_nil hc hP (plus_zero _ q)
 · have h1:1-P.y=0:=by
    refine Classical.byContradiction fun hn=>h.one_ne ?_
    rw [← h.inv _ hn,q,mul_z']
   rw [h.nil_of hc hP (one_sub _ h1),h.mul_nil]
theorem Fld.gcd_nil (h:Fld d iv) {P:Pt n} (hP:On d P) (a b:Nat):mul d iv a P=nil→mul d iv b P=nil→mul d iv (Nat.gcd a b) P=nil:=by
 refine Nat.gcd.induction (P:=fun a b=>mul d iv a P=nil→mul d iv b P=nil→mul d iv (Nat.gcd a b) P=nil) a b ?_ ?_
 · intro b _ hb
   rw [Nat.gcd_zero_left]; exact hb
 · intro a b _ ih ha hb
   rw [Nat.gcd_rec]
   refine ih ?_ ha
   rw [← Nat.div_add_mod b a,h.mul_add hP,← h.mul_mul hP,ha,h.mul_nil,sum_comm,h.sum_nil] at hb
   exact hb
theorem pre_lt (bit:Nat→Bool):∀ i,pre bit i<2^i
 | 0=>Nat.zero_lt_one
 | i+1=>by
   have ih:=pre_lt bit i
   show 2*pre bit i+(bit (254-i)).toNat<2^(i+1)
   rw [Nat.pow_succ]
   cases bit (254-i) <;> simp only [Bool.toNat_true,Bool.toNat_false] <;> omega
theorem pre_ge (bit:Nat→Bool) (h:bit 254=true):∀ i,2^i≤pre bit (i+1)
 | 0=>by
   show 1≤2*0+(bit 254).toNat
   rw [h]; decide
 | i+1=>by
   have ih:=pre_ge bit h i
   show 2^(i+1)≤2*pre bit (i+1)+(bit (254-(i+1))).toNat
   rw [Nat.pow_succ]
   omega
theorem pre_eight (bit:Nat→Bool) (h0:bit 0=false) (h1:bit 1=false) (h2:bit 2=false):pre bit 255=8*pre bit 252:=by
 show 2*(2*(2*pre bit 252+(bit (254-252)).toNat)+(bit (254-253)).toNat)+(bit (254-254)).toNat=_
 rw [show 254-252=2 from rfl,show 254-253=1 from rfl,show 254-254=0 from rfl,h0,h1,h2]
 simp only [Bool.toNat_false]
 omega
end
end Ed
abbrev ell:Nat:=7237005577332262213973186563042994240857116359379907606001950938285454250989
theorem ell_ev:ev 9 ell 255 1 0 9 1=(16857629081775988918967617339154615858577410742097457426808874782976104598997,0):=by decide +kernel
theorem ell_pre:Ed.pre (fun t=>Nat.testBit ell t) 255=ell:=by decide +kernel
theorem base_one:base.y≠1:=by decide +kernel
theorem base_minus:base.y≠-1:=by decide +kernel
theorem ell_nil:Ed.mul dz inz ell base=Ed.nil:=by
 have hx:fz 9*(1-base.y)=1+base.y:=by rw [Fin.mul_comm]; exact base_nine
 have up:=(Ed.Up.run fld cz_con base_on hx base_one base_minus (fun t=>Nat.testBit ell t) 255).lo
 rw [ell_pre] at up
 have hv:(fz 9).val=9:=by decide +kernel
 have hev:ev (fz 9).val ell 255 1 0 (fz 9).val 1=(16857629081775988918967617339154615858577410742097457426808874782976104598997,0):=by rw [hv]; exact ell_ev
 obtain ⟨_,hb⟩:=ev_run (fz 9) ell _ _ hev
 have hb0:(Ed.run cz (fz 9) (fun t=>Nat.testBit ell t) 255).b=0:=Fin.ext hb
 obtain ⟨ne,eq⟩:=up
 rw [hb0] at ne eq
 refine fld.nil_of cz_con (fld.mul_on base_on _) ?_
 rcases fld.dom (Ed.zero_rel _ _ eq) with q | q
 · exact absurd (show _+(0:Fin QN)=0 by rw [q]; decide +kernel) ne
 · exact Ed.one_sub _ q
theorem ell_cop (a:Nat) (h0:0<a) (h1:a<ell):Nat.Coprime ell a:=Num.coprime_of Num.prime_7237005577332262213973186563042994240857116359379907606001950938285454250989 fun hd=>absurd (Nat.le_of_dvd h0 hd) (by omega)
theorem ell_big:2^252<ell:=by decide +kernel
theorem no_nil (a b:Nat) (ha0:0<a) (ha:a<2^252) (hb0:0<b) (hb:b<2^252):Ed.mul dz inz (8*a*(8*b)*2) base≠Ed.nil:=by
 intro h; have hl:=ell_big; have g:=fld.gcd_nil base_on _ _ ell_nil h; have c1:=ell_cop a ha0 (by omega); have c2:=ell_cop b hb0 (by omega); have c3:=ell_cop 128 (by decide) (by decide +kernel); have c:=(c3.mul_right c1).mul_right c2
 rw [show 128*a*b=8*a*(8*b)*2 by grind] at c
 rw [show Nat.gcd ell (8*a*(8*b)*2)=1 from c] at g
 have e:Ed.mul dz inz 1 base=base:=by
  show Ed.sum dz inz Ed.nil base=base
  rw [Ed.sum_comm,fld.sum_nil]
 rw [e] at g
 exact base_one (by rw [g]; rfl)
theorem tm_nine_ne (k o f:Nat→Int) (hf:In 256 32 f) (ef:val 256 f 32=((tm k (one 9)).val:Int)):¬ tm o f=0:=by
 intro h
 rw [tm_of o f _ hf ef,tm_nine,fld.ladder inz_zero cz_con base_on _ (trim_bit0 k),fld.ladder inz_zero cz_con (fld.mul_on base_on _) _ (trim_bit0 o),fld.mul_mul base_on] at h
 have h2:=fld.two_of cz_con (fld.mul_on base_on _) h
 rw [fld.mul_mul base_on,Ed.pre_eight _ (trim_bit0 k) (trim_bit1 k) (trim_bit2 k),Ed.pre_eight _ (trim_bit0 o) (trim_bit1 o) (trim_bit2 o)] at h2
 have gk:=Ed.pre_ge _ (trim_bit254 k) 251; have go:=Ed.pre_ge _ (trim_bit254 o) 251
 exact no_nil _ _ (xnL (by decide) gk) (Ed.pre_lt _ 252) (xnL (by decide) go) (Ed.pre_lt _ 252) h2
end
theorem not7_8:∀ x:Fin 256,bits BinOp.andNot IntKind.u8 (x.val:Int) 7=(x.val:Int)/8*8:=by decide +kernel
theorem not7 (x:Int) (h:0≤x∧x<256):bits BinOp.andNot IntKind.u8 x 7=x/8*8:=by
 obtain ⟨n,rfl⟩:=xiN h.1
 exact not7_8 ⟨n,by omega⟩
theorem krefTrim_any (k:Nat→Int) (hk:In 256 32 k) (w:World) :
 Calls Tryz.prog 54 #[(.agg (row .u8 32 (k)).toArray)] w fun e w'=>e=.returned (.agg (row .u8 32 (trim k)).toArray)∧Below w.heap.size w w':=by
 have a0:Has ((w.alloc (.cells (row .u8 32 k).toArray 23)).alloc (.cells zu8_32 23)) w.heap.size .u8 32 k:=(Has.new w _ _ _ _ _ rfl).alloc _ (by simp)
 have z0:Has ((w.alloc (.cells (row .u8 32 k).toArray 23)).alloc (.cells zu8_32 23)) (w.heap.size+1) .u8 32 (fun _=>0):=key_zero _ _ _ (by simp)
 have g0:Fr w 2 ((w.alloc (.cells (row .u8 32 k).toArray 23)).alloc (.cells zu8_32 23)):=((Fr.refl w).alloc _).alloc _
 generalize hW:((w.alloc (.cells (row .u8 32 k).toArray 23)).alloc (.cells zu8_32 23))=w1 at *; have c0:=a0.cell 0 (by omega); have f0:=a0.free 0 (by omega); have c1:=a0.cell 31 (by omega); have f1:=a0.free 31 (by omega); have e0:=not7 (k 0) (hk 0 (by omega)); have e1:=trim_high (k 31) (hk 31 (by omega)); have e2:=and127 (k 31) (hk 31 (by omega))
 rw [e2] at e1
 have h2:=((a0.set 0 (by omega) (k 0/8*8)).set 31 (by omega) (k 31%64+64)).congr (g:=trim k) (fun j hj=>by
  unfold trim
  by_cases e:j=31
  · subst e; rw [upd_same]; simp
  · rw [upd_other _ _ _ _ e]
    by_cases e0:j=0
    · subst e0; rw [upd_same]; simp
    · rw [upd_other _ _ _ _ e0]; simp [e0,e])
 have hz:=(z0.set_other ⟨w.heap.size,0,none⟩ (.int .u8 (k 0/8*8)) (by simp)).set_other ⟨w.heap.size,31,none⟩ (.int .u8 (k 31%64+64)) (by simp); have hL:=(((g0.set ⟨w.heap.size,0,none⟩ (.int .u8 (k 0/8*8)) (by simp)).set ⟨w.heap.size,31,none⟩ (.int .u8 (k 31%64+64)) (by simp)).setAll (w.heap.size+1) (by omega) (row .u8 32 (trim k))).below
 go_enter Tryz.func54,Tryz.ntmps54
 go_upto_region 1 with fail; clear hW
 go_wp2_with (first | (refine wpList_load_mid rfl 23 _ rfl (w.heap.size) 0 rfl (row .u8 32 (trim k)) _ (Has.range (h2)) Tryz.underlying23 rfl (key_info _) ?_) | (refine wpList_store_mid rfl 23 _ _ rfl (w.heap.size+1) 0 (row .u8 32 (trim k)).toArray rfl rfl (key_there (hz)) (key_info' _) (all_oneCell_toArray (row_one _ _ _)) ?_))
 exact bodyPost_ret (v:=(.agg (row .u8 32 (trim k)).toArray)) (results_row Tryz.results54 rfl (Has.all hz.there .u8 (trim k)).range Tryz.underlying23 rfl (key_info (trim k))) rfl ⟨rfl,hL⟩
abbrev kD:Int:=65536
def kpD:Nat→Int:=fun j=>if j=0 then 65517 else if j=15 then 32767 else 65535
theorem pD_in (j:Nat):0≤kpD j∧kpD j<65536:=by unfold kpD; split <;> (try split) <;> omega
theorem val_pD:val kD kpD 16=kQ:=by decide
theorem refPrime_any (k:Nat) (hk:k<16) (w:World) :
 Calls Tryz.prog 87 #[.int .i64 (k:Int)] w fun e w'=>e=.returned (.int .i64 (kpD k))∧w'=w:=by
 by_cases h0:k=0
 · subst h0
   go_enter Tryz.func87,Tryz.ntmps87
   go_wp2; go_ret
   exact ⟨rfl,rfl⟩
 · by_cases h1:k=15
   · subst h1
     go_enter Tryz.func87,Tryz.ntmps87
     go_wp2; go_ret
     exact ⟨rfl,rfl⟩
   · have e0:((k:Int) == 0)=false:=by simp; omega
     have e1:((k:Int) == 15)=false:=by simp; omega
     have hp:kpD k=65535:=by unfold kpD; rw [if_neg h0,if_neg h1]
     rw [hp]
     clear hp
     go_enter Tryz.func87,Tryz.ntmps87
     go_wp2; go_ret
     exact ⟨rfl,rfl⟩
theorem made_zero (w:World) (t:TypeId) (b:Nat) (hb:b=w.heap.size):Has (w.alloc (.cells zi64_32 t)) b .i64 32 (fun _=>0):=Has.new w .i64 32 (fun _=>0) t b hb
theorem made (w:World):(Instr.makeSlice 108 (.int .i64 32) (.int .i64 32)).run Tryz.prog w=.ok (.slice (some ⟨w.heap.size,0,none⟩) 32 32) (w.alloc (.cells zi64_32 3)):=by kernel_rfl
def kdig (a:Nat→Int):Nat→Int:=fun j=>if j<16 then a (2*j)+256*a (2*j+1) else 0
theorem kdig_in (a:Nat→Int) (ha:In 256 32 a) (j:Nat):0≤kdig a j∧kdig a j<65536:=by
 unfold kdig
 split
 · have h1:=ha (2*j) (by omega)
   have h2:=ha (2*j+1) (by omega)
   omega
 · omega
theorem kval_dig (a:Nat→Int):∀ k,k≤16→val kD (kdig a) k=val 256 a (2*k)
 | 0,_=>rfl
 | k+1,hk=>by
   have e:2*(k+1)=2*k+1+1:=by omega
   rw [e,kval_succ,kval_succ,kval_succ,kval_dig a k (by omega)]
   have e1:(256:Int)^(2*k)=kD^k:=by rw [Int.pow_mul,show (256:Int)^2=kD from by decide]
   have e2:(256:Int)^(2*k+1)=kD^k*256:=by rw [Int.pow_succ,e1]
   have e3:kdig a k=a (2*k)+256*a (2*k+1):=by unfold kdig; rw [if_pos (by omega)]
   rw [e1,e2,e3,Int.mul_add,← Int.mul_assoc]
   omega
theorem val_dig32 (a:Nat→Int):val kD (kdig a) 32=val 256 a 32:=by
 have h:=kval_dig a 16 (xnR _)
 rw [← h]
 simp [val,kdig]
structure YInv (a:Nat→Int) (w:World) (k:Nat) (f:Nat→Int) (w':World):Prop where
 done:∀ j,j<k→f j=kdig a j
 rest:∀ j,k≤j→f j=0
 ha:Has w' w.heap.size .u8 32 a
 ht:Has w' (w.heap.size+1) .i64 32 f
 fr:Fr w 2 w'
theorem YInv.step {a:Nat→Int} {w:World} {k:Nat} {f:Nat→Int} {w':World} (h:YInv a w k f w') (hk:k<16) :
 YInv a w (k+1) (upd f k (a (2*k)+256*a (2*k+1))) ((w'.setCell ⟨w.heap.size+1,k,none⟩ (.int .i64 (a (2*k)+256*a (2*k+1)))).drew):=by
 refine ⟨fun j hj=>?_,fun j hj=>?_,(h.ha.set_other _ _ (by simp)).drew,(h.ht.set k (by omega) _).drew,(h.fr.set _ _ (by simp)).drew⟩
 · by_cases e:j=k
   · subst e; rw [upd_same]; unfold kdig; rw [if_pos hk]
   · rw [upd_other _ _ _ _ e]; exact h.done j (by omega)
 · rw [upd_other _ _ _ _ (by omega)]; exact h.rest j (by omega)
theorem kdigits_any (a:Nat→Int) (ha:In 256 32 a) (w:World) :
 Calls Tryz.prog 86 #[(.agg (row .u8 32 (a)).toArray)] w fun e w'=>∃ B:Nat,e=.returned (.slice (some ⟨B,0,none⟩) 32 32)∧(w.heap.size≤B∧B<w'.heap.size∧Has w' B .i64 32 (kdig a))∧Below w.heap.size w w':=by
 have hmk:=made
 go_enter Tryz.func86,Tryz.ntmps86
 go_wp2
 go_loopw [4] (fun i w'=>∃ (k:Nat) (f:Nat→Int),k≤16∧i=.int .i64 k∧YInv a w k f w') (fun i _=>16-(intOf i).toNat)
 case atStart=>exact ⟨0,fun _=>0,by omega,rfl,⟨fun j hj=>by omega,fun _ _=>rfl,(Has.new w _ _ _ _ _ rfl).alloc _ (by simp),made_zero _ _ _ (by simp),((Fr.refl w).alloc _).alloc _⟩⟩
 case round =>
  obtain ⟨k,f,hk,rfl,hI⟩:=hrel
  clear hmk
  by_cases hlt:k<16
  · have HS:=show Hid _ from hI.step hlt
    have c1:=hI.ha.cell (2*k) (by omega); have c2:=hI.ha.cell (2*k+1) (by omega); have c3:=hI.ht.cell k (by omega); have f1:=hI.ht.free k (by omega); have i1:=ha (2*k) (by omega); have i2:=ha (2*k+1) (by omega)
    have g1:(0:Int)≤(k:Int):=by omega
    have g2:(k:Int)<16:=by omega
    have g3:(2*(k:Int)).toNat=2*k:=by omega
    have g4:(2*(k:Int)+1).toNat=2*k+1:=by omega
    clear hI; generalize a (2*k+1)=y at *; generalize a (2*k)=x at *; generalize f k=z at *
    obtain ⟨x0,x1⟩:=i1
    obtain ⟨y0,y1⟩:=i2
    go_wp2
    go_region
    go_wp2
    go_roundw
    case rel=>exact ⟨k+1,_,by omega,by go_num,HS.out⟩
    case measure=>simp [intOf]; omega
  · obtain rfl:k=16:=by omega
    have hd:=hI.ht.congr (g:=kdig a) (fun j hj=>by
     by_cases e:j<16
     · exact hI.done j e
     · rw [hI.rest j (by omega)]; unfold kdig; rw [if_neg e])
    go_wp2; go_ret
    exact ⟨_,rfl,⟨by omega,by have:=hI.fr.size; omega,hd⟩,hI.fr.below⟩
theorem val_lt (f g:Nat→Int):∀ n s,s<n→In kD n f→In kD n g→(∀ j,s<j→j<n→f j=g j)→f s<g s→val kD f n<val kD g n
 | 0,_,h,_,_,_,_=>by omega
 | n+1,s,h,hf,hg,he,hlt=>by
   rw [kval_succ,kval_succ]
   have hp:=pow_nonneg kD (by decide) n
   by_cases e:s=n
   · subst e
     have b1:=val_in kD (by decide) f s (fun j hj=>hf j (by omega)); have b2:=val_in kD (by decide) g s (fun j hj=>hg j (by omega))
     have:kD^s*(f s+1)≤kD^s*g s:=Int.mul_le_mul_of_nonneg_left (by omega) (by omega)
     rw [Int.mul_add,Int.mul_one] at this
     omega
   · have ih:=val_lt f g n s (by omega) (fun j hj=>hf j (by omega)) (fun j hj=>hg j (by omega)) (fun j h1 h2=>he j h1 (by omega)) hlt
     rw [he n (by omega) (by omega)]
     omega
structure WInv (f:Nat→Int) (B:Nat) (w:World) (t:Nat) (w':World):Prop where
 same:∀ j,t≤j→j<16→f j=kpD j
 ht:Has w' B .i64 32 f
 below:Below w.heap.size w w'
theorem drewN_below {w w':World} {n:Nat} (h:Below w.heap.size w w'):Below w.heap.size w (w'.drewN n):=⟨h.os,h.tape,h.output,h.size,h.block⟩
theorem Has.drewN {w:World} {b:Nat} {k:IntKind} {n:Nat} {f:Nat→Int} (h:Has w b k n f) {q:Nat}:Has (w.drewN q) b k n f:=⟨h.cell,h.free⟩
theorem whole_any (f:Nat→Int) (B:Nat) (w:World) (hf:In kD 16 f) (ht:Has w B .i64 32 f) :
 Calls Tryz.prog 105 #[.slice (some ⟨B,0,none⟩) 32 32] w fun e w'=>e=.returned (.bool (decide (kQ≤val kD f 16)))∧Below w.heap.size w w':=by
 go_enter Tryz.func105,Tryz.ntmps105
 go_wp2
 go_loopw [3] (fun i w'=>∃ (t:Nat) (z:Int),t≤16∧z=(t:Int)-1∧i=.int .i64 z∧WInv f B w t w') (fun i _=>(intOf i+1).toNat)
 case atStart=>exact ⟨16,15,by omega,by decide,rfl,⟨fun j h1 h2=>by omega,ht,Below.refl _ _⟩⟩
 case round =>
  obtain ⟨t,z,hle,hz,rfl,hI⟩:=hrel
  by_cases hlt:0<t
  · obtain ⟨s,rfl⟩:∃ s,t=s+1:=⟨t-1,by omega⟩
    obtain rfl:z=(s:Int):=by omega
    have c1:=hI.ht.cell s (by omega)
    have g1:(0:Int)≤(s:Int):=by omega
    have g2:(s:Int)<16:=by omega
    have g3:(s:Int)<32:=by omega
    have HI:=show Hid _ from hI
    have s16:s<16:=by omega
    clear hz hlt hI
    by_cases he:f s=kpD s
    · have HE:=show Hid _ from he
      have hne:(f s != kpD s)=false:=by simp [he]
      clear he; go_wp2
      go_quiet ((go_at_call 87; exact Calls.quiet_of_same (refPrime_any s s16 _)))
      go_wp2
      go_roundw
      case rel=>exact ⟨s,(s:Int)-1,by omega,rfl,rfl,⟨fun j h1 h2=>by
       by_cases e:j=s
       · rw [e]; exact HE.out
       · exact HI.out.same j (by omega) h2,HI.out.ht.drewN,drewN_below HI.out.below⟩⟩
      case measure=>simp [intOf]
    · have hr:decide (kpD s<f s)=decide (kQ≤val kD f 16):=by
       rw [← val_pD]
       by_cases hgt:kpD s<f s
       · have:=val_lt kpD f 16 s (by omega) (fun j _=>pD_in j) hf (fun j h1 h2=>(HI.out.same j (by omega) h2).symm) hgt
         rw [decide_eq_true hgt,decide_eq_true (by omega)]
       · have:=val_lt f kpD 16 s (by omega) hf (fun j _=>pD_in j) (fun j h1 h2=>HI.out.same j (by omega) h2) (by omega)
         rw [decide_eq_false hgt,decide_eq_false (by omega)]
      have HR:=show Hid _ from hr
      have hne:(f s != kpD s)=true:=by rw [bne_iff_ne]; exact he
      clear he hr; have HQ:=show Hid _ from (fun b (hb:decide (kpD s<f s)=b)=>HR.out.symm.trans hb); clear HR; go_wp2
      go_quiet ((go_at_call 87; exact Calls.quiet_of_same (refPrime_any s s16 _)))
      go_upto_region 5 with fail
      have c2:(wr.drewN nq).cell? ⟨B,s,none⟩=some (.int .i64 (f s)):=c1
      have l2:=drewN_below (n:=nq) HI.out.below; clear c1 hne HI; generalize wr.drewN nq=w2 at *
      go_quiet ((go_at_call 87; exact Calls.quiet_of_same (refPrime_any s s16 _)))
      go_wp2; go_ret
      exact ⟨by rw [HQ.out _ rfl]; rfl,drewN_below l2⟩
  · obtain rfl:t=0:=by omega
    obtain rfl:z=-1:=by omega
    have hv:decide (kQ≤val kD f 16)=true:=by
     rw [← val_pD,val_congr kD (f:=f) (g:=kpD) 16 (fun j hj=>hI.same j (by omega) hj)]
     exact decide_eq_true (Int.le_refl _)
    have HV:=show Hid _ from hv; clear hv hz hlt hle; go_wp2; go_ret
    exact ⟨by rw [HV.out]; rfl,hI.below⟩
structure kRS (f:Nat→Int) (B:Nat) (w w':World):Prop where
 ht:Has w' B .i64 32 f
 hr:Has w' w.heap.size .u8 32 (fun _=>0)
 below:Below B w w'
 size:w.heap.size+1≤w'.heap.size
theorem kRS.drew {f:Nat→Int} {B:Nat} {w w':World} (h:kRS f B w w'):kRS f B w w'.drew:=⟨h.ht.drew,h.hr.drew,h.below.drew,h.size⟩
theorem kRS.drewN {f:Nat→Int} {B:Nat} {w w':World} (h:kRS f B w w') {q:Nat}:kRS f B w (w'.drewN q):=⟨h.ht.drewN,h.hr.drewN,⟨h.below.os,h.below.tape,h.below.output,h.below.size,h.below.block⟩,h.size⟩
theorem kRS.set {f:Nat→Int} {B:Nat} {w w':World} (h:kRS f B w w') (hB:B<w.heap.size) (k:Nat) (hk:k<32) (x:Int):kRS (upd f k x) B w (w'.setCell ⟨B,k,none⟩ (.int .i64 x)) :=
 ⟨h.ht.set k hk x,h.hr.set_other _ _ (by simp; omega),h.below.setCell (by simp) _,by have:=h.size; simp; omega⟩
theorem kRS.call {f:Nat→Int} {B:Nat} {w w' w'':World} (h:kRS f B w w') (hB:B<w.heap.size) (l:Below w'.heap.size w' w''):kRS f B w w'' :=
 ⟨h.ht.below l (by have:=h.size; omega),h.hr.below l (by have:=h.size; omega),h.below.trans (l.mono (by have:=h.size; omega)),by have:=h.size; have:=l.size; omega⟩
def F1 (f:Nat→Int) (m:Nat):Nat→Int:=fun j=>if j<m then f j+38*f (j+16) else f j
theorem F1_step (f:Nat→Int) (m:Nat):upd (F1 f m) m (F1 f m m+38*F1 f m (m+16))=F1 f (m+1):=by
 funext j
 unfold upd F1
 by_cases e:j=m
 · subst e
   have h:¬ j+16<j:=by omega
   simp [h]
 · rw [if_neg e]
   by_cases h:j<m
   · rw [if_pos h,if_pos (by omega)]
   · rw [if_neg h,if_neg (by omega)]
theorem val_add (M:Int) (f g:Nat→Int) (c:Int):∀ n,val M (fun j=>f j+c*g j) n=val M f n+c*val M g n
 | 0=>by simp [val]
 | n+1=>by
   simp only [val]
   rw [val_add M f g c n,Int.mul_add,Int.mul_add,Int.mul_left_comm]
   omega
theorem kval_split (M:Int) (f:Nat→Int) (n:Nat):∀ k,val M f (n+k)=val M f n+M^n*val M (fun j=>f (j+n)) k
 | 0=>by simp [val]
 | k+1=>by
   rw [← Nat.add_assoc,kval_succ,kval_succ,kval_split M f n k,Int.mul_add,← Int.mul_assoc,Int.pow_add,Nat.add_comm k n]
   omega
theorem D16:kD^16=115792089237316195423570985008687907853269984665640564039457584007913129639936:=by decide
theorem F1_val (f:Nat→Int):val kD (F1 f 16) 16%kQ=val kD f 32%kQ:=by
 have e:val kD (F1 f 16) 16=val kD f 16+38*val kD (fun j=>f (j+16)) 16:=by
  rw [← val_add]
  exact val_congr kD 16 fun j hj=>by unfold F1; rw [if_pos hj]
 rw [e,kval_split kD f 16 16,D16]
 simp only [kQ]
 omega
def knum (B:Nat) (w:World):Int:=val kD (fun j=>match w.cell? ⟨B,j,none⟩ with | some (.int _ n)=>n | _=>0) 16
theorem knum_eq {w:World} {B:Nat} {f:Nat→Int} (h:Has w B .i64 32 f):knum B w=val kD f 16:=val_congr kD 16 fun j hj=>by rw [h.cell j (by omega)]
def kmu2 (B:Nat) (r:Value) (w:World):Nat:=2*(knum B w).toNat+(if 0<intOf r then 1 else 0)
def mu4 (B:Nat) (w:World):Nat:=(knum B w).toNat
structure kR2 (v:Int) (r:Int) (f:Nat→Int) (B:Nat) (w w':World):Prop where
 r0:0≤r
 big:∀ j,j<16→0≤f j∧f j≤70368744177664
 eq:val kD f 16%kQ=v%kQ
 inn:r=0→In kD 16 f
 rs:kRS f B w w'
structure kR3 (f:Nat→Int) (k:Nat) (r:Int) (g:Nat→Int) (B:Nat) (w w':World):Prop where
 r0:0≤r
 r1:r≤2147483648
 done:∀ j,j<k→0≤g j∧g j<65536
 rest:∀ j,k≤j→g j=f j
 eq:val kD g k+kD^k*r=val kD f k
 rs:kRS g B w w'
theorem kR3.step {f:Nat→Int} {k:Nat} {r:Int} {g:Nat→Int} {B:Nat} {w w':World} (h:kR3 f k r g B w w') (hB:B<w.heap.size) (hk:k<16) (hf:∀ j,j<16→0≤f j∧f j≤70368744177664) :
 kR3 f (k+1) ((r+g k)/65536) (upd g k ((r+g k)%65536)) B w (w'.setCell ⟨B,k,none⟩ (.int .i64 ((r+g k)%65536))):=by
 have r0:=h.r0; have r1:=h.r1; have e0:=h.rest k (xnR k); have b:=hf k hk
 rw [← e0] at b
 refine ⟨by omega,by omega,fun j hj=>?_,fun j hj=>?_,?_,h.rs.set hB k (by omega) _⟩
 · by_cases e:j=k
   · subst e; rw [upd_same]; omega
   · rw [upd_other _ _ _ _ e]; exact h.done j (by omega)
 · rw [upd_other _ _ _ _ (by omega)]; exact h.rest j (by omega)
 · rw [kval_succ,kval_succ,val_upd _ _ _ _ _ (xnR k),upd_same,Int.pow_succ,Int.mul_assoc,← e0]
   have e1:kD^k*((r+g k)%65536)+kD^k*(kD*((r+g k)/65536))=kD^k*r+kD^k*g k:=by
    rw [← Int.mul_add,← Int.mul_add]
    congr 1
    simp only [kD]
    omega
   have e2:=h.eq
   omega
theorem kR3.next {v:Int} {f:Nat→Int} {r r0:Int} {g:Nat→Int} {B:Nat} {w w0 w':World} (h:kR3 f 16 r g B w w') (hB:B<w.heap.size) (h2:kR2 v r0 f B w w0) :
 kR2 v r (upd g 0 (g 0+38*r)) B w (w'.setCell ⟨B,0,none⟩ (.int .i64 (g 0+38*r))):=by
 have a0:=h.r0; have a1:=h.r1; have d0:=h.done 0 (by omega)
 refine ⟨a0,fun j hj=>?_,?_,fun hr=>?_,h.rs.set hB 0 (by omega) _⟩
 · by_cases e:j=0
   · subst e; rw [upd_same]; omega
   · rw [upd_other _ _ _ _ e]; have:=h.done j hj; omega
 · rw [kval_upd_in kD g 0 _ 16 (by omega),← h2.eq,← h.eq,D16,Int.pow_zero,Int.one_mul,Int.one_mul]
   simp only [kQ]
   omega
 · subst hr
   have e:upd g 0 (g 0+38*0)=g:=by funext j; unfold upd; split <;> simp_all
   rw [e]
   exact fun j hj=>h.done j hj
theorem kR3.less {v:Int} {f:Nat→Int} {r r0:Int} {g:Nat→Int} {B:Nat} {w w0 w':World} (h:kR3 f 16 r g B w w') (hB:B<w.heap.size) (h2:kR2 v r0 f B w w0) (hr:0<r0) :
 kmu2 B (.int .i64 r) (w'.setCell ⟨B,0,none⟩ (.int .i64 (g 0+38*r)))<kmu2 B (.int .i64 r0) w0:=by
 have e:=h.eq; have a0:=h.r0; have b:=val_in kD (by decide) g 16 h.done; have n1:=knum_eq (h.next hB h2).rs.ht; have n2:=knum_eq h2.rs.ht
 rw [kval_upd_in kD g 0 _ 16 (by omega),Int.pow_zero,Int.one_mul,Int.one_mul] at n1
 rw [D16] at e b
 show 2*(knum B _).toNat+(if 0<r then 1 else 0)<2*(knum B w0).toNat+(if 0<r0 then 1 else 0)
 rw [n1,n2,if_pos hr]
 by_cases h0:r=0
 · subst h0; rw [if_neg (by omega)]; omega
 · rw [if_pos (by omega)]; omega
structure R5 (f:Nat→Int) (k:Nat) (l:Int) (g:Nat→Int) (B:Nat) (w w':World):Prop where
 l01:l=0∨l=-1
 done:∀ j,j<k→0≤g j∧g j<65536
 rest:∀ j,k≤j→g j=f j
 eq:val kD g k+val kD kpD k+kD^k*l=val kD f k
 rs:kRS g B w w'
theorem R5.step {f:Nat→Int} {k:Nat} {l:Int} {g:Nat→Int} {B:Nat} {w w':World} (h:R5 f k l g B w w') (hB:B<w.heap.size) (hk:k<16) (hf:In kD 16 f) (l':Int) (hl:l'=if l+g k-kpD k<0 then -1 else 0) :
 R5 f (k+1) l' (upd g k ((l+g k-kpD k+131072)%65536)) B w (w'.setCell ⟨B,k,none⟩ (.int .i64 ((l+g k-kpD k+131072)%65536))):=by
 have e0:=h.rest k (xnR k); have b:=hf k hk; have p:=pD_in k
 rw [← e0] at b
 have b':0≤g k∧g k<65536:=b
 have l01:=h.l01
 have es:(l+g k-kpD k+131072)%65536+kD*l'=l+g k-kpD k:=by
  simp only [kD]
  rw [hl]
  split <;> omega
 refine ⟨by rw [hl]; split <;> simp,fun j hj=>?_,fun j hj=>?_,?_,h.rs.set hB k (by omega) _⟩
 · by_cases e:j=k
   · subst e; rw [upd_same]; omega
   · rw [upd_other _ _ _ _ e]; exact h.done j (by omega)
 · rw [upd_other _ _ _ _ (by omega)]; exact h.rest j (by omega)
 · rw [kval_succ,kval_succ,kval_succ,val_upd _ _ _ _ _ (xnR k),upd_same,Int.pow_succ,Int.mul_assoc,← e0]
   have e1:kD^k*((l+g k-kpD k+131072)%65536)+kD^k*(kD*l')=kD^k*l+kD^k*g k-kD^k*kpD k:=by
    rw [← Int.mul_add,es,Int.mul_sub,Int.mul_add]
   have e2:=h.eq
   omega
theorem R5.next {f:Nat→Int} {l:Int} {g:Nat→Int} {B:Nat} {w w':World} (h:R5 f 16 l g B w w') (hf:In kD 16 f) (hQ:kQ≤val kD f 16):In kD 16 g∧val kD g 16=val kD f 16-kQ:=by
 have b:=val_in kD (by decide) g 16 h.done; have b2:=val_in kD (by decide) f 16 hf; have e:=h.eq; have l01:=h.l01
 rw [val_pD,D16] at e
 rw [D16] at b b2
 simp only [kQ] at *
 refine ⟨h.done,?_⟩
 omega
structure R4 (v:Int) (f:Nat→Int) (B:Nat) (w w':World):Prop where
 inn:In kD 16 f
 eq:val kD f 16%kQ=v%kQ
 rs:kRS f B w w'
structure kR6 (f:Nat→Int) (k:Nat) (h:Nat→Int) (B O:Nat) (w w':World):Prop where
 inn:In 256 32 h
 eq:val 256 h (2*k)=val kD f k
 ho:Has w' O .u8 32 h
 rs:kRS f B w w'
theorem kR6.step {f:Nat→Int} {k:Nat} {h:Nat→Int} {B O:Nat} {w w':World} (hI:kR6 f k h B O w w') (hO:w.heap.size<O) (hB:B<w.heap.size) (hk:k<16) (hf:In kD 16 f) :
 kR6 f (k+1) (upd (upd h (2*k) (f k%256)) (2*k+1) (f k/256)) B O w ((w'.setCell ⟨O,2*k,none⟩ (.int .u8 (f k%256))).setCell ⟨O,2*k+1,none⟩ (.int .u8 (f k/256))):=by
 have b:0≤f k∧f k<65536:=hf k hk
 refine ⟨(hI.inn.upd _ _ (by omega) (by omega)).upd _ _ (by omega) (by omega),?_,(hI.ho.set _ (by omega) _).set _ (by omega) _,⟨(hI.rs.ht.set_other _ _ (by simp; omega)).set_other _ _ (by simp; omega),(hI.rs.hr.set_other _ _ (by simp; omega)).set_other _ _ (by simp; omega),(hI.rs.below.setCell (by simp; omega) _).setCell (by simp; omega) _,by have:=hI.rs.size; simp; omega⟩⟩
 have e:2*(k+1)=2*k+1+1:=by omega
 have e1:(256:Int)^(2*k)=kD^k:=by rw [Int.pow_mul,show (256:Int)^2=kD from by decide]
 have e2:(256:Int)^(2*k+1)=kD^k*256:=by rw [Int.pow_succ,e1]
 rw [e,kval_succ,kval_succ,kval_succ,val_upd _ _ _ _ _ (by omega),val_upd _ _ _ _ _ (xnR _),upd_same,upd_other _ _ _ _ (by omega),upd_same,e1,e2,hI.eq,Int.mul_assoc]
 have e3:kD^k*f k=kD^k*(f k%256)+kD^k*(256*(f k/256)):=by
  rw [← Int.mul_add]
  congr 1
  omega
 rw [e3]
 omega
theorem kreduce_any (f:Nat→Int) (B:Nat) (w:World) (hf:∀ j,j<32→0≤f j∧f j≤1099511627776) (hB:B<w.heap.size) (ht:Has w B .i64 32 f) :
 Calls Tryz.prog 85 #[.slice (some ⟨B,0,none⟩) 32 32] w fun e w'=>∃ g:Nat→Int,e=.returned (.agg (row .u8 32 (g)).toArray)∧(In 256 32 g∧val 256 g 32=val kD f 32%kQ)∧Below B w w':=by
 have rs0:kRS f B w (w.alloc (.cells zu8_32 23)):=⟨ht.alloc _ hB,key_zero _ _ _ rfl,(Below.refl _ _).alloc (by omega) _,by simp⟩
 clear ht
 go_enter Tryz.func85,Tryz.ntmps85
 go_wp2
 go_loopw [3] (fun i w'=>∃ m:Nat,m≤16∧i=.int .i64 ((m:Int)+16)∧kRS (F1 f m) B w w') (fun i _=>32-(intOf i).toNat)
 case atStart=>exact ⟨0,by omega,rfl,by rw [show F1 f 0=f from by funext j; unfold F1; simp]; exact rs0⟩
 case round =>
  obtain ⟨m,hm,rfl,hI⟩:=hrel
  clear rs0
  by_cases hlt:m<16
  · have HS:=show Hid (kRS (F1 f (m+1)) B w ((wr.setCell ⟨B,m,none⟩ (.int .i64 (F1 f m m+38*F1 f m (m+16)))).drew)) from by
     rw [← F1_step]; exact (hI.set hB m (by omega) _).drew
    have c1:=hI.ht.cell m (by omega); have c2:=hI.ht.cell (m+16) (by omega); have f1:=hI.ht.free m (by omega)
    have i1:0≤F1 f m m∧F1 f m m≤1099511627776:=by unfold F1; rw [if_neg (by omega)]; exact hf m (by omega)
    have i2:0≤F1 f m (m+16)∧F1 f m (m+16)≤1099511627776:=by unfold F1; rw [if_neg (by omega)]; exact hf (m+16) (by omega)
    have g1:(0:Int)≤(m:Int):=by omega
    have g2:(m:Int)<16:=by omega
    have g3:((m:Int)+16).toNat=m+16:=by omega
    clear hI; generalize F1 f m (m+16)=y at *; generalize F1 f m m=x at *
    obtain ⟨x0,x1⟩:=i1
    obtain ⟨y0,y1⟩:=i2
    go_wp2
    go_region
    go_wp2
    go_roundw
    case rel=>exact ⟨m+1,by omega,by go_num,HS.out⟩
    case measure=>simp [intOf]; omega
  · obtain rfl:m=16:=by omega
    have hv:=F1_val f
    have h2:kR2 (val kD f 32) 1 (F1 f 16) B w wr:=⟨by decide,fun j hj=>by
     have a:=hf j (by omega); have b:=hf (j+16) (by omega)
     unfold F1; rw [if_pos hj]; omega,hv,fun h=>(by cases h),hI⟩
    clear hv hI hlt hm; go_wp2
    obtain ⟨w1,rfl⟩:∃ w1:World,w1=wr:=⟨_,rfl⟩
    go_loopw [4] (fun r w'=>∃ (rv:Int) (f2:Nat→Int),r=.int .i64 rv∧kR2 (val kD f 32) rv f2 B w w') (fun r w'=>kmu2 B r w')
    case atStart=>exact ⟨1,_,rfl,h2⟩
    case round =>
     obtain ⟨rv,f2,rfl,hI⟩:=hrel
     clear h2
     by_cases hpos:0<rv
     · obtain ⟨w2,rfl⟩:∃ w2:World,w2=wr:=⟨_,rfl⟩
       have q1:rv>0:=hpos
       go_wp2
       go_loopw [4,5] (fun r i w'=>∃ (k:Nat) (rk:Int) (g:Nat→Int),k≤16∧i=.int .i64 k∧r=.int .i64 rk∧kR3 f2 k rk g B w w') (fun _ i _=>16-(intOf i).toNat)
       case atStart=>exact ⟨0,0,f2,by omega,rfl,rfl,⟨by omega,by omega,fun j hj=>by omega,fun _ _=>rfl,by simp [val],hI.rs⟩⟩
       case round =>
        obtain ⟨k,rk,g,hk,rfl,rfl,h3⟩:=hrel
        by_cases hlt:k<16
        · have HS:=show Hid _ from h3.step hB hlt hI.big
          have c1:=h3.rs.ht.cell k (by omega); have f1:=h3.rs.ht.free k (by omega); have a0:=h3.r0; have a1:=h3.r1
          have i1:0≤g k∧g k≤70368744177664:=by rw [h3.rest k (xnR k)]; exact hI.big k hlt
          have g1:(0:Int)≤(k:Int):=by omega
          have g2:(k:Int)<16:=by omega
          have HI:=show Hid _ from hI; clear h3 hI; generalize g k=x at *
          obtain ⟨x0,x1⟩:=i1
          go_wp2
          go_roundw
          case rel=>exact ⟨k+1,_,_,by omega,by go_num,rfl,HS.out⟩
          case measure=>simp [intOf]; omega
        · obtain rfl:k=16:=by omega
          have HN:=show Hid _ from h3.next hB hI; have HL:=show Hid _ from h3.less hB hI hpos; have c1:=h3.rs.ht.cell 0 (by omega); have f1:=h3.rs.ht.free 0 (by omega); have a0:=h3.r0; have a1:=h3.r1; have i1:=h3.done 0 (by omega); clear h3 hI hlt hk; generalize g 0=x at *
          obtain ⟨x0,x1⟩:=i1
          go_wp2
          go_roundw
          case rel=>exact ⟨rk,_,rfl,HN.out⟩
          case measure=>exact HL.out
     · obtain rfl:rv=0:=by have:=hI.r0; omega
       have h4:R4 (val kD f 32) f2 B w wr:=⟨hI.inn rfl,hI.eq,hI.rs⟩
       clear hI hpos; go_wp2
       obtain ⟨w2,rfl⟩:∃ w2:World,w2=wr:=⟨_,rfl⟩
       go_loopw [6] (fun _ w'=>∃ f4:Nat→Int,R4 (val kD f 32) f4 B w w') (fun _ w'=>mu4 B w')
       case atStart=>exact ⟨f2,h4⟩
       case round =>
        obtain ⟨f4,hI⟩:=hrel
        clear h4
        go_wp2_with fail
        refine (whole_any f4 B _ hI.inn hI.rs.ht).mono ?_; rintro e w3 ⟨rfl,l3⟩; have rs3:=hI.rs.call hB l3
        by_cases hq:kQ≤val kD f4 16
        · rw [show decide (kQ≤val kD f4 16)=true from decide_eq_true hq]
          have HI:=show Hid _ from hI; have HQ:=show Hid _ from hq; clear hI hq l3; go_wp2
          obtain ⟨w4,rfl⟩:∃ w4:World,w4=wr:=⟨_,rfl⟩
          go_loopw [6,7] (fun ls i w'=>∃ (k:Nat) (l:Int) (g:Nat→Int),k≤16∧i=.int .i64 k∧ls=.int .i64 l∧R5 f4 k l g B w w') (fun _ i _=>16-(intOf i).toNat)
          case atStart=>exact ⟨0,0,f4,by omega,rfl,rfl,⟨Or.inl rfl,fun j hj=>by omega,fun _ _=>rfl,by simp [val],rs3⟩⟩
          case round =>
           obtain ⟨k,l,g,hk,rfl,rfl,h5⟩:=hrel
           clear rs3
           by_cases hlt:k<16
           · have h5':∀ q,R5 f4 k l g B w (wr.drewN q):=fun q=>⟨h5.l01,h5.done,h5.rest,h5.eq,h5.rs.drewN⟩
             have HS:=show Hid _ from fun q l' hl=>(h5' q).step hB hlt HI.out.inn l' hl; have c1:=h5.rs.ht.cell k (by omega); have f1:=h5.rs.ht.free k (by omega)
             have l0:-1≤l:=by have:=h5.l01; omega
             have l1:l≤0:=by have:=h5.l01; omega
             have i1:0≤g k∧g k<65536:=by rw [h5.rest k (xnR k)]; exact HI.out.inn k hlt
             have i2:=pD_in k
             have g1:(0:Int)≤(k:Int):=by omega
             have g2:(k:Int)<16:=by omega
             clear h5 h5'
             obtain ⟨x0,x1⟩:=i1
             obtain ⟨y0,y1⟩:=i2
             by_cases hn:l+g k-kpD k<0
             · have HT:=show Hid _ from fun q=>HS.out q (-1) (by rw [if_pos hn])
               clear HS; go_upto_region 20 with fail
               go_quiet ((go_at_call 87; exact Calls.quiet_of_same (refPrime_any k hlt _)))
               go_wp2
               go_roundw
               case rel=>exact ⟨k+1,_,_,by omega,by go_num,rfl,HT.out nq⟩
               case measure=>simp [intOf]; omega
             · have HT:=show Hid _ from fun q=>HS.out q 0 (by rw [if_neg hn])
               have hn':0≤l+g k-kpD k:=by omega
               clear HS; go_upto_region 20 with fail
               go_quiet ((go_at_call 87; exact Calls.quiet_of_same (refPrime_any k hlt _)))
               go_wp2
               go_roundw
               case rel=>exact ⟨k+1,_,_,by omega,by go_num,rfl,HT.out nq⟩
               case measure=>simp [intOf]; omega
           · obtain rfl:k=16:=by omega
             have hN:=h5.next HI.out.inn HQ.out; have HN:=show Hid _ from hN
             have hmu:mu4 B wr<mu4 B w4:=by
              unfold mu4
              rw [knum_eq h5.rs.ht,knum_eq HI.out.rs.ht,hN.2]
              have hb:=val_in kD (by decide) f4 16 HI.out.inn; have hq:=HQ.out
              simp only [kQ] at *
              omega
             have HM:=show Hid _ from hmu
             have hR4:R4 (val kD f 32) g B w wr:=⟨hN.1,by rw [hN.2,← HI.out.eq]; simp only [kQ]; omega,h5.rs⟩
             have H4:=show Hid _ from hR4; clear hmu hR4 hN HN h5 hlt hk; go_wp2
             go_roundw
             case rel=>first | exact ⟨g,H4.out⟩ | ((repeat apply Exists.intro); exact ⟨⟨g,H4.out⟩,rfl⟩)
             case measure=>exact HM.out
        · rw [show decide (kQ≤val kD f4 16)=false from decide_eq_false hq]
          clear l3; have HI:=show Hid _ from hI; have HQ:=show Hid _ from hq; clear hI hq; have o0:=key_zero w3 23 w3.heap.size rfl
          have tok:True:=trivial
          go_wp2_with (have _t:=tok; refine wpList_store_mid rfl 23 _ _ rfl (w3.heap.size) 0 (row .u8 32 (fun _=>0)).toArray rfl rfl (key_there (o0)) (key_info' _) (all_oneCell_toArray (row_one _ _ _)) ?_; clear tok)
          have hO:w.heap.size<w3.heap.size:=by have:=rs3.size; omega
          have rs5:kRS f4 B w ((w3.alloc (.cells zu8_32 23)).setCells w3.heap.size 0 (row .u8 32 (fun _=>0))) :=
           ⟨(rs3.ht.alloc _ (by omega)).setAll_other _ (by omega) 0 _,(rs3.hr.alloc _ (by omega)).setAll_other _ (by omega) 0 _,below_setAll (rs3.below.alloc (by omega) _) _ (by omega) 0 _,by rw [size_setAll]; simp; omega⟩
          have o1:=Has.all o0.there .u8 (fun _=>0); clear o0 rs3; generalize w3.heap.size=O at *
          go_loopw [9] (fun i w'=>∃ (k:Nat) (h:Nat→Int),k≤16∧i=.int .i64 k∧kR6 f4 k h B O w w') (fun i _=>16-(intOf i).toNat)
          case atStart=>exact ⟨0,fun _=>0,by omega,rfl,⟨fun _ _=>⟨Int.le_refl 0,by decide⟩,rfl,o1,rs5⟩⟩
          case round =>
           obtain ⟨k,h,hk,rfl,h6⟩:=hrel
           clear rs5 o1
           by_cases hlt:k<16
           · have HS:=show Hid _ from h6.step hO hB hlt HI.out.inn
             have c1:=h6.rs.ht.cell k (by omega); have d1:=h6.ho.cell (2*k) (by omega); have d2:=h6.ho.cell (2*k+1) (by omega); have e1:=h6.ho.free (2*k) (by omega); have e2:=h6.ho.free (2*k+1) (by omega)
             have i1:0≤f4 k∧f4 k<65536:=HI.out.inn k hlt
             have g1:(0:Int)≤(k:Int):=by omega
             have g2:(k:Int)<16:=by omega
             have g3:(2*(k:Int)).toNat=2*k:=by omega
             have g4:(2*(k:Int)+1).toNat=2*k+1:=by omega
             have n1:∀ v,(wr.setCell ⟨O,2*k,none⟩ v).cell? ⟨B,k,none⟩=some (.int .i64 (f4 k)):=fun v=>by
              rw [World.cell?_setCell_other _ _ _ _ (by intro h'; injection h'; omega)]; exact c1
             clear h6
             obtain ⟨x0,x1⟩:=i1
             go_wp2
             go_roundw
             case rel=>exact ⟨k+1,_,by omega,by go_num,HS.out⟩
             case measure=>simp [intOf]; omega
           · obtain rfl:k=16:=by omega
             have ho:=h6.ho; have hz:=h6.rs.hr
             have hE:In 256 32 h∧val 256 h 32=val kD f 32%kQ:=⟨h6.inn,by
              have a:=h6.eq; have b:=HI.out.eq; have c:=val_in kD (by decide) f4 16 HI.out.inn; have q:=HQ.out
              have e:val 256 h (2*16)=val 256 h 32:=rfl
              rw [← e,a,← b,Int.emod_eq_of_lt c.1 (Int.not_le.1 q)]⟩
             have HE:=show Hid _ from hE; have hW:=below_setAll h6.rs.below w.heap.size (by omega) 0 (row .u8 32 h); clear hE hlt hk h6
             go_wp2_with (first | (refine wpList_load_mid rfl 23 _ rfl (O) 0 rfl (row .u8 32 (h)) _ (Has.range (ho)) Tryz.underlying23 rfl (key_info _) ?_) | (refine wpList_store_mid rfl 23 _ _ rfl (w.heap.size) 0 (row .u8 32 (h)).toArray rfl rfl (key_there (hz)) (key_info' _) (all_oneCell_toArray (row_one _ _ _)) ?_))
             exact bodyPost_ret (v:=(.agg (row .u8 32 (h)).toArray)) (results_row Tryz.results85 rfl (Has.all hz.there .u8 h).range Tryz.underlying23 rfl (key_info h)) rfl ⟨h,rfl,HE.out,hW⟩
theorem kdig_bound (a:Nat→Int) (ha:In 256 32 a):∀ j,j<32→0≤kdig a j∧kdig a j≤1099511627776:=fun j _=>by have:=kdig_in a ha j; omega
theorem krefCanon_any (a:Nat→Int) (ha:In 256 32 a) (w:World) :
 Calls Tryz.prog 55 #[(.agg (row .u8 32 (a)).toArray)] w fun e w'=>∃ f:Nat→Int,e=.returned (.agg (row .u8 32 (f)).toArray)∧(In 256 32 f∧val 256 f 32=val 256 a 32%kQ)∧Below w.heap.size w w':=by
 have a0:Has ((w.alloc (.cells (row .u8 32 a).toArray 23)).alloc (.cells zu8_32 23)) w.heap.size .u8 32 a:=(Has.new w _ _ _ _ _ rfl).alloc _ (by simp)
 have z0:Has ((w.alloc (.cells (row .u8 32 a).toArray 23)).alloc (.cells zu8_32 23)) (w.heap.size+1) .u8 32 (fun _=>0):=key_zero _ _ _ (by simp)
 have g0:Fr w 2 ((w.alloc (.cells (row .u8 32 a).toArray 23)).alloc (.cells zu8_32 23)):=((Fr.refl w).alloc _).alloc _
 go_enter Tryz.func55,Tryz.ntmps55
 go_wp2_with (refine wpList_load_mid rfl 23 _ rfl (w.heap.size) 0 rfl (row .u8 32 (a)) _ (Has.range (a0)) Tryz.underlying23 rfl (key_info _) ?_)
 refine (kdigits_any a ha _).mono ?_; rintro e w1 ⟨B,rfl,hB,l1⟩; have g1:=g0.call l1; have z1:=z0.call g0 l1 (by omega)
 have hlo:w.heap.size+2≤B:=by have:=hB.1; simp at this; omega
 go_wp2_with fail
 refine (kreduce_any (kdig a) B _ (kdig_bound a ha) hB.2.1 hB.2.2).mono ?_; rintro e w2 ⟨f,rfl,s2,l2⟩; have z2:=z1.below l2 (by omega)
 have hE:In 256 32 f∧val 256 f 32=val 256 a 32%kQ:=⟨s2.1,by rw [s2.2,val_dig32]⟩
 have HE:=show Hid _ from hE; have hL:=below_setAll (g1.below.trans (l2.mono (by omega))) (w.heap.size+1) (by omega) 0 (row .u8 32 f); clear hE s2 hB
 go_wp2_with (refine wpList_store_mid rfl 23 _ _ rfl (w.heap.size+1) 0 (row .u8 32 (f)).toArray rfl rfl (key_there (z2)) (key_info' _) (all_oneCell_toArray (row_one _ _ _)) ?_)
 exact bodyPost_ret (v:=(.agg (row .u8 32 (f)).toArray)) (results_row Tryz.results55 rfl (Has.all z2.there .u8 f).range Tryz.underlying23 rfl (key_info f)) rfl ⟨f,rfl,HE.out,hL⟩
structure kTU (f g:Nat→Int) (B1 B2:Nat) (w w':World):Prop where
 h1:Has w' B1 .i64 32 f
 h2:Has w' B2 .i64 32 g
 hr:w'.there (w.heap.size+1+1) 0 32
 fr:Fr w 3 w'
 hi:B1<w'.heap.size
theorem kTU.set {f g:Nat→Int} {B1 B2:Nat} {w w':World} (h:kTU f g B1 B2 w w') (lo:w.heap.size+3≤B1) (ne:B1≠B2) (k:Nat) (hk:k<32) (x:Int):kTU (upd f k x) g B1 B2 w ((w'.setCell ⟨B1,k,none⟩ (.int .i64 x)).drew) :=
 ⟨(h.h1.set k hk x).drew,(h.h2.set_other _ _ (by simpa using ne)).drew,fun j hj=>by
  have hne:(⟨B1,k,none⟩:Addr)≠⟨w.heap.size+1+1,0+j,none⟩:=by intro h'; injection h'; omega
  show ((w'.setCell _ _).cell? _).isSome=true∧(w'.setCell _ _).frozen? _=false
  rw [World.cell?_setCell_other _ _ _ _ hne,World.frozen?_setCell]; exact h.hr j hj,(h.fr.set _ _ (by simp; omega)).drew,by have:=h.hi; simpa using this⟩
def kaddTo (a b:Nat→Int) (k:Nat):Nat→Int:=fun j=>kdig a j+(if j<k then kdig b j else 0)
def subTo (a b:Nat→Int) (k:Nat):Nat→Int:=fun j=>kdig a j+(if j<k then 4*kpD j-kdig b j else 0)
theorem kaddTo_step (a b:Nat→Int) (k:Nat):upd (kaddTo a b k) k (kaddTo a b k k+kdig b k)=kaddTo a b (k+1):=by
 funext j
 unfold upd kaddTo
 by_cases e:j=k
 · subst e; simp
 · rw [if_neg e]
   by_cases h:j<k
   · rw [if_pos h,if_pos (by omega)]
   · rw [if_neg h,if_neg (by omega)]
theorem subTo_step (a b:Nat→Int) (k:Nat):upd (subTo a b k) k (subTo a b k k+4*kpD k-kdig b k)=subTo a b (k+1):=by
 funext j
 unfold upd subTo
 by_cases e:j=k
 · subst e; simp; omega
 · rw [if_neg e]
   by_cases h:j<k
   · rw [if_pos h,if_pos (by omega)]
   · rw [if_neg h,if_neg (by omega)]
theorem dig_nought (a:Nat→Int) (j:Nat) (h:¬ j<16):kdig a j=0:=by unfold kdig; rw [if_neg h]
theorem kaddTo_val (a b:Nat→Int):val kD (kaddTo a b 16) 32=val 256 a 32+val 256 b 32:=by
 rw [← val_dig32 a,← val_dig32 b]
 have e:val kD (kaddTo a b 16) 32=val kD (fun j=>kdig a j+1*kdig b j) 32:=val_congr kD 32 fun j _=>by
  unfold kaddTo
  split
  · omega
  · rename_i h; rw [dig_nought b j h]; omega
 rw [e,val_add]; omega
theorem subTo_val (a b:Nat→Int):val kD (subTo a b 16) 32%kQ=(val 256 a 32-val 256 b 32)%kQ:=by
 rw [← val_dig32 a,← val_dig32 b]
 have e:val kD (subTo a b 16) 32=val kD (fun j=>(kdig a j+4*(fun i=>if i<16 then kpD i else 0) j)+(-1)*kdig b j) 32:=val_congr kD 32 fun j _=>by
  unfold subTo
  by_cases h:j<16
  · simp only [if_pos h]; omega
  · simp only [if_neg h]; rw [dig_nought b j h]; omega
 have e2:val kD (fun i=>if i<16 then kpD i else 0) 32=kQ:=by decide
 rw [e,val_add,val_add,e2]
 simp only [kQ]
 omega
theorem kaddTo_bound (a b:Nat→Int) (ha:In 256 32 a) (hb:In 256 32 b) (k j:Nat):0≤kaddTo a b k j∧kaddTo a b k j≤131072:=by
 have h1:=kdig_in a ha j; have h2:=kdig_in b hb j
 unfold kaddTo; split <;> omega
theorem subTo_bound (a b:Nat→Int) (ha:In 256 32 a) (hb:In 256 32 b) (k j:Nat) (_hk:k≤16):0≤subTo a b k j∧subTo a b k j≤524288:=by
 have h1:=kdig_in a ha j; have h2:=kdig_in b hb j; have h3:=pD_in j
 have h4:32767≤kpD j:=by unfold kpD; split <;> (try split) <;> omega
 unfold subTo; split <;> omega
theorem krefAdd_any (a b:Nat→Int) (ha:In 256 32 a) (hb:In 256 32 b) (w:World) :
 Calls Tryz.prog 56 #[(.agg (row .u8 32 (a)).toArray),(.agg (row .u8 32 (b)).toArray)] w fun e w'=>∃ f:Nat→Int,e=.returned (.agg (row .u8 32 (f)).toArray)∧(In 256 32 f∧val 256 f 32=(val 256 a 32+val 256 b 32)%kQ)∧Below w.heap.size w w':=by
 have t0:=kTwo.new a b w; have a0:=t0.ha
 go_enter Tryz.func56,Tryz.ntmps56
 go_wp2_with (refine wpList_load_mid rfl 23 _ rfl (w.heap.size) 0 rfl (row .u8 32 (a)) _ (Has.range (a0)) Tryz.underlying23 rfl (key_info _) ?_)
 refine (kdigits_any a ha _).mono ?_; rintro e w1 ⟨B1,rfl,h1,l1⟩; have t1:=t0.call l1
 have lo1:w.heap.size+3≤B1:=by have:=h1.1; simp at this; omega
 have b1:=t1.hb; clear t0 a0 l1
 go_wp2_with (refine wpList_load_mid rfl 23 _ rfl (w.heap.size+1) 0 rfl (row .u8 32 (b)) _ (Has.range (b1)) Tryz.underlying23 rfl (key_info _) ?_)
 refine (kdigits_any b hb _).mono ?_; rintro e w2 ⟨B2,rfl,h2,l2⟩; have t2:=t1.call l2
 have ne:B1≠B2:=by have:=h1.2.1; have:=h2.1; omega
 have tu:kTU (kdig a) (kdig b) B1 B2 w w2:=⟨h1.2.2.below l2 h1.2.1,h2.2.2,t2.hr,t2.fr,by have:=h1.2.1; have:=l2.size; omega⟩
 clear t1 t2 b1 h1 h2 l2; go_wp2
 go_loopw [7] (fun i w'=>∃ k:Nat,k≤16∧i=.int .i64 k∧kTU (kaddTo a b k) (kdig b) B1 B2 w w') (fun i _=>16-(intOf i).toNat)
 case atStart=>exact ⟨0,by omega,rfl,by rw [show kaddTo a b 0=kdig a from by funext j; unfold kaddTo; simp]; exact tu⟩
 case round =>
  obtain ⟨k,hk,rfl,hI⟩:=hrel
  clear tu
  by_cases hlt:k<16
  · have HS:=show Hid (kTU (kaddTo a b (k+1)) (kdig b) B1 B2 w ((wr.setCell ⟨B1,k,none⟩ (.int .i64 (kaddTo a b k k+kdig b k))).drew)) from by rw [← kaddTo_step]; exact hI.set lo1 ne k (by omega) _
    have c1:=hI.h1.cell k (by omega); have c2:=hI.h2.cell k (by omega); have f1:=hI.h1.free k (by omega); have i1:=kaddTo_bound a b ha hb k k; have i2:=kdig_in b hb k
    have g1:(0:Int)≤(k:Int):=by omega
    have g2:(k:Int)<16:=by omega
    clear hI; generalize kaddTo a b k k=x at *; generalize kdig b k=y at *
    obtain ⟨x0,x1⟩:=i1
    obtain ⟨y0,y1⟩:=i2
    go_wp2
    go_region
    go_wp2
    go_roundw
    case rel=>exact ⟨k+1,by omega,by go_num,HS.out⟩
    case measure=>simp [intOf]; omega
  · obtain rfl:k=16:=by omega
    clear hlt hk
    go_wp2_with fail
    refine (kreduce_any (kaddTo a b 16) B1 _ (fun j _=>by have:=kaddTo_bound a b ha hb 16 j; omega) hI.hi hI.h1).mono ?_; rintro e w3 ⟨f,rfl,s3,l3⟩; have hz:=there_below hI.hr l3 (by omega)
    have hE:In 256 32 f∧val 256 f 32=(val 256 a 32+val 256 b 32)%kQ:=⟨s3.1,by rw [s3.2,kaddTo_val]⟩
    have HE:=show Hid _ from hE; have hL:=below_setAll (hI.fr.below.trans (l3.mono (by omega))) (w.heap.size+1+1) (by omega) 0 (row .u8 32 f); clear hE s3 hI l3
    go_wp2_with (refine wpList_store_mid rfl 23 _ _ rfl (w.heap.size+1+1) 0 (row .u8 32 f).toArray rfl rfl (key_there' hz) (key_info' _) (all_oneCell_toArray (row_one _ _ _)) ?_)
    exact bodyPost_ret (v:=(.agg (row .u8 32 (f)).toArray)) (results_row Tryz.results56 rfl (Has.all hz .u8 f).range Tryz.underlying23 rfl (key_info f)) rfl ⟨f,rfl,HE.out,hL⟩
theorem refSub_any (a b:Nat→Int) (ha:In 256 32 a) (hb:In 256 32 b) (w:World) :
 Calls Tryz.prog 57 #[(.agg (row .u8 32 (a)).toArray),(.agg (row .u8 32 (b)).toArray)] w fun e w'=>∃ f:Nat→Int,e=.returned (.agg (row .u8 32 (f)).toArray)∧(In 256 32 f∧val 256 f 32=(val 256 a 32-val 256 b 32)%kQ)∧Below w.heap.size w w':=by
 have t0:=kTwo.new a b w; have a0:=t0.ha
 go_enter Tryz.func57,Tryz.ntmps57
 go_wp2_with (refine wpList_load_mid rfl 23 _ rfl (w.heap.size) 0 rfl (row .u8 32 (a)) _ (Has.range (a0)) Tryz.underlying23 rfl (key_info _) ?_)
 refine (kdigits_any a ha _).mono ?_; rintro e w1 ⟨B1,rfl,h1,l1⟩; have t1:=t0.call l1
 have lo1:w.heap.size+3≤B1:=by have:=h1.1; simp at this; omega
 have b1:=t1.hb; clear t0 a0 l1
 go_wp2_with (refine wpList_load_mid rfl 23 _ rfl (w.heap.size+1) 0 rfl (row .u8 32 (b)) _ (Has.range (b1)) Tryz.underlying23 rfl (key_info _) ?_)
 refine (kdigits_any b hb _).mono ?_; rintro e w2 ⟨B2,rfl,h2,l2⟩; have t2:=t1.call l2
 have ne:B1≠B2:=by have:=h1.2.1; have:=h2.1; omega
 have tu:kTU (kdig a) (kdig b) B1 B2 w w2:=⟨h1.2.2.below l2 h1.2.1,h2.2.2,t2.hr,t2.fr,by have:=h1.2.1; have:=l2.size; omega⟩
 clear t1 t2 b1 h1 h2 l2; go_wp2
 go_loopw [7] (fun i w'=>∃ k:Nat,k≤16∧i=.int .i64 k∧kTU (subTo a b k) (kdig b) B1 B2 w w') (fun i _=>16-(intOf i).toNat)
 case atStart=>exact ⟨0,by omega,rfl,by rw [show subTo a b 0=kdig a from by funext j; unfold subTo; simp]; exact tu⟩
 case round =>
  obtain ⟨k,hk,rfl,hI⟩:=hrel
  clear tu
  by_cases hlt:k<16
  · have HS:=show Hid (kTU (subTo a b (k+1)) (kdig b) B1 B2 w ((wr.setCell ⟨B1,k,none⟩ (.int .i64 (subTo a b k k+4*kpD k-kdig b k))).drew)) from by rw [← subTo_step]; exact hI.set lo1 ne k (by omega) _
    have c1:=hI.h1.cell k (by omega); have c2:=hI.h2.cell k (by omega); have f1:=hI.h1.free k (by omega); have i1:=subTo_bound a b ha hb k k hk; have i2:=kdig_in b hb k; have i3:=pD_in k
    have g1:(0:Int)≤(k:Int):=by omega
    have g2:(k:Int)<16:=by omega
    have g3:(k:Int)<32:=by omega
    have HP:=show Hid _ from fun W'=>refPrime_any k hlt W'; clear hI; generalize subTo a b k k=x at *; generalize kdig b k=y at *; generalize kpD k=p at *
    obtain ⟨x0,x1⟩:=i1
    obtain ⟨y0,y1⟩:=i2
    obtain ⟨p0,p1⟩:=i3
    have v1:IntKind.i64.wrap (4*p)=4*p:=by rw [xw6]; omega
    have v2:IntKind.i64.wrap (x+4*p)=x+4*p:=by rw [xw6]; omega
    have v3:IntKind.i64.wrap (x+4*p-y)=x+4*p-y:=by rw [xw6]; omega
    go_wp2
    go_region_with (go_at_call 87; refine (HP.out _).mono ?_; rintro e w' ⟨rfl,rfl⟩)
    all_goals
     go_wp2
     go_roundw
     case rel=>exact ⟨k+1,by omega,by go_num,HS.out⟩
     case measure=>simp [intOf]; omega
  · obtain rfl:k=16:=by omega
    clear hlt hk
    go_wp2_with fail
    refine (kreduce_any (subTo a b 16) B1 _ (fun j _=>by have:=subTo_bound a b ha hb 16 j (xnR _); omega) hI.hi hI.h1).mono ?_
    rintro e w3 ⟨f,rfl,s3,l3⟩; have hz:=there_below hI.hr l3 (by omega)
    have hE:In 256 32 f∧val 256 f 32=(val 256 a 32-val 256 b 32)%kQ:=⟨s3.1,by rw [s3.2,subTo_val]⟩
    have HE:=show Hid _ from hE; have hL:=below_setAll (hI.fr.below.trans (l3.mono (by omega))) (w.heap.size+1+1) (by omega) 0 (row .u8 32 f); clear hE s3 hI l3
    go_wp2_with (refine wpList_store_mid rfl 23 _ _ rfl (w.heap.size+1+1) 0 (row .u8 32 f).toArray rfl rfl (key_there' hz) (key_info' _) (all_oneCell_toArray (row_one _ _ _)) ?_)
    exact bodyPost_ret (v:=(.agg (row .u8 32 (f)).toArray)) (results_row Tryz.results57 rfl (Has.all hz .u8 f).range Tryz.underlying23 rfl (key_info f)) rfl ⟨f,rfl,HE.out,hL⟩
structure kMU (a b:Nat→Int) (i k:Nat) (f:Nat→Int) (B1 B2 B3:Nat) (w w':World):Prop where
 eq:val kD f 32=val kD (kdig a) i*val kD (kdig b) 16+kD^i*kdig a i*val kD (kdig b) k
 big:∀ j,j<32→0≤f j∧f j≤(i:Int)*4294967296+(if i≤j∧j<i+k then 4294967296 else 0)
 h1:Has w' B1 .i64 32 (kdig a)
 h2:Has w' B2 .i64 32 (kdig b)
 h3:Has w' B3 .i64 32 f
 hr:w'.there (w.heap.size+1+1) 0 32
 fr:Fr w 3 w'
 hi:B3<w'.heap.size
theorem kmul_le {x y:Int} (x0:0≤x) (x1:x<65536) (y0:0≤y) (y1:y<65536):0≤x*y∧x*y≤4294836225 :=
 ⟨Int.mul_nonneg x0 y0,Int.mul_le_mul (show x≤65535 by omega) (show y≤65535 by omega) y0 (by omega)⟩
theorem kMU.step {a b:Nat→Int} {i k:Nat} {f:Nat→Int} {B1 B2 B3:Nat} {w w':World} (h:kMU a b i k f B1 B2 B3 w w') (ha:In 256 32 a) (hb:In 256 32 b) (lo:w.heap.size+3≤B3) (n1:B3≠B1) (n2:B3≠B2) (hi:i<16) (hk:k<16) :
 kMU a b i (k+1) (upd f (i+k) (f (i+k)+kdig a i*kdig b k)) B1 B2 B3 w ((w'.setCell ⟨B3,i+k,none⟩ (.int .i64 (f (i+k)+kdig a i*kdig b k))).drew):=by
 have da:=kdig_in a ha i; have db:=kdig_in b hb k; have hp:=kmul_le da.1 da.2 db.1 db.2
 refine ⟨?_,fun j hj=>?_,(h.h1.set_other _ _ (by simpa using n1)).drew,(h.h2.set_other _ _ (by simpa using n2)).drew,(h.h3.set _ (by omega) _).drew,fun j hj=>?_,(h.fr.set _ _ (by simp; omega)).drew,by have:=h.hi; simpa using this⟩
 · rw [kval_upd_in kD f (i+k) _ 32 (by omega),kval_succ kD (kdig b) k,h.eq]
   have e1:kD^i*kdig a i*(kD^k*kdig b k)=kD^(i+k)*(kdig a i*kdig b k):=by rw [Int.pow_add,Int.mul_assoc,Int.mul_left_comm (kdig a i),← Int.mul_assoc]
   rw [Int.mul_add (kD^(i+k)),Int.mul_add (kD^i*kdig a i),e1]
   omega
 · have bj:=h.big j hj
   by_cases e:j=i+k
   · subst e
     rw [upd_same]
     rw [if_neg (by omega)] at bj
     rw [if_pos (by omega)]
     omega
   · rw [upd_other _ _ _ _ e]
     by_cases c:i≤j∧j<i+k
     · rw [if_pos c] at bj; rw [if_pos (by omega)]; exact bj
     · rw [if_neg c] at bj; rw [if_neg (by omega)]; exact bj
 · have hne:(⟨B3,i+k,none⟩:Addr)≠⟨w.heap.size+1+1,0+j,none⟩:=by intro h'; injection h'; omega
   show ((w'.setCell _ _).cell? _).isSome=true∧(w'.setCell _ _).frozen? _=false
   rw [World.cell?_setCell_other _ _ _ _ hne,World.frozen?_setCell]; exact h.hr j hj
theorem kMU.next {a b:Nat→Int} {i:Nat} {f:Nat→Int} {B1 B2 B3:Nat} {w w':World} (h:kMU a b i 16 f B1 B2 B3 w w'):kMU a b (i+1) 0 f B1 B2 B3 w w':=by
 refine ⟨?_,fun j hj=>?_,h.h1,h.h2,h.h3,h.hr,h.fr,h.hi⟩
 · rw [h.eq,kval_succ kD (kdig a) i,Int.add_mul,show val kD (kdig b) 0=0 from rfl,Int.mul_zero,Int.add_zero]
 · have bj:=h.big j hj
   rw [if_neg (by omega)]
   have e:((i+1:Nat):Int)*4294967296=(i:Int)*4294967296+4294967296:=by omega
   rw [e]
   split at bj <;> omega
theorem krefMul_any (a b:Nat→Int) (ha:In 256 32 a) (hb:In 256 32 b) (w:World) :
 Calls Tryz.prog 58 #[(.agg (row .u8 32 (a)).toArray),(.agg (row .u8 32 (b)).toArray)] w fun e w'=>∃ f:Nat→Int,e=.returned (.agg (row .u8 32 (f)).toArray)∧(In 256 32 f∧val 256 f 32=(val 256 a 32*val 256 b 32)%kQ)∧Below w.heap.size w w':=by
 have t0:=kTwo.new a b w; have a0:=t0.ha; have hmk:=made
 go_enter Tryz.func58,Tryz.ntmps58
 go_wp2_with (refine wpList_load_mid rfl 23 _ rfl (w.heap.size) 0 rfl (row .u8 32 (a)) _ (Has.range (a0)) Tryz.underlying23 rfl (key_info _) ?_)
 refine (kdigits_any a ha _).mono ?_; rintro e w1 ⟨B1,rfl,h1,l1⟩; have t1:=t0.call l1
 have lo1:w.heap.size+3≤B1:=by have:=h1.1; simp at this; omega
 have b1:=t1.hb; clear t0 a0 l1
 go_wp2_with (refine wpList_load_mid rfl 23 _ rfl (w.heap.size+1) 0 rfl (row .u8 32 (b)) _ (Has.range (b1)) Tryz.underlying23 rfl (key_info _) ?_)
 refine (kdigits_any b hb _).mono ?_; rintro e w2 ⟨B2,rfl,h2,l2⟩; have t2:=t1.call l2; have x1:=h1.2.2.below l2 h1.2.1
 have hi1:B1<w2.heap.size:=by have:=h1.2.1; have:=l2.size; omega
 have hi2:=h2.2.1; have x2:=h2.2.2
 have mu0:kMU a b 0 0 (fun _=>0) B1 B2 w2.heap.size w (w2.alloc (.cells zi64_32 3)):=by
  refine ⟨by rw [show val kD (kdig a) 0=0 from rfl,show val kD (kdig b) 0=0 from rfl,Int.zero_mul,Int.mul_zero]; exact kval_zero kD 32,fun j _=>by simp,x1.alloc _ hi1,x2.alloc _ hi2,made_zero _ _ _ rfl,?_,t2.fr.alloc _ |>.below |> (fun b=>⟨b,by have:=t2.fr.size; simp; omega⟩),by simp⟩
  have:=there_below (w':=w2.alloc (.cells zi64_32 3)) t2.hr ((Below.refl w2.heap.size w2).alloc (xnR _) _) (by have:=t2.fr.size; omega)
  exact this
 have lo3:w.heap.size+3≤w2.heap.size:=t2.fr.size
 have n1:w2.heap.size≠B1:=by omega
 have n2:w2.heap.size≠B2:=by omega
 clear t1 t2 b1 h1 h2 l2 x1 x2 hi1 hi2 lo1; go_wp2; clear hmk; generalize w2.heap.size=B3 at *; generalize w2.alloc (.cells zi64_32 3)=w3 at *
 go_loopw [8] (fun i w'=>∃ (m:Nat) (f:Nat→Int),m≤16∧i=.int .i64 m∧kMU a b m 0 f B1 B2 B3 w w') (fun i _=>16-(intOf i).toNat)
 case atStart=>exact ⟨0,_,by omega,rfl,mu0⟩
 case round =>
  obtain ⟨m,f0,hm,rfl,hO⟩:=hrel
  clear mu0
  by_cases hlt:m<16
  · obtain ⟨wo,rfl⟩:∃ wo:World,wo=wr:=⟨_,rfl⟩
    have g1:(0:Int)≤(m:Int):=by omega
    have g2:(m:Int)<16:=by omega
    go_wp2
    go_loopw [9] (fun i w'=>∃ (k:Nat) (f:Nat→Int),k≤16∧i=.int .i64 k∧kMU a b m k f B1 B2 B3 w w') (fun i _=>16-(intOf i).toNat)
    case atStart=>exact ⟨0,f0,by omega,rfl,hO⟩
    case round =>
     obtain ⟨k,f,hk,rfl,hI⟩:=hrel
     clear hO
     by_cases hlt2:k<16
     · have HS:=show Hid _ from hI.step ha hb lo3 n1 n2 hlt hlt2
       have c1:=hI.h1.cell m (by omega); have c2:=hI.h2.cell k (by omega); have c3:=hI.h3.cell (m+k) (by omega); have f1:=hI.h3.free (m+k) (by omega); have ix:=kdig_in a ha m; have iy:=kdig_in b hb k; have ip:=kmul_le ix.1 ix.2 iy.1 iy.2; have iz:=hI.big (m+k) (by omega)
       rw [if_neg (by omega)] at iz
       have iz1:f (m+k)≤68719476736:=by omega
       have iz0:=iz.1
       have g3:(0:Int)≤(k:Int):=by omega
       have g4:(k:Int)<16:=by omega
       have g7:((m:Int)+(k:Int)).toNat=m+k:=by omega
       clear hI iz ix iy; generalize kdig a m=x at *; generalize kdig b k=y at *; generalize f (m+k)=z at *
       obtain ⟨p0,p1⟩:=ip
       go_wp2
       go_region
       go_wp2
       go_roundw
       case rel=>exact ⟨k+1,_,by omega,by go_num,HS.out⟩
       case measure=>simp [intOf]; omega
     · obtain rfl:k=16:=by omega
       have hN:=hI.next; clear hI hlt2 hk; go_wp2
       go_roundw
       case rel=>exact ⟨m+1,_,by omega,by go_num,hN⟩
       case measure=>simp [intOf]; omega
  · obtain rfl:m=16:=by omega
    clear hlt hm
    go_wp2_with fail
    refine (kreduce_any f0 B3 _ (fun j hj=>by have:=hO.big j hj; rw [if_neg (by omega)] at this; omega) hO.hi hO.h3).mono ?_
    rintro e w4 ⟨g,rfl,s3,l3⟩; have hz:=there_below hO.hr l3 (by omega)
    have hE:In 256 32 g∧val 256 g 32=(val 256 a 32*val 256 b 32)%kQ:=⟨s3.1,by
     rw [s3.2,hO.eq,kval_dig a 16 (xnR _),kval_dig b 16 (xnR _),show val kD (kdig b) 0=0 from rfl,Int.mul_zero,Int.add_zero]⟩
    have HE:=show Hid _ from hE; have hL:=below_setAll (hO.fr.below.trans (l3.mono (by omega))) (w.heap.size+1+1) (by omega) 0 (row .u8 32 g); clear hE s3 hO l3
    go_wp2_with (refine wpList_store_mid rfl 23 _ _ rfl (w.heap.size+1+1) 0 (row .u8 32 g).toArray rfl rfl (key_there' hz) (key_info' _) (all_oneCell_toArray (row_one _ _ _)) ?_)
    exact bodyPost_ret (v:=(.agg (row .u8 32 (g)).toArray)) (results_row Tryz.results58 rfl (Has.all hz .u8 g).range Tryz.underlying23 rfl (key_info g)) rfl ⟨g,rfl,HE.out,hL⟩
end Go.Proofs.YtklnibmfpcmeeaaGreatDoor
