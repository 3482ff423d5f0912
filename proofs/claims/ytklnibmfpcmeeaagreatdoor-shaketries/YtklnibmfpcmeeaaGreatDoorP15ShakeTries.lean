/- Texts of RefInvert, joined. -/
import Derived.Test.YtklnibmfpcmeeaaGreatDoorP14ShakeTries
set_option maxRecDepth 20000
set_option maxHeartbeats 64000000
namespace Go.Proofs.YtklnibmfpcmeeaaGreatDoor
open Go.RowKit
def eD:Nat→Int:=fun j=>if j=0 then 65515 else kpD j
def digitsOk:Bool:=(List.range 16).all fun s=>(List.range 16).all fun q=>(eD s).toNat/2^q%2 == E/2^(16*s+q)%2
theorem digits_ok:digitsOk=true:=by decide +kernel
theorem digit_of (s q:Nat) (hs:s<16) (hq:q<16):(eD s).toNat/2^q%2=E/2^(16*s+q)%2:=by
 have h1:=List.all_eq_true.1 digits_ok s (List.mem_range.2 hs); have h2:=List.all_eq_true.1 h1 q (List.mem_range.2 hq)
 simpa using h2
theorem and_one_i64 (z:Nat) (hz:z<65536):bits BinOp.and IntKind.i64 (z:Int) 1=((z%2:Nat):Int):=by
 have e:bits BinOp.and IntKind.i64 (z:Int) 1=((z &&& 1:Nat):Int):=by
  have hx:z &&& 1≤1:=by rw [Nat.and_one_is_mod]; omega
  show IntKind.i64.wrap ((BitVec.ofInt 64 (z:Int) &&& BitVec.ofInt 64 ((1:Nat):Int)).toNat:Int)=_
  rw [BitVec.toNat_and,ofInt_u64 z (by omega),ofInt_u64 1 (by omega),xw6]
  omega
 rw [e,Nat.and_one_is_mod]
theorem bit_test_i64 (y:Int) (h0:0≤y) (h1:y<65536) (k:Nat):(bits BinOp.and IntKind.i64 (y/2^k) 1 == 1)=(y.toNat/2^k%2 == 1):=by
 obtain ⟨y,rfl⟩:=xiN h0
 have e:(y:Int)/2^k=((y/2^k:Nat):Int):=by simp
 have hlt:y/2^k<65536:=Nat.lt_of_le_of_lt (Nat.div_le_self _ _) (by omega)
 rw [e,and_one_i64 _ hlt,Int.toNat_natCast]
 generalize y/2^k%2=z
 by_cases hz:z=1
 · subst hz; rfl
 · have a:((z:Int) == 1)=false:=by simp; omega
   have b:(z == 1)=false:=by simp; exact hz
   rw [a,b]
structure IV (a:Nat→Int) (w:World) (t:Nat) (m:Nat→Int) (w':World):Prop where
 inn:In 256 32 m
 eq:val 256 m 32=val 256 a 32^(E/2^t)%kQ
 ha:Has w' w.heap.size .u8 32 a
 hr:Has w' (w.heap.size+1) .u8 32 (fun _=>0)
 hn:Has w' (w.heap.size+1+1) .u8 32 m
 fr:Fr w 3 w'
theorem IV.even {a:Nat→Int} {w:World} {s:Nat} {m m1:Nat→Int} {w' w1:World} (h:IV a w (s+1) m w') (l:Below w'.heap.size w' w1) (s1:In 256 32 m1∧val 256 m1 32=(val 256 m 32*val 256 m 32)%kQ) (hb:E/2^s%2=0) :
 IV a w s m1 (w1.setCells (w.heap.size+1+1) 0 (row .u8 32 m1)):=by
 refine ⟨s1.1,?_,(h.ha.call h.fr l (by omega)).setAll_other _ (by omega) 0 _,(h.hr.call h.fr l (by omega)).setAll_other _ (by omega) 0 _,Has.all (h.hn.call h.fr l (by omega)).there .u8 m1,(h.fr.call l).setAll _ (by omega) _⟩
 rw [half s,hb,Nat.add_zero,s1.2,h.eq,kmmod,← Int.pow_add,← Nat.two_mul]
theorem IV.odd {a:Nat→Int} {w:World} {s:Nat} {m m1 m2:Nat→Int} {w' w1 w2:World} (h:IV a w (s+1) m w') (l:Below w'.heap.size w' w1) (s1:In 256 32 m1∧val 256 m1 32=(val 256 m 32*val 256 m 32)%kQ)
 (l2:Below (w1.setCells (w.heap.size+1+1) 0 (row .u8 32 m1)).heap.size (w1.setCells (w.heap.size+1+1) 0 (row .u8 32 m1)) w2) (s2:In 256 32 m2∧val 256 m2 32=(val 256 m1 32*val 256 a 32)%kQ) (hb:E/2^s%2=1) :
 IV a w s m2 (w2.setCells (w.heap.size+1+1) 0 (row .u8 32 m2)):=by
 have f1:=(h.fr.call l).setAll (w.heap.size+1+1) (by omega) (row .u8 32 m1); have a1:=(h.ha.call h.fr l (by omega)).setAll_other (w.heap.size+1+1) (by omega) 0 (row .u8 32 m1); have r1:=(h.hr.call h.fr l (by omega)).setAll_other (w.heap.size+1+1) (by omega) 0 (row .u8 32 m1); have n1:=Has.all (h.hn.call h.fr l (by omega)).there .u8 m1
 refine ⟨s2.1,?_,(a1.call f1 l2 (by omega)).setAll_other _ (by omega) 0 _,(r1.call f1 l2 (by omega)).setAll_other _ (by omega) 0 _,Has.all (n1.call f1 l2 (by omega)).there .u8 m2,(f1.call l2).setAll _ (by omega) _⟩
 rw [half s,hb,Int.pow_succ,s2.2,s1.2,h.eq,kmmod,← Int.pow_add,← Nat.two_mul,kmmodl]
theorem refInvert_any (a:Nat→Int) (ha:In 256 32 a) (w:World) :
 Calls Tryz.prog 59 #[(.agg (row .u8 32 (a)).toArray)] w fun e w'=>∃ f:Nat→Int,e=.returned (.agg (row .u8 32 (f)).toArray)∧(In 256 32 f∧val 256 f 32=val 256 a 32^E%kQ)∧Below w.heap.size w w':=by
 have a0:Has (((w.alloc (.cells (row .u8 32 a).toArray 23)).alloc (.cells zu8_32 23)).alloc (.cells zu8_32 23)) w.heap.size .u8 32 a:=((Has.new w _ _ _ _ _ rfl).alloc _ (by simp)).alloc _ (by simp; omega)
 have z0:Has (((w.alloc (.cells (row .u8 32 a).toArray 23)).alloc (.cells zu8_32 23)).alloc (.cells zu8_32 23)) (w.heap.size+1) .u8 32 (fun _=>0):=(key_zero _ _ _ (by simp)).alloc _ (by simp)
 have n0:Has (((w.alloc (.cells (row .u8 32 a).toArray 23)).alloc (.cells zu8_32 23)).alloc (.cells zu8_32 23)) (w.heap.size+1+1) .u8 32 (fun _=>0):=key_zero _ _ _ (by simp)
 have g0:Fr w 3 (((w.alloc (.cells (row .u8 32 a).toArray 23)).alloc (.cells zu8_32 23)).alloc (.cells zu8_32 23)):=(((Fr.refl w).alloc _).alloc _).alloc _
 have tok:True:=trivial
 go_enter Tryz.func59,Tryz.ntmps59
 go_wp2_with (have _t:=tok; refine wpList_store_mid rfl 23 _ _ rfl (w.heap.size+1+1) 0 (row .u8 32 (one 1)).toArray rfl rfl (key_there (n0)) (key_info' _) (all_oneCell_toArray (row_one _ _ _)) ?_; clear tok)
 have v0:IV a w 256 (one 1) ((((w.alloc (.cells (row .u8 32 a).toArray 23)).alloc (.cells zu8_32 23)).alloc (.cells zu8_32 23)).setCells (w.heap.size+1+1) 0 (row .u8 32 (one 1))) :=
  ⟨byte_in' 1 (by decide) (by decide),by rw [E_top,Int.pow_zero,val_byte]; decide,a0.setAll_other _ (by omega) 0 _,z0.setAll_other _ (by omega) 0 _,Has.all n0.there .u8 (one 1),g0.setAll _ (by omega) _⟩
 clear a0 z0 n0 g0
 go_loopw [4] (fun i w'=>∃ (t:Nat) (z:Int) (m:Nat→Int),t≤16∧z=(t:Int)-1∧i=.int .i64 z∧IV a w (16*t) m w') (fun i _=>(intOf i+1).toNat)
 case atStart=>exact ⟨16,15,one 1,by omega,by decide,rfl,v0⟩
 case round =>
  obtain ⟨t,z,m0,ht,hz,rfl,hO⟩:=hrel
  clear v0
  by_cases hlt:0<t
  · obtain ⟨s,rfl⟩:∃ s,t=s+1:=⟨t-1,by omega⟩
    obtain rfl:z=(s:Int):=by omega
    have s16:s<16:=by omega
    have g1:(0:Int)≤(s:Int):=by omega
    have g2:(s:Int)<16:=by omega
    have q1:=pD_in s
    have q2:32767≤kpD s:=by unfold kpD; split <;> (try split) <;> omega
    clear hz hlt ht
    obtain ⟨wo,rfl⟩:∃ wo:World,wo=wr:=⟨_,rfl⟩
    by_cases hs:s=0
    · have e0:((s:Int) == 0)=true:=by simp [hs]
      have HD:=show Hid _ from (fun q hq=>digit_of s q s16 hq)
      have HV:=show Hid (eD s=kpD s-2) from by rw [hs]; rfl
      clear hs
      go_wp2_with fail
      refine (refPrime_any s s16 _).mono ?_; rintro e w' ⟨rfl,rfl⟩
      have v1:0≤kpD s-2:=by omega
      have v2:kpD s-2<65536:=by omega
      go_wp2
      go_loopw [6] (fun i w'=>∃ (u:Nat) (z:Int) (m:Nat→Int),u≤16∧z=(u:Int)-1∧i=.int .i64 z∧IV a w (16*s+u) m w') (fun i _=>(intOf i+1).toNat)
      case atStart=>exact ⟨16,15,m0,by omega,by decide,rfl,hO⟩
      case round =>
       obtain ⟨u,z,m,hu,hz,rfl,hI⟩:=hrel
       clear hO
       by_cases hlt:0<u
       · obtain ⟨q,rfl⟩:∃ q,u=q+1:=⟨u-1,by omega⟩
         obtain rfl:z=(q:Int):=by omega
         have hn':=hI.hn
         have g3:(0:Int)≤(q:Int):=by omega
         have g4:(q:Int)<16:=by omega
         clear hz hlt
         go_wp2_with (refine wpList_load_mid rfl 23 _ rfl (w.heap.size+1+1) 0 rfl (row .u8 32 (m)) _ (Has.range (hn')) Tryz.underlying23 rfl (key_info _) ?_)
         refine (krefMul_any m m hI.inn hI.inn _).mono ?_; rintro e w1 ⟨m1,rfl,s1,l1⟩; have hn1:=hn'.call hI.fr l1 (by omega); have hm2:=Has.all hn1.there .u8 m1; have ha2:=(hI.ha.call hI.fr l1 (by omega)).setAll_other (w.heap.size+1+1) (by omega) 0 (row .u8 32 m1); have i1:=s1.1; have H1:=show Hid _ from s1; have HI:=show Hid _ from hI
         have hT:=bit_test_i64 (kpD s-2) v1 v2 q; have hB:=HD.out q (by omega)
         rw [HV.out] at hB
         clear s1 hn' hI
         have tok:True:=trivial
         cases hb:(bits BinOp.and IntKind.i64 ((kpD s-2)/2^q) 1 == 1)
         · have hodd:E/2^(16*s+q)%2=0:=by
            rw [hb] at hT
            have h2:¬ ((kpD s-2).toNat/2^q%2=1):=by simpa using hT.symm
            omega
           have HO:=show Hid _ from hodd; clear hT hodd hm2 ha2 hB
           go_wp2_with (have _t:=tok; refine wpList_store_mid rfl 23 _ _ rfl (w.heap.size+1+1) 0 (row .u8 32 (m1)).toArray rfl rfl (key_there (hn1)) (key_info' _) (all_oneCell_toArray (row_one _ _ _)) ?_; clear tok)
           go_roundw
           case rel=>exact ⟨q,(q:Int)-1,m1,by omega,rfl,rfl,HI.out.even l1 H1.out HO.out⟩
           case measure=>simp [intOf]
         · have hodd:E/2^(16*s+q)%2=1:=by
            rw [hb] at hT
            have h2:(kpD s-2).toNat/2^q%2=1:=by simpa using hT.symm
            omega
           have HO:=show Hid _ from hodd; clear hT hodd hB
           go_wp2_with (first | (have _t:=tok; refine wpList_store_mid rfl 23 _ _ rfl (w.heap.size+1+1) 0 (row .u8 32 (m1)).toArray rfl rfl (key_there (hn1)) (key_info' _) (all_oneCell_toArray (row_one _ _ _)) ?_; clear tok) | (refine wpList_load_mid rfl 23 _ rfl (w.heap.size+1+1) 0 rfl (row .u8 32 (m1)) _ (Has.range (hm2)) Tryz.underlying23 rfl (key_info _) ?_) | (refine wpList_load_mid rfl 23 _ rfl (w.heap.size) 0 rfl (row .u8 32 (a)) _ (Has.range (ha2)) Tryz.underlying23 rfl (key_info _) ?_))
           refine (krefMul_any m1 a i1 ha _).mono ?_; rintro e w2 ⟨m2,rfl,s2,l2⟩; have hn2:=hm2.below l2 (by rw [size_setAll]; have:=(HI.out.fr.call l1).size; omega); have H2:=show Hid _ from s2; clear s2 hm2 ha2 hn1
           have tok2:True:=trivial
           go_wp2_with (have _t:=tok2; refine wpList_store_mid rfl 23 _ _ rfl (w.heap.size+1+1) 0 (row .u8 32 (m2)).toArray rfl rfl (key_there (hn2)) (key_info' _) (all_oneCell_toArray (row_one _ _ _)) ?_; clear tok2)
           go_roundw
           case rel=>exact ⟨q,(q:Int)-1,m2,by omega,rfl,rfl,HI.out.odd l1 H1.out l2 H2.out HO.out⟩
           case measure=>simp [intOf]
       · obtain rfl:u=0:=by omega
         obtain rfl:z=-1:=by omega
         clear hz hlt hu; go_wp2
         go_roundw
         case rel=>exact ⟨s,(s:Int)-1,m,by omega,rfl,rfl,hI⟩
         case measure=>simp [intOf]
    · have e0:((s:Int) == 0)=false:=by simp; omega
      have HD:=show Hid _ from (fun q hq=>digit_of s q s16 hq); have HV:=show Hid _ from (show eD s=kpD s from by unfold eD; rw [if_neg hs]); clear hs
      go_wp2_with fail
      refine (refPrime_any s s16 _).mono ?_; rintro e w' ⟨rfl,rfl⟩
      have v1:0≤kpD s:=by omega
      have v2:kpD s<65536:=by omega
      go_wp2
      go_loopw [6] (fun i w'=>∃ (u:Nat) (z:Int) (m:Nat→Int),u≤16∧z=(u:Int)-1∧i=.int .i64 z∧IV a w (16*s+u) m w') (fun i _=>(intOf i+1).toNat)
      case atStart=>exact ⟨16,15,m0,by omega,by decide,rfl,hO⟩
      case round =>
       obtain ⟨u,z,m,hu,hz,rfl,hI⟩:=hrel
       clear hO
       by_cases hlt:0<u
       · obtain ⟨q,rfl⟩:∃ q,u=q+1:=⟨u-1,by omega⟩
         obtain rfl:z=(q:Int):=by omega
         have hn':=hI.hn
         have g3:(0:Int)≤(q:Int):=by omega
         have g4:(q:Int)<16:=by omega
         clear hz hlt
         go_wp2_with (refine wpList_load_mid rfl 23 _ rfl (w.heap.size+1+1) 0 rfl (row .u8 32 (m)) _ (Has.range (hn')) Tryz.underlying23 rfl (key_info _) ?_)
         refine (krefMul_any m m hI.inn hI.inn _).mono ?_; rintro e w1 ⟨m1,rfl,s1,l1⟩; have hn1:=hn'.call hI.fr l1 (by omega); have hm2:=Has.all hn1.there .u8 m1; have ha2:=(hI.ha.call hI.fr l1 (by omega)).setAll_other (w.heap.size+1+1) (by omega) 0 (row .u8 32 m1); have i1:=s1.1; have H1:=show Hid _ from s1; have HI:=show Hid _ from hI; have hT:=bit_test_i64 (kpD s) v1 v2 q
         have hB:=HD.out q (by omega)
         rw [HV.out] at hB
         clear s1 hn' hI
         have tok:True:=trivial
         cases hb:(bits BinOp.and IntKind.i64 ((kpD s)/2^q) 1 == 1)
         · have hodd:E/2^(16*s+q)%2=0:=by
            rw [hb] at hT
            have h2:¬ ((kpD s).toNat/2^q%2=1):=by simpa using hT.symm
            omega
           have HO:=show Hid _ from hodd; clear hT hodd hm2 ha2 hB
           go_wp2_with (have _t:=tok; refine wpList_store_mid rfl 23 _ _ rfl (w.heap.size+1+1) 0 (row .u8 32 (m1)).toArray rfl rfl (key_there (hn1)) (key_info' _) (all_oneCell_toArray (row_one _ _ _)) ?_; clear tok)
           go_roundw
           case rel=>exact ⟨q,(q:Int)-1,m1,by omega,rfl,rfl,HI.out.even l1 H1.out HO.out⟩
           case measure=>simp [intOf]
         · have hodd:E/2^(16*s+q)%2=1:=by
            rw [hb] at hT
            have h2:(kpD s).toNat/2^q%2=1:=by simpa using hT.symm
            omega
           have HO:=show Hid _ from hodd; clear hT hodd hB
           go_wp2_with (first | (have _t:=tok; refine wpList_store_mid rfl 23 _ _ rfl (w.heap.size+1+1) 0 (row .u8 32 (m1)).toArray rfl rfl (key_there (hn1)) (key_info' _) (all_oneCell_toArray (row_one _ _ _)) ?_; clear tok) | (refine wpList_load_mid rfl 23 _ rfl (w.heap.size+1+1) 0 rfl (row .u8 32 (m1)) _ (Has.range (hm2)) Tryz.underlying23 rfl (key_info _) ?_) | (refine wpList_load_mid rfl 23 _ rfl (w.heap.size) 0 rfl (row .u8 32 (a)) _ (Has.range (ha2)) Tryz.underlying23 rfl (key_info _) ?_))
           refine (krefMul_any m1 a i1 ha _).mono ?_; rintro e w2 ⟨m2,rfl,s2,l2⟩; have hn2:=hm2.below l2 (by rw [size_setAll]; have:=(HI.out.fr.call l1).size; omega); have H2:=show Hid _ from s2; clear s2 hm2 ha2 hn1
           have tok2:True:=trivial
           go_wp2_with (have _t:=tok2; refine wpList_store_mid rfl 23 _ _ rfl (w.heap.size+1+1) 0 (row .u8 32 (m2)).toArray rfl rfl (key_there (hn2)) (key_info' _) (all_oneCell_toArray (row_one _ _ _)) ?_; clear tok2)
           go_roundw
           case rel=>exact ⟨q,(q:Int)-1,m2,by omega,rfl,rfl,HI.out.odd l1 H1.out l2 H2.out HO.out⟩
           case measure=>simp [intOf]
       · obtain rfl:u=0:=by omega
         obtain rfl:z=-1:=by omega
         clear hz hlt hu; go_wp2
         go_roundw
         case rel=>exact ⟨s,(s:Int)-1,m,by omega,rfl,rfl,hI⟩
         case measure=>simp [intOf]
  · obtain rfl:t=0:=by omega
    obtain rfl:z=-1:=by omega
    have hn:=hO.hn
    have hz':=hO.hr
    have hE:In 256 32 m0∧val 256 m0 32=val 256 a 32^E%kQ:=⟨hO.inn,by have e:=hO.eq; rwa [Nat.mul_zero,Nat.pow_zero,Nat.div_one] at e⟩
    have HE:=show Hid _ from hE; have hL:=(hO.fr.setAll (w.heap.size+1) (by omega) (row .u8 32 m0)).below; clear hE hz hlt ht hO
    go_wp2_with (first | (refine wpList_load_mid rfl 23 _ rfl (w.heap.size+1+1) 0 rfl (row .u8 32 (m0)) _ (Has.range (hn)) Tryz.underlying23 rfl (key_info _) ?_) | (refine wpList_store_mid rfl 23 _ _ rfl (w.heap.size+1) 0 (row .u8 32 (m0)).toArray rfl rfl (key_there (hz')) (key_info' _) (all_oneCell_toArray (row_one _ _ _)) ?_))
    exact bodyPost_ret (v:=(.agg (row .u8 32 (m0)).toArray)) (results_row Tryz.results59 rfl (Has.all hz'.there .u8 m0).range Tryz.underlying23 rfl (key_info m0)) rfl ⟨m0,rfl,HE.out,hL⟩
end Go.Proofs.YtklnibmfpcmeeaaGreatDoor
