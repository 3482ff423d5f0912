/- Texts of Az Bb Bu Vl Bv Bt Jz Ja Jl Jb Jc, joined. -/
import Derived.Test.YtklnibmfpcmeeaaGreatDoorP7ShakeTries
import Derived.Lib.ConvBytes
set_option maxRecDepth 20000
set_option maxHeartbeats 64000000
namespace Go.Proofs.YtklnibmfpcmeeaaGreatDoor
open Go.RowKit
section
theorem zeros_row (k:IntKind) (m:Nat):Builtin.zeroCells (Value.int k 0).cells m=(row k m (fun _=>0)).toArray:=by
 refine Array.toList_inj.1 ?_
 unfold Builtin.zeroCells row
 simp [Value.cells,Nat.mod_one]
section
variable {P:Program}
theorem run_append_zeros {w:World} {base:Nat} {t u ty e:TypeId} {k:IntKind} {bytes n:Nat} {f:Nat→Int} {v:Value} (ht:P.underlying t=some (.slice e)) (hu:P.underlying u=some (.int .i64)) (he:One P e k bytes) (h:Own w base e k n f v)
 (m:Nat) (hm0:m<9223372036854775808) (h63:n+m≤maxLen) (hb:(n+m)*bytes≤140737488355328) (hbase:base≤w.heap.size) :
 ∃ v' w',(Builtin.append_ #[t,u] ty #[v,.int .i64 (m:Int)]).run P w=.ok v' w'∧Own w' base e k (n+m) (app f n (fun _=>0)) v'∧w.grownBy w' v.ownBlock∧(∀ g,v'.ownBlock=some g→v.ownBlock=some g∨g=w.heap.size):=by
 obtain ⟨i,hi,hq⟩:=Option.map_eq_some_iff.1 he.info
 simp only [Prod.mk.injEq] at hq
 obtain ⟨h1,h2,h3⟩:=hq
 have hw:IntKind.i64.wrap (m:Int)=(m:Int):=by rw [xw6]; omega
 have hasI:∀ w,(asInt (.int .i64 (m:Int))).run P w=.ok (m:Int) w:=fun w=>by simp [asInt,asIntOf]
 have hneg:¬ ((m:Int)<0):=by omega
 have hbm:m*bytes≤140737488355328:=xnT (Nat.mul_le_mul_right _ (Nat.le_add_left _ _)) hb
 have h48:¬ (281474976710656<(m:Int)*(bytes:Int)):=by
  have:((m*bytes:Nat):Int)≤140737488355328:=by omega
  rw [Int.natCast_mul] at this
  omega
 have hsmall:n+m≤9223372036854775807:=by simp only [maxLen] at h63; omega
 have h63':¬ (9223372036854775807<((n:Int)+(m:Int))):=by omega
 have hzc:Builtin.zeroCells (Value.int k 0).cells m=(row k m (fun _=>0)).toArray:=zeros_row k m
 have hlen:(row k n f++row k m (fun _=>0)).length=(n+m)*1:=by rw [List.length_append,row_length,row_length,Nat.mul_one]
 have hval:row k n f++row k m (fun _=>0)=row k (n+m) (app f n (fun _=>0)):=row_app k n m f _
 have grown:∀ (old:Nat),old<n+m→∀ (rw_:Option Nat),
  Own (w.drew.alloc (.cells ((row k n f).toArray++(row k m (fun _=>0)).toArray++Builtin.zeroCells (Value.int k 0).cells (grownCap w (n+m) old e-(n+m))) e)) base e k (n+m) (app f n (fun _=>0))
   (.slice (some ⟨w.heap.size,0,none⟩) (n+m) (grownCap w (n+m) old e)) ∧
  w.grownBy (w.drew.alloc (.cells ((row k n f).toArray++(row k m (fun _=>0)).toArray++Builtin.zeroCells (Value.int k 0).cells (grownCap w (n+m) old e-(n+m))) e)) rw_:=by
  intro old ho rw_; have hge:=grownCap_ge w (n+m) old e
  have hcm:grownCap w (n+m) old e≤maxLen:=grownCap_le_maxLen w (n+m) old e h63
  have hz1:(Value.int k 0).cells.size=1:=rfl
  unfold Own
  rw [← hval]
  refine ⟨⟨hlen,.inr ⟨w.heap.size,_,_,rfl,hbase,heap_alloc_new w.drew _,hge,hcm,?_,?_⟩⟩,⟨rfl,rfl,rfl,by simp,fun q hq _=>heap_alloc_old w.drew _ hq⟩⟩
  · simp only [Array.size_append,List.size_toArray,size_zeroCells,hz1,row_length]
    omega
  · simp only [Array.toList_append,List.append_assoc]
    rw [← List.append_assoc,← hlen]
    exact List.take_left
 rcases h.2 with ⟨rfl,rfl⟩ | ⟨g,cap,cur,rfl,hbg,hg,hnc,hcm,hcs,htake⟩
 · by_cases hm:m=0
   · subst hm
     refine ⟨.slice none 0 0,w,?_,h.congr (fun j hj=>by omega),⟨rfl,rfl,rfl,xnR _,fun _ _ _=>rfl⟩,fun g hg=>.inl hg⟩
     have hasI':∀ w,(asInt (.int .i64 0)).run P w=.ok 0 w:=hasI
     simp [Builtin.append_,run_underlying ht,run_underlying hu,sizeOf,typeInfo,zeroValue,hi,h1,h2,hasI',xw6]
   · have h48':¬ (281474976710656<Builtin.nextslicecap m 0*bytes):=by rw [nextslicecap_zero (by omega)]; omega
     have hgr:=grown 0 (by omega) (Value.ownBlock (.slice none 0 0))
     refine ⟨_,_,?_,hgr.1,hgr.2,fun g hg=>?_⟩
     · simp only [Nat.zero_add] at h63' ⊢
       simp [Builtin.append_,run_underlying ht,run_underlying hu,sizeOf,typeInfo,zeroValue,hi,h1,h2,h3,hasI,hw,hneg,h48,hm,hzc,h48',Question.forced,run_firstCells_none,newRow,grownCap,row]
       intro hh
       omega
     · injection hg with hg
       exact .inr hg.symm
 · by_cases hroom:n+m≤cap
   · have hst:=run_storeCells_at P g n e (row k m (fun _=>0)) 0 cur w hg (by rw [row_length,hcs]; omega) (row_one k m _)
     simp only [Nat.add_zero,row_length] at hst
     rw [Nat.mul_one] at htake hcs
     refine ⟨.slice (some ⟨g,0,none⟩) (n+m) cap,w.setRow g (cur.toList.take n++row k m (fun _=>0)++cur.toList.drop (n+m)).toArray,?_,?_,?_,fun g' hg'=>.inl hg'⟩
     · by_cases hm:m=0
       · subst hm
         have hasI':∀ w,(asInt (.int .i64 0)).run P w=.ok 0 w:=hasI
         have hst':(storeCells { block:=g,off:=n,spot:=none } []).run P w=_:=hst
         simp [Builtin.append_,run_underlying ht,run_underlying hu,sizeOf,typeInfo,zeroValue,hi,h1,h2,h3,hasI',xw6,hnc,Addr.add_lit,hst']
       · simp [Builtin.append_,run_underlying ht,run_underlying hu,sizeOf,typeInfo,zeroValue,hi,h1,h2,h3,hasI,hw,hneg,h48,hroom,hm,hzc,Addr.add_lit,hst]
     · unfold Own
       rw [← hval]
       refine ⟨hlen,.inr ⟨g,cap,_,rfl,hbg,setRow_heap w g cur _ e _ hg,hroom,hcm,?_,?_⟩⟩
       · simp only [List.size_toArray,List.length_append,List.length_take,List.length_drop,Array.length_toList,row_length]
         omega
       · rw [htake,← hlen]
         exact List.take_left
     · exact ⟨rfl,rfl,rfl,by simp,fun k _ hk=>setRow_other w g k _ (fun e=>hk (by simp [Value.ownBlock,e]))⟩
   · have hm:m≠0:=by omega
     have h48':¬ (281474976710656<Builtin.nextslicecap (n+m) cap*bytes):=by have:=growslice_fits (need:=n+m) (old:=cap) (by omega) hb; omega
     have hfo:=run_firstCells_some (P:=P) w.drew 1 n ⟨g,0,none⟩ n cap (row k n f) (by rw [row_length,Nat.mul_one]) (by simpa using World.ownsRow.cells h (g:=g) rfl); have hgr:=grown cap (by omega) (Value.ownBlock (.slice (some ⟨g,0,none⟩) n cap))
     refine ⟨_,_,?_,hgr.1,hgr.2,fun g hg=>?_⟩
     · simp [Builtin.append_,run_underlying ht,run_underlying hu,sizeOf,typeInfo,zeroValue,hi,h1,h2,h3,hasI,hw,hneg,h48,hroom,hm,hzc,h63',h48',Question.forced,hfo,newRow,grownCap]
       congr 2
       apply Array.ext'
       simp [List.append_assoc]
     · injection hg with hg
       exact .inr hg.symm
end
end
def bkk (kl:Nat) (key:Nat→Int):Nat→Int:=fun j=>if kl≤64 then (if j<kl then key j else 0) else if j<32 then bhash kl key j else 0
def bxx (c:Int) (k:Nat→Int):Nat→Int:=fun j=>bits .xor .u8 (k j) c
def bmac (kl:Nat) (key:Nat→Int) (len:Nat) (z:Nat→Int):Nat→Int:=bhash 96 (app (bxx 92 (bkk kl key)) 64 (bhash (64+len) (app (bxx 54 (bkk kl key)) 64 z)))
theorem bhash_in (len:Nat) (z:Nat→Int) (n:Nat):In 256 n (bhash len z):=bsum_in _ _ _ _ _ _
theorem bxx_in (c:Int) (hc:0≤c∧c<256) (k:Nat→Int) (n:Nat) (hk:In 256 n k):In 256 n (bxx c k):=fun j hj=>by
 unfold bxx
 obtain ⟨x,hx⟩:=xiN (hk j hj).1
 obtain ⟨y,rfl⟩:=xiN hc.1
 have h1:=(hk j hj).2
 rw [hx] at h1 ⊢
 have h:x ^^^ y<2^8:=Nat.xor_lt_two_pow (by omega) (by omega)
 rw [u8_xor_nat x y (by omega) (by omega)]
 omega
theorem app_in (n m:Nat) (f g:Nat→Int) (hf:In 256 n f) (hg:In 256 m g):In 256 (n+m) (app f n g):=fun j hj=>by
 unfold app
 split
 · exact hf j (by assumption)
 · exact hg _ (by omega)
theorem btx_congr (kl:Nat) (key key':Nat→Int) (len:Nat) (z y:Nat→Int) (hk:∀ j,j<kl→key j=key' j) (h:∀ j,j<len→z j=y j):btx kl key len z=btx kl key' len y:=by
 funext j
 unfold btx
 by_cases e:kl=0
 · rw [if_pos e,if_pos e]
   by_cases e1:j<len
   · rw [if_pos e1,if_pos e1,h j e1]
   · rw [if_neg e1,if_neg e1]
 · rw [if_neg e,if_neg e]
   by_cases e1:j<64
   · rw [if_pos e1,if_pos e1]
     by_cases e2:j<kl
     · rw [if_pos e2,if_pos e2,hk j e2]
     · rw [if_neg e2,if_neg e2]
   · rw [if_neg e1,if_neg e1]
     by_cases e2:j<64+len
     · rw [if_pos e2,if_pos e2,h _ (by omega)]
     · rw [if_neg e2,if_neg e2]
theorem bH_congr (kl:Nat) (key key':Nat→Int) (size len:Nat) (z y:Nat→Int) (hk:∀ j,j<kl→key j=key' j) (h:∀ j,j<len→z j=y j):∀ i,bH kl key size len z i=bH kl key' size len y i
 | 0=>rfl
 | i+1=>by
   unfold bH
   rw [bH_congr kl key key' size len z y hk h i,btx_congr kl key key' len z y hk h]
theorem bsum_congr (kl:Nat) (key key':Nat→Int) (size len:Nat) (z y:Nat→Int) (hk:∀ j,j<kl→key j=key' j) (h:∀ j,j<len→z j=y j):bsum kl key size len z=bsum kl key' size len y:=by
 funext j
 unfold bsum
 rw [bH_congr kl key key' size len z y hk h]
theorem bhash_congr (len:Nat) (z y:Nat→Int) (h:∀ j,j<len→z j=y j):bhash len z=bhash len y:=bsum_congr _ _ _ _ _ _ _ (fun _ _=>rfl) h
theorem b32_shift (x:Int) (e:Nat) (he:e<4):IntKind.u8.wrap (x/2^(8*e))=b32 x e:=by
 rw [IntKind.wrap_u8']
 match e,he with
 | 0,_=>show x/1%256=x%256; rw [Int.ediv_one]
 | 1,_=>rfl
 | 2,_=>rfl
 | 3,_=>rfl
theorem appendOp2 {P:Program} {o:Oper} {a:Act} {w w':World} (s x:Operand) (t u:TypeId) (v y r:Value) (ho:o.op=.call { callee:=.builtin .append,args:=#[s,x],argTypes:=#[t,u] }) (hs:a.eval s=v) (hx:a.eval x=y) (hr:(Builtin.append_ #[t,u] o.type #[v,y]).run P w=.ok r w') :
 (execOp a.eval o).run P w=.ok (.value r) w':=by
 unfold execOp
 simp only [ho,resolve,invoke,builtin,Sem.run_bind,Sem.run_pure,Result.andThen_ok,List.map_toArray,List.map_cons,List.map_nil,hs,hx,hr]
theorem wrapQ (n:Int) (h0:0≤n) (h:n<18446744073709551616):IntKind.u64.wrap n=n:=by
 simp [IntKind.wrap,IntKind.bits,IntKind.signed]
 omega
theorem btx_pad (kl:Nat) (key:Nat→Int) (len:Nat) (z:Nat→Int) (j:Nat) (h:btl kl len≤j):btx kl key len z j=0:=by
 unfold btl at h
 unfold btx
 by_cases e:kl=0
 · rw [if_pos e] at h ⊢
   rw [if_neg (by omega)]
 · rw [if_neg e] at h ⊢
   rw [if_neg (by omega),if_neg (by omega)]
theorem shr_min (x:Int) (e:Nat) (he:e<4):x/2^min (((8*e:Nat):Int)).toNat IntKind.u32.bits=x/2^(8*e):=by
 rw [Int.toNat_natCast,Nat.min_eq_left (by show 8*e≤32; omega)]
theorem refSum_good (kp:Option Addr) (kl kc:Nat) (key:Nat→Int) (hkl:kl≤32) (hkk:In 256 kl key) (hkn:kp=none→kc=0) (size:Nat) (hs1:1≤size) (hs2:size≤32) (sp:Option Addr) (len cap:Nat) (hlen:len≤140737488355072) (hn0:sp=none→cap=0) (z:Nat→Int) (hz:In 256 len z) (w:World) (hks:Src w kp kl key) (hs:Src w sp len z) :
 Calls Tryz.prog 97 #[.slice kp kl kc,.int .i64 (size:Int),.slice sp len cap] w fun e w'=>∃ sp' cap',e=.returned (.tuple #[.slice sp' size cap',.int .i64 0])∧(size≤cap'∧Src w' sp' size (bsum kl key size len z))∧Below w.heap.size w w':=by
 have h1:¬ (size:Int)<1:=by omega
 have h1':¬ (size:Int)≤0:=by omega
 have h2:¬ 32<(size:Int):=by omega
 have h2':¬ 33≤(size:Int):=by omega
 have h3:¬ (32:Int)<(kl:Int):=by omega
 have h3':¬ (33:Int)≤(kl:Int):=by omega
 have K:=Kr.init w
 go_enter Tryz.func97,Tryz.ntmps97
 go_upto_region 3 with fail; refine wp_region_list ?_; refine xcL (refStart_any _) ?_; rintro e w1 ⟨S,rfl,⟨hS1,hS2,HS⟩,l⟩; replace K:=(K.call l).own hS1 hS2 HS; clear l HS; refine xeL ?_; refine xpL (.slice (some ⟨S,0,none⟩) 8 8) ?_; show Exit.then _ _ _ _ _; go_upto_region 4 with fail; refine wp_region_list ?_; refine xpL (.slice (some ⟨S,0,none⟩) 8 8) ?_
 refine xpL (.slice (some ⟨S,0,none⟩) 8 8) ?_; refine xqL (.pointer (some ⟨S,0,none⟩)) (fun w'=>idxW S 8 8 0 (by decide) w' _ _ rfl rfl rfl) ?_; refine cellL .u32 (.int .u32 (iv 0)) S 0 122 _ rfl rfl rfl Tryz.underlying122 ((K.get _ _ _ _ mS).cell 0 (by decide)) ?_; simp only [aP,lI,l0,lS]
 refine xqL (.int .u32 (hxr (iv 0) 16842752)) (fun w=>xorI .u32 _ _ _ _ _ _ _ rfl rfl rfl rfl w) ?_; refine xpL (.slice kp kl kc) ?_; refine xqL (.int .i64 (kl:Int)) (fun w=>lenS _ 32 5 kp kl kc rfl Tryz.underlying32 rfl w) ?_; refine xqL (.int .i64 (256*(kl:Int))) (fun w=>mulI .i64 _ _ _ _ _ _ _ rfl rfl rfl (by rw [xw6]; omega) w) ?_
 refine xqL (.int .u32 (256*(kl:Int))) (fun w=>convI .i64 .u32 _ _ _ _ _ rfl (by kernel_rfl) Tryz.underlying122 (by kernel_rfl) rfl (by rw [IntKind.wrap_u32']; omega) w) ?_; refine xqL (.int .u32 (hxr (hxr (iv 0) 16842752) (256*(kl:Int)))) (fun w=>xorI .u32 _ _ _ _ _ _ _ rfl rfl rfl rfl w) ?_; refine xpL (.int .i64 (size:Int)) ?_
 refine xqL (.int .u32 (size:Int)) (fun w=>convI .i64 .u32 _ _ _ _ _ rfl (by kernel_rfl) Tryz.underlying122 (by kernel_rfl) rfl (by rw [IntKind.wrap_u32']; omega) w) ?_; refine xqL (.int .u32 (hxr (hxr (hxr (iv 0) 16842752) (256*(kl:Int))) (size:Int))) (fun w=>xorI .u32 _ _ _ _ _ _ _ rfl rfl rfl rfl w) ?_
 refine xqL (.pointer (some ⟨S,0,none⟩)) (fun w'=>idxW S 8 8 0 (by decide) w' _ _ rfl rfl rfl) ?_
 refine storeL .u32 (hxr (hxr (hxr (iv 0) 16842752) (256*(kl:Int))) (size:Int)) S 0 122 _ _ rfl rfl rfl rfl (by rw [(K.get _ _ _ _ mS).cell 0 (by decide)]; rfl) ((K.get _ _ _ _ mS).free 0 (by decide)) (by kernel_rfl) ?_
 simp only [Act.put]
 replace K:Kr w w1.heap.size [(S,.u32,8,bh0 kl size)] [] (w1.setCell ⟨S,0,none⟩ (.int .u32 (hxr (hxr (hxr (iv 0) 16842752) (256*(kl:Int))) (size:Int)))):=K.setCell [] S .u32 8 iv 0 (by decide) (hxr (hxr (hxr (iv 0) 16842752) (256*(kl:Int))) (size:Int)) mS (fun _ hp=>by cases hp) (fun _ hp=>by cases hp) hS1
 generalize w1.setCell ⟨S,0,none⟩ (.int .u32 (hxr (hxr (hxr (iv 0) 16842752) (256*(kl:Int))) (size:Int)))=w2 at K ⊢; show Exit.then _ _ _ _ _; go_upto_region 5 with fail; refine wp_region_list ?_; refine actL (w':=w2.alloc (.cells #[] 5)) (.slice (some ⟨w2.heap.size,0,none⟩) 0 0) rfl (by kernel_rfl) ?_; simp only [aP,lI,l0,lS]
 refine xpL (.slice (some ⟨w2.heap.size,0,none⟩) 0 0) ?_
 have HT:Own (w2.alloc (.cells #[] 5)) w1.heap.size 5 .u8 0 (btx kl key len z) (.slice (some ⟨w2.heap.size,0,none⟩) 0 0):=Own.lit w2 w1.heap.size 5 .u8 0 (btx kl key len z) K.size (by unfold maxLen; omega)
 replace K:=K.call ((Below.refl w2.heap.size w2).alloc (xnR _) (.cells #[] 5)); generalize w2.alloc (.cells #[] 5)=w3 at K HT ⊢; generalize Value.slice (some ⟨w2.heap.size,0,none⟩) 0 0=tv at HT ⊢; generalize w1.heap.size=B at K HT hS2; show Exit.then _ _ _ _ _
 by_cases hk0:kl=0
 · obtain rfl:kl=0:=hk0
   have hk0:(0:Nat)=0:=rfl
   by_cases hl0:len=0
   · obtain rfl:len=0:=hl0
     obtain ⟨ts,tc,rfl,_,_⟩:=HT.bytes
     go_upto_region 8 with fail; refine wp_region_list ?_; refine xpL (.slice ts 0 tc) ?_; refine xpL (.slice sp 0 cap) ?_
     obtain ⟨v,w4,hr,ho,hg,_⟩:=run_append_Own (P:=Tryz.prog) (ty:=32) Tryz.underlying32 one8 HT sp 0 cap z (hs.below K.below (xnR _)) hn0 (by unfold maxLen; omega) (by omega) K.size
     replace K:=K.grown hg (fun b hb=>(World.ownsRow.lt HT b hb).1); refine xaL v (appendOp _ _ 32 _ _ _ rfl rfl rfl hr) ?_; refine xpL v ?_
     replace HT:Own w4 B 5 .u8 (btl 0 0) (btx 0 key 0 z) v:=by
      have e:0+0=btl 0 0:=by unfold btl; rw [if_pos hk0]
      rw [← e]
      exact ho.congr fun j hj=>absurd hj (xnZ j)
     clear hr ho hg
     obtain ⟨ts,tc,rfl,_,_⟩:=HT.bytes
     show Exit.then _ _ _ _ _; go_upto_region 9 with fail; refine wp_region_list ?_; refine xpL (.slice ts (btl 0 0) tc) ?_; refine xqL (.int .i64 0) (fun w=>lenS _ 32 5 ts (btl 0 0) tc rfl Tryz.underlying32 rfl w) ?_; refine xpL (.int .i64 0) ?_; generalize Value.slice ts (btl 0 0) tc=tv at HT ⊢; show Exit.then _ _ _ _ _
     replace HT:Own w4 B 5 .u8 0 (btx 0 key 0 z) tv:=HT
     go_wp2
     go_loopw [9] (fun tw w'=>∃ (n:Nat) (v:Value),v=tw∧n<64∧Own w' B 5 .u8 n (btx 0 key 0 z) v∧Kr w B [(S,.u32,8,bh0 0 size)] [] w') (fun tw _=>64-slen tw)
     case atStart=>exact ⟨0,_,rfl,by omega,HT,K⟩
     case round =>
      clear K HT
      obtain ⟨n,v,rfl,hn1,HT,K⟩:=hrel
      obtain ⟨ts,tc,rfl,_,_⟩:=HT.bytes
      have hpz:btl 0 0≤n:=Nat.zero_le n
      go_upto_region 11 with fail; refine wp_region_list ?_; refine xpL (.slice ts n tc) ?_; refine actL (w':=wr.alloc (.cells #[.int .u8 0] 5)) (.slice (some ⟨wr.heap.size,0,none⟩) 1 1) rfl (by kernel_rfl) ?_; simp only [aP,lI,l0,lS]
      obtain ⟨v,w5,hr,ho,hg⟩:=HT.more8 (by omega) 0 (btx_pad 0 key 0 z n hpz) 32 K.size
      replace K:=(K.call ((Below.refl wr.heap.size wr).alloc (xnR _) (.cells #[.int .u8 0] 5))).grown hg (fun b hb=>(World.ownsRow.lt HT b hb).1); refine xaL v (appendOp _ _ 32 _ _ _ rfl rfl rfl hr) ?_; refine xpL v ?_; show Exit.then _ _ _ _ _
      obtain ⟨ts2,tc2,rfl,_,_⟩:=ho.bytes
      replace HT:=ho; clear hr ho hg hpz
      by_cases hm:n+1=64
      · obtain rfl:n=63:=by omega
        clear hm hn1
        replace HT:Own w5 B 5 .u8 64 (btx 0 key 0 z) (.slice ts2 64 tc2):=HT
        obtain ⟨_,_,hve,htcap,hsrc⟩:=HT.bytes
        injection hve with hve1 _ hve3
        subst hve1 hve3
        have hN1:64≤64*bnb 0 0:=by decide
        have hN2:64*bnb 0 0≤64:=by decide
        have hbt2:btl 0 0≤0:=by decide
        have hA:=K.get _ _ _ _ mS; have hAl:=xnL (K.rows _ mS).2 K.size; have hB:=K.below; clear K HT; go_wp2
        go_loopw [8,11] (fun hw i w'=>∃ (p A capA:Nat),p≤bnb 0 0∧i=.int .i64 (64*(p:Int))∧hw=.slice (some ⟨A,0,none⟩) 8 capA∧Has w' A .u32 8 (bH 0 key size 0 z p)∧A<w'.heap.size∧Src w' ts2 64 (btx 0 key 0 z)∧Below w.heap.size w w') (fun _ i _=>64-(intOf i).toNat)
        case atStart=>exact ⟨0,S,8,by omega,rfl,rfl,hA,hAl,hsrc,hB⟩
        case round =>
         clear hA hAl hsrc hB
         obtain ⟨p,A,capA,hp,rfl,rfl,hA,hAl,hsrc,hB⟩:=hrel
         have g1:(0:Int)≤64*(p:Int):=by omega
         by_cases hlt:p<bnb 0 0
         · have g2:64*(p:Int)<64:=by omega
           obtain ⟨D,hD⟩:∃ D:Nat,D=min (64*p+64) (btl 0 0):=⟨_,rfl⟩
           have hm:(if (0:Int)<64*(p:Int)+64 then (0:Int) else 64*(p:Int)+64)=(D:Int):=by rw [hD]; split <;> omega
           obtain ⟨sq,hq1,hq2⟩:=cut_lh (P:=Tryz.prog) (t:=32) (by kernel_rfl) (fun _=>by kernel_rfl) ts2 64 tc2 (64*p) (64*p+64) (by omega) (by omega) htcap
           have hpc:64*p+64-64*p=64:=by omega
           rw [hpc] at hq1 hq2
           have ec:((64*p:Nat):Int)=64*(p:Int):=by omega
           have ec2:((64*p+64:Nat):Int)=64*(p:Int)+64:=by omega
           rw [ec,ec2] at hq1
           have hla:(64*(p:Int)+64 == 64)=decide (p+1=bnb 0 0):=by
            by_cases e:p+1=bnb 0 0
            · rw [decide_eq_true e]; simp; omega
            · rw [decide_eq_false e]; simp; omega
           go_upto_region 16 with fail; refine wp_region_list ?_; refine xpL (.int .i64 (64*(p:Int))) ?_; refine xqL (.int .i64 (64*(p:Int)+64)) (fun w=>addI .i64 _ _ _ _ _ _ _ rfl rfl rfl (by rw [xw6]; omega) w) ?_; refine xpL (.int .i64 0) ?_; refine xqL (.int .i64 (D:Int)) (fun w=>minI .i64 .i64 _ _ _ _ _ _ _ rfl rfl rfl hm w) ?_; refine xpL (.int .i64 (D:Int)) ?_
           show Exit.then _ _ _ _ _; go_upto_region 17 with fail; refine wp_region_list ?_; refine xpL (.slice (some ⟨A,0,none⟩) 8 capA) ?_; refine xpL (.slice ts2 64 tc2) ?_; refine xpL (.int .i64 (64*(p:Int))) ?_; refine xpL (.int .i64 (64*(p:Int))) ?_; refine xqL (.int .i64 (64*(p:Int)+64)) (fun w=>addI .i64 _ _ _ _ _ _ _ rfl rfl rfl (by rw [xw6]; omega) w) ?_
           refine xqL (.slice sq 64 (tc2-64*p)) (fun w=>cutLHop _ _ _ _ _ _ _ _ rfl rfl rfl rfl (hq1 w)) ?_; refine xpL (.int .i64 (D:Int)) ?_; refine xqL (.int .u64 (D:Int)) (fun w=>convI .i64 .u64 _ _ _ _ _ rfl (by kernel_rfl) Tryz.underlying58 (by kernel_rfl) rfl (wrapQ _ (by omega) (by omega)) w) ?_; refine xpL (.int .i64 (64*(p:Int))) ?_
           refine xqL (.int .i64 (64*(p:Int)+64)) (fun w=>addI .i64 _ _ _ _ _ _ _ rfl rfl rfl (by rw [xw6]; omega) w) ?_; refine xpL (.slice ts2 64 tc2) ?_; refine xqL (.int .i64 64) (fun w=>lenS _ 32 5 ts2 64 tc2 rfl Tryz.underlying32 rfl w) ?_; refine xqL (.bool (decide (p+1=bnb 0 0))) (fun w=>eqlI .i64 _ _ _ _ _ _ rfl rfl rfl _ hla w) ?_
           refine xcL (refPress_any (bH 0 key size 0 z p) (bH_in 0 key size 0 z hkl hs2 p) A capA sq (tc2-64*p) (fun j=>(btx 0 key 0 z) (64*p+j)) (fun j _=>btx_in 0 key 0 z hkk hz _) (D:Int) (by omega) (decide (p+1=bnb 0 0)) _ hA hAl (hq2 _ _ hsrc)) ?_; rintro e w7 ⟨O,cap2,rfl,⟨hO1,hO2,HO⟩,l⟩; replace hsrc:=hsrc.below l (xnR _); replace hB:=hB.trans (l.mono hB.size)
           refine xeL ?_; refine xpL (.slice (some ⟨O,0,none⟩) 8 cap2) ?_
           show Exit.inBlock _ _ _ _ _
           rw [hD] at HO
           have HS:=show Hid _ from (And.intro (show Has w7 O .u32 8 (bH 0 key size 0 z (p+1)) from HO) (And.intro hO2 (And.intro hsrc hB))); clear HO hsrc hB hA hAl hm hq1 hq2 hpc ec ec2 hla hD l; go_wp2
           go_roundw
           case rel=>first | exact ⟨p+1,O,cap2,by omega,by go_num,rfl,HS.out⟩ | ((repeat apply Exists.intro); refine ⟨⟨p+1,O,cap2,by omega,by go_num,rfl,HS.out⟩,rfl⟩)
           case measure=>simp [intOf]; omega
         · obtain rfl:p=bnb 0 0:=by omega
           have K:Kr w wr.heap.size [(A,.u32,8,bH 0 key size 0 z (bnb 0 0))] [] wr:=⟨fun p hp=>by obtain rfl:=xm1 hp; exact ⟨hA,hAl⟩,fun _ h=>(by cases h),fun _ _ _ h=>(by cases h),xnR _,hB.size,hB⟩
           have hbs:∀ n,b32 (bH 0 key size 0 z (bnb 0 0) (n/4)) (n%4)=bsum 0 key size 0 z n:=fun _=>rfl
           clear hA hAl hsrc hB; generalize bH 0 key size 0 z (bnb 0 0)=F at K hbs; generalize hG:bsum 0 key size 0 z=G at hbs; replace hG:=show Hid _ from hG; go_upto_region 18 with fail; refine wp_region_list ?_; refine actL (w':=wr.alloc (.cells #[] 5)) (.slice (some ⟨wr.heap.size,0,none⟩) 0 0) rfl (by kernel_rfl) ?_; simp only [aP,lI,l0,lS]
           refine xpL (.slice (some ⟨wr.heap.size,0,none⟩) 0 0) ?_
           have HO:Own (wr.alloc (.cells #[] 5)) wr.heap.size 5 .u8 0 G (.slice (some ⟨wr.heap.size,0,none⟩) 0 0):=Own.lit wr wr.heap.size 5 .u8 0 G (xnR _) (by unfold maxLen; omega)
           replace K:=K.call ((Below.refl wr.heap.size wr).alloc (xnR _) (.cells #[] 5)); generalize wr.alloc (.cells #[] 5)=w8 at K HO ⊢; generalize Value.slice (some ⟨wr.heap.size,0,none⟩) 0 0=ov0 at HO ⊢; generalize wr.heap.size=B2 at K HO; show Exit.then _ _ _ _ _; go_wp2
           go_loopw [13,14] (fun ow i w'=>∃ (n:Nat) (ov:Value),n≤size∧i=.int .i64 (n:Int)∧ov=ow∧Own w' B2 5 .u8 n G ov∧Kr w B2 [(A,.u32,8,F)] [] w') (fun _ i _=>size-(intOf i).toNat)
           case atStart=>exact ⟨0,_,by omega,rfl,rfl,HO,K⟩
           case round =>
            clear K HO
            obtain ⟨n,ov,hn,rfl,rfl,HO,K⟩:=hrel
            have g3:(0:Int)≤(n:Int):=by omega
            by_cases hlt2:n<size
            · have g4:(n:Int)<(size:Int):=by omega
              go_upto_region 22 with fail; refine wp_region_list ?_; refine xpL ov ?_; refine xpL (.slice (some ⟨A,0,none⟩) 8 capA) ?_; refine xpL (.int .i64 (n:Int)) ?_; refine xqL (.int .i64 ((n/4:Nat):Int)) (fun w=>quoI .i64 _ _ _ _ _ _ _ rfl rfl rfl (by decide) (by rw [Int.tdiv_eq_ediv_of_nonneg g3,xw6]; omega) w) ?_
              refine xqL (.pointer (some ⟨A,n/4,none⟩)) (fun w'=>idxW A 8 capA (n/4) (by omega) w' _ _ rfl rfl rfl) ?_; refine cellL .u32 (.int .u32 (F (n/4))) A (n/4) 122 _ rfl rfl rfl Tryz.underlying122 ((K.get _ _ _ _ mS).cell (n/4) (by omega)) ?_; simp only [aP,lI,l0,lS]; refine xpL (.int .i64 (n:Int)) ?_
              refine xqL (.int .i64 ((n%4:Nat):Int)) (fun w=>remI .i64 _ _ _ _ _ _ _ rfl rfl rfl (by decide) (by rw [Int.tmod_eq_emod_of_nonneg g3]; omega) w) ?_; refine xqL (.int .i64 ((8*(n%4):Nat):Int)) (fun w=>mulI .i64 _ _ _ _ _ _ _ rfl rfl rfl (by rw [xw6]; omega) w) ?_
              refine xqL (.int .u32 (F (n/4)/2^(8*(n%4)))) (fun w=>shrI .u32 .i64 _ _ _ _ _ _ _ rfl rfl rfl (by omega) (shr_min _ _ (Nat.mod_lt _ (by decide))) w) ?_; refine xqL (.int .u8 (G n)) (fun w=>convI .u32 .u8 _ _ _ _ _ rfl (by kernel_rfl) Tryz.underlying5 (by kernel_rfl) rfl ((b32_shift _ _ (Nat.mod_lt _ (by decide))).trans (hbs n)) w) ?_
              refine actL (w':=wr.alloc (.cells #[.int .u8 (G n)] 5)) (.slice (some ⟨wr.heap.size,0,none⟩) 1 1) rfl (by kernel_rfl) ?_; simp only [aP,lI,l0,lS]
              obtain ⟨v,w9,hr,ho,hg⟩:=HO.more8 (by omega) (G n) rfl 32 K.size
              replace K:=(K.call ((Below.refl wr.heap.size wr).alloc (xnR _) (.cells #[.int .u8 (G n)] 5))).grown hg (fun b hb=>(World.ownsRow.lt HO b hb).1); refine xaL v (appendOp _ _ 32 _ _ _ rfl rfl rfl hr) ?_; refine xpL v ?_
              show Exit.inBlock _ _ _ _ _
              have HS:=show Hid _ from (And.intro ho K); clear K HO hr ho hg; go_wp2
              go_roundw
              case rel=>first | exact ⟨n+1,v,by omega,by go_num,rfl,HS.out⟩ | ((repeat apply Exists.intro); refine ⟨⟨n+1,v,by omega,by go_num,rfl,HS.out⟩,rfl⟩)
              case measure=>simp [intOf]; omega
            · obtain rfl:n=size:=by omega
              obtain ⟨sp2,cap2,rfl,hc2,hsr2⟩:=HO.bytes
              have hB:=K.below; clear K HO hlt2 hn g3; go_wp2; go_ret2
              exact ⟨sp2,cap2,rfl,⟨hc2,by rw [hG.out]; exact hsr2⟩,hB⟩
      · have hm1:¬ ((n+1:Nat):Int)=64:=by omega
        have hm2:¬ ((n:Int)+1)=64:=by omega
        have hm3:¬ (n:Int)=63:=by omega
        have HS:=show Hid _ from (And.intro HT K); clear HT K; go_wp2
        go_roundw
        case rel=>first | exact ⟨n+1,_,rfl,by omega,HS.out⟩ | ((repeat apply Exists.intro); refine ⟨⟨n+1,_,rfl,by omega,HS.out⟩,rfl⟩)
        case measure=>simp [slen]; omega
   · obtain ⟨ts,tc,rfl,_,_⟩:=HT.bytes
     go_upto_region 8 with fail; refine wp_region_list ?_; refine xpL (.slice ts 0 tc) ?_; refine xpL (.slice sp len cap) ?_
     obtain ⟨v,w4,hr,ho,hg,_⟩:=run_append_Own (P:=Tryz.prog) (ty:=32) Tryz.underlying32 one8 HT sp len cap z (hs.below K.below (xnR _)) hn0 (by unfold maxLen; omega) (by omega) K.size
     replace K:=K.grown hg (fun b hb=>(World.ownsRow.lt HT b hb).1); refine xaL v (appendOp _ _ 32 _ _ _ rfl rfl rfl hr) ?_; refine xpL v ?_
     replace HT:Own w4 B 5 .u8 (btl 0 len) (btx 0 key len z) v:=by
      have e:0+len=btl 0 len:=by unfold btl; rw [if_pos hk0]
      rw [← e]
      refine ho.congr fun j hj=>?_
      unfold app btx
      rw [if_neg (by omega),if_pos hk0,if_pos (by omega),Nat.sub_zero]
     clear hr ho hg
     obtain ⟨ts,tc,rfl,_,_⟩:=HT.bytes
     show Exit.then _ _ _ _ _; go_upto_region 9 with fail; refine wp_region_list ?_; refine xpL (.slice ts (btl 0 len) tc) ?_; refine xqL (.int .i64 ((btl 0 len:Nat):Int)) (fun w=>lenS _ 32 5 ts (btl 0 len) tc rfl Tryz.underlying32 rfl w) ?_; refine xpL (.int .i64 ((btl 0 len:Nat):Int)) ?_; generalize Value.slice ts (btl 0 len) tc=tv at HT ⊢; show Exit.then _ _ _ _ _
     have hbt:0<btl 0 len:=by unfold btl; rw [if_pos hk0]; omega
     have hbt2:btl 0 len≤140737488355072:=by unfold btl; rw [if_pos hk0]; omega
     have hT1:¬ ((btl 0 len:Nat):Int)=0:=by omega
     have hTb:btl 0 len≤64*bnb 0 len∧64*bnb 0 len≤btl 0 len+63:=by unfold bnb; rw [if_neg (by omega)]; omega
     go_wp2
     go_loopw [9] (fun tw w'=>∃ (n:Nat) (v:Value),v=tw∧btl 0 len≤n∧n≤64*bnb 0 len∧Own w' B 5 .u8 n (btx 0 key len z) v∧Kr w B [(S,.u32,8,bh0 0 size)] [] w') (fun tw _=>64*bnb 0 len-slen tw)
     case atStart=>exact ⟨_,_,rfl,xnR _,hTb.1,HT,K⟩
     case round =>
      clear K HT
      obtain ⟨NP,v,rfl,hn1,hn2,HT,K⟩:=hrel
      obtain ⟨ts,tc,rfl,_,_⟩:=HT.bytes
      by_cases hm:NP%64=0
      · have hm1:¬ 0<(NP:Int)%64:=by omega
        have hm2:(NP:Int)%64=0:=by omega
        have hm3:(NP:Int).tmod 64=0:=by rw [Int.tmod_eq_emod_of_nonneg (by omega)]; omega
        have hN1:NP≤64*bnb 0 len:=hn2
        have hN2:64*bnb 0 len≤NP:=by omega
        obtain ⟨_,_,hve,htcap,hsrc⟩:=HT.bytes
        injection hve with hve1 _ hve3
        subst hve1 hve3
        have hA:=K.get _ _ _ _ mS; have hAl:=xnL (K.rows _ mS).2 K.size; have hB:=K.below; clear K HT; go_wp2
        go_loopw [8,11] (fun hw i w'=>∃ (p A capA:Nat),p≤bnb 0 len∧i=.int .i64 (64*(p:Int))∧hw=.slice (some ⟨A,0,none⟩) 8 capA∧Has w' A .u32 8 (bH 0 key size len z p)∧A<w'.heap.size∧Src w' ts NP (btx 0 key len z)∧Below w.heap.size w w') (fun _ i _=>NP-(intOf i).toNat)
        case atStart=>exact ⟨0,S,8,by omega,rfl,rfl,hA,hAl,hsrc,hB⟩
        case round =>
         clear hA hAl hsrc hB
         obtain ⟨p,A,capA,hp,rfl,rfl,hA,hAl,hsrc,hB⟩:=hrel
         have g1:(0:Int)≤64*(p:Int):=by omega
         by_cases hlt:p<bnb 0 len
         · have g2:64*(p:Int)<(NP:Int):=by omega
           obtain ⟨D,hD⟩:∃ D:Nat,D=min (64*p+64) (btl 0 len):=⟨_,rfl⟩
           have hm:(if (((btl 0 len:Nat):Int):Int)<64*(p:Int)+64 then (((btl 0 len:Nat):Int):Int) else 64*(p:Int)+64)=(D:Int):=by rw [hD]; split <;> omega
           obtain ⟨sq,hq1,hq2⟩:=cut_lh (P:=Tryz.prog) (t:=32) (by kernel_rfl) (fun _=>by kernel_rfl) ts NP tc (64*p) (64*p+64) (by omega) (by omega) htcap
           have hpc:64*p+64-64*p=64:=by omega
           rw [hpc] at hq1 hq2
           have ec:((64*p:Nat):Int)=64*(p:Int):=by omega
           have ec2:((64*p+64:Nat):Int)=64*(p:Int)+64:=by omega
           rw [ec,ec2] at hq1
           have hla:(64*(p:Int)+64 == (NP:Int))=decide (p+1=bnb 0 len):=by
            by_cases e:p+1=bnb 0 len
            · rw [decide_eq_true e]; simp; omega
            · rw [decide_eq_false e]; simp; omega
           go_upto_region 16 with fail; refine wp_region_list ?_; refine xpL (.int .i64 (64*(p:Int))) ?_; refine xqL (.int .i64 (64*(p:Int)+64)) (fun w=>addI .i64 _ _ _ _ _ _ _ rfl rfl rfl (by rw [xw6]; omega) w) ?_; refine xpL (.int .i64 ((btl 0 len:Nat):Int)) ?_; refine xqL (.int .i64 (D:Int)) (fun w=>minI .i64 .i64 _ _ _ _ _ _ _ rfl rfl rfl hm w) ?_
           refine xpL (.int .i64 (D:Int)) ?_; show Exit.then _ _ _ _ _; go_upto_region 17 with fail; refine wp_region_list ?_; refine xpL (.slice (some ⟨A,0,none⟩) 8 capA) ?_; refine xpL (.slice ts NP tc) ?_; refine xpL (.int .i64 (64*(p:Int))) ?_; refine xpL (.int .i64 (64*(p:Int))) ?_
           refine xqL (.int .i64 (64*(p:Int)+64)) (fun w=>addI .i64 _ _ _ _ _ _ _ rfl rfl rfl (by rw [xw6]; omega) w) ?_; refine xqL (.slice sq 64 (tc-64*p)) (fun w=>cutLHop _ _ _ _ _ _ _ _ rfl rfl rfl rfl (hq1 w)) ?_; refine xpL (.int .i64 (D:Int)) ?_
           refine xqL (.int .u64 (D:Int)) (fun w=>convI .i64 .u64 _ _ _ _ _ rfl (by kernel_rfl) Tryz.underlying58 (by kernel_rfl) rfl (wrapQ _ (by omega) (by omega)) w) ?_; refine xpL (.int .i64 (64*(p:Int))) ?_; refine xqL (.int .i64 (64*(p:Int)+64)) (fun w=>addI .i64 _ _ _ _ _ _ _ rfl rfl rfl (by rw [xw6]; omega) w) ?_; refine xpL (.slice ts NP tc) ?_
           refine xqL (.int .i64 (NP:Int)) (fun w=>lenS _ 32 5 ts NP tc rfl Tryz.underlying32 rfl w) ?_; refine xqL (.bool (decide (p+1=bnb 0 len))) (fun w=>eqlI .i64 _ _ _ _ _ _ rfl rfl rfl _ hla w) ?_
           refine xcL (refPress_any (bH 0 key size len z p) (bH_in 0 key size len z hkl hs2 p) A capA sq (tc-64*p) (fun j=>(btx 0 key len z) (64*p+j)) (fun j _=>btx_in 0 key len z hkk hz _) (D:Int) (by omega) (decide (p+1=bnb 0 len)) _ hA hAl (hq2 _ _ hsrc)) ?_; rintro e w7 ⟨O,cap2,rfl,⟨hO1,hO2,HO⟩,l⟩; replace hsrc:=hsrc.below l (xnR _)
           replace hB:=hB.trans (l.mono hB.size); refine xeL ?_; refine xpL (.slice (some ⟨O,0,none⟩) 8 cap2) ?_
           show Exit.inBlock _ _ _ _ _
           rw [hD] at HO
           have HS:=show Hid _ from (And.intro (show Has w7 O .u32 8 (bH 0 key size len z (p+1)) from HO) (And.intro hO2 (And.intro hsrc hB))); clear HO hsrc hB hA hAl hm hq1 hq2 hpc ec ec2 hla hD l; go_wp2
           go_roundw
           case rel=>first | exact ⟨p+1,O,cap2,by omega,by go_num,rfl,HS.out⟩ | ((repeat apply Exists.intro); refine ⟨⟨p+1,O,cap2,by omega,by go_num,rfl,HS.out⟩,rfl⟩)
           case measure=>simp [intOf]; omega
         · obtain rfl:p=bnb 0 len:=by omega
           have K:Kr w wr.heap.size [(A,.u32,8,bH 0 key size len z (bnb 0 len))] [] wr:=⟨fun p hp=>by obtain rfl:=xm1 hp; exact ⟨hA,hAl⟩,fun _ h=>(by cases h),fun _ _ _ h=>(by cases h),xnR _,hB.size,hB⟩
           have hbs:∀ n,b32 (bH 0 key size len z (bnb 0 len) (n/4)) (n%4)=bsum 0 key size len z n:=fun _=>rfl
           clear hA hAl hsrc hB; generalize bH 0 key size len z (bnb 0 len)=F at K hbs; generalize hG:bsum 0 key size len z=G at hbs; replace hG:=show Hid _ from hG; go_upto_region 18 with fail; refine wp_region_list ?_; refine actL (w':=wr.alloc (.cells #[] 5)) (.slice (some ⟨wr.heap.size,0,none⟩) 0 0) rfl (by kernel_rfl) ?_; simp only [aP,lI,l0,lS]
           refine xpL (.slice (some ⟨wr.heap.size,0,none⟩) 0 0) ?_
           have HO:Own (wr.alloc (.cells #[] 5)) wr.heap.size 5 .u8 0 G (.slice (some ⟨wr.heap.size,0,none⟩) 0 0):=Own.lit wr wr.heap.size 5 .u8 0 G (xnR _) (by unfold maxLen; omega)
           replace K:=K.call ((Below.refl wr.heap.size wr).alloc (xnR _) (.cells #[] 5)); generalize wr.alloc (.cells #[] 5)=w8 at K HO ⊢; generalize Value.slice (some ⟨wr.heap.size,0,none⟩) 0 0=ov0 at HO ⊢; generalize wr.heap.size=B2 at K HO; show Exit.then _ _ _ _ _; go_wp2
           go_loopw [13,14] (fun ow i w'=>∃ (n:Nat) (ov:Value),n≤size∧i=.int .i64 (n:Int)∧ov=ow∧Own w' B2 5 .u8 n G ov∧Kr w B2 [(A,.u32,8,F)] [] w') (fun _ i _=>size-(intOf i).toNat)
           case atStart=>exact ⟨0,_,by omega,rfl,rfl,HO,K⟩
           case round =>
            clear K HO
            obtain ⟨n,ov,hn,rfl,rfl,HO,K⟩:=hrel
            have g3:(0:Int)≤(n:Int):=by omega
            by_cases hlt2:n<size
            · have g4:(n:Int)<(size:Int):=by omega
              go_upto_region 22 with fail; refine wp_region_list ?_; refine xpL ov ?_; refine xpL (.slice (some ⟨A,0,none⟩) 8 capA) ?_; refine xpL (.int .i64 (n:Int)) ?_; refine xqL (.int .i64 ((n/4:Nat):Int)) (fun w=>quoI .i64 _ _ _ _ _ _ _ rfl rfl rfl (by decide) (by rw [Int.tdiv_eq_ediv_of_nonneg g3,xw6]; omega) w) ?_
              refine xqL (.pointer (some ⟨A,n/4,none⟩)) (fun w'=>idxW A 8 capA (n/4) (by omega) w' _ _ rfl rfl rfl) ?_; refine cellL .u32 (.int .u32 (F (n/4))) A (n/4) 122 _ rfl rfl rfl Tryz.underlying122 ((K.get _ _ _ _ mS).cell (n/4) (by omega)) ?_; simp only [aP,lI,l0,lS]; refine xpL (.int .i64 (n:Int)) ?_
              refine xqL (.int .i64 ((n%4:Nat):Int)) (fun w=>remI .i64 _ _ _ _ _ _ _ rfl rfl rfl (by decide) (by rw [Int.tmod_eq_emod_of_nonneg g3]; omega) w) ?_; refine xqL (.int .i64 ((8*(n%4):Nat):Int)) (fun w=>mulI .i64 _ _ _ _ _ _ _ rfl rfl rfl (by rw [xw6]; omega) w) ?_
              refine xqL (.int .u32 (F (n/4)/2^(8*(n%4)))) (fun w=>shrI .u32 .i64 _ _ _ _ _ _ _ rfl rfl rfl (by omega) (shr_min _ _ (Nat.mod_lt _ (by decide))) w) ?_; refine xqL (.int .u8 (G n)) (fun w=>convI .u32 .u8 _ _ _ _ _ rfl (by kernel_rfl) Tryz.underlying5 (by kernel_rfl) rfl ((b32_shift _ _ (Nat.mod_lt _ (by decide))).trans (hbs n)) w) ?_
              refine actL (w':=wr.alloc (.cells #[.int .u8 (G n)] 5)) (.slice (some ⟨wr.heap.size,0,none⟩) 1 1) rfl (by kernel_rfl) ?_; simp only [aP,lI,l0,lS]
              obtain ⟨v,w9,hr,ho,hg⟩:=HO.more8 (by omega) (G n) rfl 32 K.size
              replace K:=(K.call ((Below.refl wr.heap.size wr).alloc (xnR _) (.cells #[.int .u8 (G n)] 5))).grown hg (fun b hb=>(World.ownsRow.lt HO b hb).1); refine xaL v (appendOp _ _ 32 _ _ _ rfl rfl rfl hr) ?_; refine xpL v ?_
              show Exit.inBlock _ _ _ _ _
              have HS:=show Hid _ from (And.intro ho K); clear K HO hr ho hg; go_wp2
              go_roundw
              case rel=>first | exact ⟨n+1,v,by omega,by go_num,rfl,HS.out⟩ | ((repeat apply Exists.intro); refine ⟨⟨n+1,v,by omega,by go_num,rfl,HS.out⟩,rfl⟩)
              case measure=>simp [intOf]; omega
            · obtain rfl:n=size:=by omega
              obtain ⟨sp2,cap2,rfl,hc2,hsr2⟩:=HO.bytes
              have hB:=K.below; clear K HO hlt2 hn g3; go_wp2; go_ret2
              exact ⟨sp2,cap2,rfl,⟨hc2,by rw [hG.out]; exact hsr2⟩,hB⟩
      · have hm1:0<(NP:Int)%64:=by omega
        have hm4:1≤(NP:Int)%64:=by omega
        have hm3:(NP:Int).tmod 64=(NP:Int)%64:=Int.tmod_eq_emod_of_nonneg (by omega)
        go_upto_region 11 with fail; refine wp_region_list ?_; refine xpL (.slice ts NP tc) ?_; refine actL (w':=wr.alloc (.cells #[.int .u8 0] 5)) (.slice (some ⟨wr.heap.size,0,none⟩) 1 1) rfl (by kernel_rfl) ?_; simp only [aP,lI,l0,lS]
        obtain ⟨v,w5,hr,ho,hg⟩:=HT.more8 (by omega) 0 (btx_pad 0 key len z NP (by omega)) 32 K.size
        replace K:=(K.call ((Below.refl wr.heap.size wr).alloc (xnR _) (.cells #[.int .u8 0] 5))).grown hg (fun b hb=>(World.ownsRow.lt HT b hb).1); refine xaL v (appendOp _ _ 32 _ _ _ rfl rfl rfl hr) ?_; refine xpL v ?_; show Exit.then _ _ _ _ _
        obtain ⟨ts2,tc2,rfl,_,_⟩:=ho.bytes
        have HS:=show Hid _ from (And.intro ho K); clear HT K hr ho hg; go_wp2
        go_roundw
        case rel=>first | exact ⟨NP+1,_,rfl,by omega,by omega,HS.out⟩ | ((repeat apply Exists.intro); refine ⟨⟨NP+1,_,rfl,by omega,by omega,HS.out⟩,rfl⟩)
        case measure=>simp [slen]; omega
 · have hk1:(0:Int)<(kl:Int):=by omega
   have hk2:(1:Int)≤(kl:Int):=by omega
   obtain ⟨ts,tc,rfl,_,_⟩:=HT.bytes
   go_upto_region 7 with fail; refine wp_region_list ?_; refine xpL (.slice ts 0 tc) ?_; refine xpL (.slice kp kl kc) ?_
   obtain ⟨v1,w4,hr,ho,hg,_⟩:=run_append_Own (P:=Tryz.prog) (ty:=32) Tryz.underlying32 one8 HT kp kl kc key (hks.below K.below (xnR _)) hkn (by unfold maxLen; omega) (by omega) K.size
   replace K:=K.grown hg (fun b hb=>(World.ownsRow.lt HT b hb).1); refine xaL v1 (appendOp _ _ 32 _ _ _ rfl rfl rfl hr) ?_; refine xpL (.slice kp kl kc) ?_; refine xqL (.int .i64 (kl:Int)) (fun w=>lenS _ 32 5 kp kl kc rfl Tryz.underlying32 rfl w) ?_; refine xqL (.int .i64 ((64-kl:Nat):Int)) (fun w=>subI .i64 _ _ _ _ _ _ _ rfl rfl rfl (by rw [xw6]; omega) w) ?_
   obtain ⟨v2,w5,hr2,ho2,hg2,_⟩:=run_append_zeros (P:=Tryz.prog) (ty:=32) (u:=3) Tryz.underlying32 Tryz.underlying3 one8 ho (64-kl) (by omega) (by unfold maxLen; omega) (by omega) K.size
   replace K:=K.grown hg2 (fun b hb=>(World.ownsRow.lt ho b hb).1); refine xaL v2 (appendOp2 _ _ 32 3 _ _ _ rfl rfl rfl hr2) ?_; refine xpL v2 ?_
   replace HT:Own w5 B 5 .u8 64 (btx kl key len z) v2:=by
    have e:0+kl+(64-kl)=64:=by omega
    rw [← e]
    refine ho2.congr fun j hj=>?_
    have e1:btx kl key len z j=if j<kl then key j else 0:=by unfold btx; rw [if_neg hk0,if_pos (by omega)]
    rw [e1]
    unfold app
    by_cases e2:j<kl
    · rw [if_pos (show j<0+kl by omega),if_neg (show ¬ j<0 by omega),if_pos e2,Nat.sub_zero]
    · rw [if_neg (show ¬ j<0+kl by omega),if_neg e2]
   clear hr ho hg hr2 ho2 hg2; show Exit.then _ _ _ _ _
   obtain ⟨ts,tc,rfl,_,_⟩:=HT.bytes
   go_upto_region 8 with fail; refine wp_region_list ?_; refine xpL (.slice ts 64 tc) ?_; refine xpL (.slice sp len cap) ?_
   obtain ⟨v,w6,hr,ho,hg,_⟩:=run_append_Own (P:=Tryz.prog) (ty:=32) Tryz.underlying32 one8 HT sp len cap z (hs.below K.below (xnR _)) hn0 (by unfold maxLen; omega) (by omega) K.size
   replace K:=K.grown hg (fun b hb=>(World.ownsRow.lt HT b hb).1); refine xaL v (appendOp _ _ 32 _ _ _ rfl rfl rfl hr) ?_; refine xpL v ?_
   replace HT:Own w6 B 5 .u8 (btl kl len) (btx kl key len z) v:=by
    have e:64+len=btl kl len:=by unfold btl; rw [if_neg hk0]
    rw [← e]
    refine ho.congr fun j hj=>?_
    unfold app
    by_cases e3:j<64
    · rw [if_pos e3]
    · rw [if_neg e3]; unfold btx; rw [if_neg hk0,if_neg e3,if_pos (by omega)]
   clear hr ho hg
   obtain ⟨ts,tc,rfl,_,_⟩:=HT.bytes
   show Exit.then _ _ _ _ _; go_upto_region 9 with fail; refine wp_region_list ?_; refine xpL (.slice ts (btl kl len) tc) ?_; refine xqL (.int .i64 ((btl kl len:Nat):Int)) (fun w=>lenS _ 32 5 ts (btl kl len) tc rfl Tryz.underlying32 rfl w) ?_; refine xpL (.int .i64 ((btl kl len:Nat):Int)) ?_; generalize Value.slice ts (btl kl len) tc=tv at HT ⊢; show Exit.then _ _ _ _ _
   have hbt:0<btl kl len:=by unfold btl; rw [if_neg hk0]; omega
   have hbt2:btl kl len≤140737488355136:=by unfold btl; rw [if_neg hk0]; omega
   have hT1:¬ ((btl kl len:Nat):Int)=0:=by omega
   have hTb:btl kl len≤64*bnb kl len∧64*bnb kl len≤btl kl len+63:=by unfold bnb; rw [if_neg (by omega)]; omega
   go_wp2
   go_loopw [9] (fun tw w'=>∃ (n:Nat) (v:Value),v=tw∧btl kl len≤n∧n≤64*bnb kl len∧Own w' B 5 .u8 n (btx kl key len z) v∧Kr w B [(S,.u32,8,bh0 kl size)] [] w') (fun tw _=>64*bnb kl len-slen tw)
   case atStart=>exact ⟨_,_,rfl,xnR _,hTb.1,HT,K⟩
   case round =>
    clear K HT
    obtain ⟨NP,v,rfl,hn1,hn2,HT,K⟩:=hrel
    obtain ⟨ts,tc,rfl,_,_⟩:=HT.bytes
    by_cases hm:NP%64=0
    · have hm1:¬ 0<(NP:Int)%64:=by omega
      have hm2:(NP:Int)%64=0:=by omega
      have hm3:(NP:Int).tmod 64=0:=by rw [Int.tmod_eq_emod_of_nonneg (by omega)]; omega
      have hN1:NP≤64*bnb kl len:=hn2
      have hN2:64*bnb kl len≤NP:=by omega
      obtain ⟨_,_,hve,htcap,hsrc⟩:=HT.bytes
      injection hve with hve1 _ hve3
      subst hve1 hve3
      have hA:=K.get _ _ _ _ mS; have hAl:=xnL (K.rows _ mS).2 K.size; have hB:=K.below; clear K HT; go_wp2
      go_loopw [8,11] (fun hw i w'=>∃ (p A capA:Nat),p≤bnb kl len∧i=.int .i64 (64*(p:Int))∧hw=.slice (some ⟨A,0,none⟩) 8 capA∧Has w' A .u32 8 (bH kl key size len z p)∧A<w'.heap.size∧Src w' ts NP (btx kl key len z)∧Below w.heap.size w w') (fun _ i _=>NP-(intOf i).toNat)
      case atStart=>exact ⟨0,S,8,by omega,rfl,rfl,hA,hAl,hsrc,hB⟩
      case round =>
       clear hA hAl hsrc hB
       obtain ⟨p,A,capA,hp,rfl,rfl,hA,hAl,hsrc,hB⟩:=hrel
       have g1:(0:Int)≤64*(p:Int):=by omega
       by_cases hlt:p<bnb kl len
       · have g2:64*(p:Int)<(NP:Int):=by omega
         obtain ⟨D,hD⟩:∃ D:Nat,D=min (64*p+64) (btl kl len):=⟨_,rfl⟩
         have hm:(if (((btl kl len:Nat):Int):Int)<64*(p:Int)+64 then (((btl kl len:Nat):Int):Int) else 64*(p:Int)+64)=(D:Int):=by rw [hD]; split <;> omega
         obtain ⟨sq,hq1,hq2⟩:=cut_lh (P:=Tryz.prog) (t:=32) (by kernel_rfl) (fun _=>by kernel_rfl) ts NP tc (64*p) (64*p+64) (by omega) (by omega) htcap
         have hpc:64*p+64-64*p=64:=by omega
         rw [hpc] at hq1 hq2
         have ec:((64*p:Nat):Int)=64*(p:Int):=by omega
         have ec2:((64*p+64:Nat):Int)=64*(p:Int)+64:=by omega
         rw [ec,ec2] at hq1
         have hla:(64*(p:Int)+64 == (NP:Int))=decide (p+1=bnb kl len):=by
          by_cases e:p+1=bnb kl len
          · rw [decide_eq_true e]; simp; omega
          · rw [decide_eq_false e]; simp; omega
         go_upto_region 16 with fail; refine wp_region_list ?_; refine xpL (.int .i64 (64*(p:Int))) ?_; refine xqL (.int .i64 (64*(p:Int)+64)) (fun w=>addI .i64 _ _ _ _ _ _ _ rfl rfl rfl (by rw [xw6]; omega) w) ?_; refine xpL (.int .i64 ((btl kl len:Nat):Int)) ?_; refine xqL (.int .i64 (D:Int)) (fun w=>minI .i64 .i64 _ _ _ _ _ _ _ rfl rfl rfl hm w) ?_
         refine xpL (.int .i64 (D:Int)) ?_; show Exit.then _ _ _ _ _; go_upto_region 17 with fail; refine wp_region_list ?_; refine xpL (.slice (some ⟨A,0,none⟩) 8 capA) ?_; refine xpL (.slice ts NP tc) ?_; refine xpL (.int .i64 (64*(p:Int))) ?_; refine xpL (.int .i64 (64*(p:Int))) ?_
         refine xqL (.int .i64 (64*(p:Int)+64)) (fun w=>addI .i64 _ _ _ _ _ _ _ rfl rfl rfl (by rw [xw6]; omega) w) ?_; refine xqL (.slice sq 64 (tc-64*p)) (fun w=>cutLHop _ _ _ _ _ _ _ _ rfl rfl rfl rfl (hq1 w)) ?_; refine xpL (.int .i64 (D:Int)) ?_
         refine xqL (.int .u64 (D:Int)) (fun w=>convI .i64 .u64 _ _ _ _ _ rfl (by kernel_rfl) Tryz.underlying58 (by kernel_rfl) rfl (wrapQ _ (by omega) (by omega)) w) ?_; refine xpL (.int .i64 (64*(p:Int))) ?_; refine xqL (.int .i64 (64*(p:Int)+64)) (fun w=>addI .i64 _ _ _ _ _ _ _ rfl rfl rfl (by rw [xw6]; omega) w) ?_; refine xpL (.slice ts NP tc) ?_
         refine xqL (.int .i64 (NP:Int)) (fun w=>lenS _ 32 5 ts NP tc rfl Tryz.underlying32 rfl w) ?_; refine xqL (.bool (decide (p+1=bnb kl len))) (fun w=>eqlI .i64 _ _ _ _ _ _ rfl rfl rfl _ hla w) ?_
         refine xcL (refPress_any (bH kl key size len z p) (bH_in kl key size len z hkl hs2 p) A capA sq (tc-64*p) (fun j=>(btx kl key len z) (64*p+j)) (fun j _=>btx_in kl key len z hkk hz _) (D:Int) (by omega) (decide (p+1=bnb kl len)) _ hA hAl (hq2 _ _ hsrc)) ?_; rintro e w7 ⟨O,cap2,rfl,⟨hO1,hO2,HO⟩,l⟩; replace hsrc:=hsrc.below l (xnR _)
         replace hB:=hB.trans (l.mono hB.size); refine xeL ?_; refine xpL (.slice (some ⟨O,0,none⟩) 8 cap2) ?_
         show Exit.inBlock _ _ _ _ _
         rw [hD] at HO
         have HS:=show Hid _ from (And.intro (show Has w7 O .u32 8 (bH kl key size len z (p+1)) from HO) (And.intro hO2 (And.intro hsrc hB))); clear HO hsrc hB hA hAl hm hq1 hq2 hpc ec ec2 hla hD l; go_wp2
         go_roundw
         case rel=>first | exact ⟨p+1,O,cap2,by omega,by go_num,rfl,HS.out⟩ | ((repeat apply Exists.intro); refine ⟨⟨p+1,O,cap2,by omega,by go_num,rfl,HS.out⟩,rfl⟩)
         case measure=>simp [intOf]; omega
       · obtain rfl:p=bnb kl len:=by omega
         have K:Kr w wr.heap.size [(A,.u32,8,bH kl key size len z (bnb kl len))] [] wr:=⟨fun p hp=>by obtain rfl:=xm1 hp; exact ⟨hA,hAl⟩,fun _ h=>(by cases h),fun _ _ _ h=>(by cases h),xnR _,hB.size,hB⟩
         have hbs:∀ n,b32 (bH kl key size len z (bnb kl len) (n/4)) (n%4)=bsum kl key size len z n:=fun _=>rfl
         clear hA hAl hsrc hB; generalize bH kl key size len z (bnb kl len)=F at K hbs; generalize hG:bsum kl key size len z=G at hbs; replace hG:=show Hid _ from hG; go_upto_region 18 with fail; refine wp_region_list ?_; refine actL (w':=wr.alloc (.cells #[] 5)) (.slice (some ⟨wr.heap.size,0,none⟩) 0 0) rfl (by kernel_rfl) ?_; simp only [aP,lI,l0,lS]
         refine xpL (.slice (some ⟨wr.heap.size,0,none⟩) 0 0) ?_
         have HO:Own (wr.alloc (.cells #[] 5)) wr.heap.size 5 .u8 0 G (.slice (some ⟨wr.heap.size,0,none⟩) 0 0):=Own.lit wr wr.heap.size 5 .u8 0 G (xnR _) (by unfold maxLen; omega)
         replace K:=K.call ((Below.refl wr.heap.size wr).alloc (xnR _) (.cells #[] 5)); generalize wr.alloc (.cells #[] 5)=w8 at K HO ⊢; generalize Value.slice (some ⟨wr.heap.size,0,none⟩) 0 0=ov0 at HO ⊢; generalize wr.heap.size=B2 at K HO; show Exit.then _ _ _ _ _; go_wp2
         go_loopw [13,14] (fun ow i w'=>∃ (n:Nat) (ov:Value),n≤size∧i=.int .i64 (n:Int)∧ov=ow∧Own w' B2 5 .u8 n G ov∧Kr w B2 [(A,.u32,8,F)] [] w') (fun _ i _=>size-(intOf i).toNat)
         case atStart=>exact ⟨0,_,by omega,rfl,rfl,HO,K⟩
         case round =>
          clear K HO
          obtain ⟨n,ov,hn,rfl,rfl,HO,K⟩:=hrel
          have g3:(0:Int)≤(n:Int):=by omega
          by_cases hlt2:n<size
          · have g4:(n:Int)<(size:Int):=by omega
            go_upto_region 22 with fail; refine wp_region_list ?_; refine xpL ov ?_; refine xpL (.slice (some ⟨A,0,none⟩) 8 capA) ?_; refine xpL (.int .i64 (n:Int)) ?_; refine xqL (.int .i64 ((n/4:Nat):Int)) (fun w=>quoI .i64 _ _ _ _ _ _ _ rfl rfl rfl (by decide) (by rw [Int.tdiv_eq_ediv_of_nonneg g3,xw6]; omega) w) ?_
            refine xqL (.pointer (some ⟨A,n/4,none⟩)) (fun w'=>idxW A 8 capA (n/4) (by omega) w' _ _ rfl rfl rfl) ?_; refine cellL .u32 (.int .u32 (F (n/4))) A (n/4) 122 _ rfl rfl rfl Tryz.underlying122 ((K.get _ _ _ _ mS).cell (n/4) (by omega)) ?_; simp only [aP,lI,l0,lS]; refine xpL (.int .i64 (n:Int)) ?_
            refine xqL (.int .i64 ((n%4:Nat):Int)) (fun w=>remI .i64 _ _ _ _ _ _ _ rfl rfl rfl (by decide) (by rw [Int.tmod_eq_emod_of_nonneg g3]; omega) w) ?_; refine xqL (.int .i64 ((8*(n%4):Nat):Int)) (fun w=>mulI .i64 _ _ _ _ _ _ _ rfl rfl rfl (by rw [xw6]; omega) w) ?_
            refine xqL (.int .u32 (F (n/4)/2^(8*(n%4)))) (fun w=>shrI .u32 .i64 _ _ _ _ _ _ _ rfl rfl rfl (by omega) (shr_min _ _ (Nat.mod_lt _ (by decide))) w) ?_; refine xqL (.int .u8 (G n)) (fun w=>convI .u32 .u8 _ _ _ _ _ rfl (by kernel_rfl) Tryz.underlying5 (by kernel_rfl) rfl ((b32_shift _ _ (Nat.mod_lt _ (by decide))).trans (hbs n)) w) ?_
            refine actL (w':=wr.alloc (.cells #[.int .u8 (G n)] 5)) (.slice (some ⟨wr.heap.size,0,none⟩) 1 1) rfl (by kernel_rfl) ?_; simp only [aP,lI,l0,lS]
            obtain ⟨v,w9,hr,ho,hg⟩:=HO.more8 (by omega) (G n) rfl 32 K.size
            replace K:=(K.call ((Below.refl wr.heap.size wr).alloc (xnR _) (.cells #[.int .u8 (G n)] 5))).grown hg (fun b hb=>(World.ownsRow.lt HO b hb).1); refine xaL v (appendOp _ _ 32 _ _ _ rfl rfl rfl hr) ?_; refine xpL v ?_
            show Exit.inBlock _ _ _ _ _
            have HS:=show Hid _ from (And.intro ho K); clear K HO hr ho hg; go_wp2
            go_roundw
            case rel=>first | exact ⟨n+1,v,by omega,by go_num,rfl,HS.out⟩ | ((repeat apply Exists.intro); refine ⟨⟨n+1,v,by omega,by go_num,rfl,HS.out⟩,rfl⟩)
            case measure=>simp [intOf]; omega
          · obtain rfl:n=size:=by omega
            obtain ⟨sp2,cap2,rfl,hc2,hsr2⟩:=HO.bytes
            have hB:=K.below; clear K HO hlt2 hn g3; go_wp2; go_ret2
            exact ⟨sp2,cap2,rfl,⟨hc2,by rw [hG.out]; exact hsr2⟩,hB⟩
    · have hm1:0<(NP:Int)%64:=by omega
      have hm4:1≤(NP:Int)%64:=by omega
      have hm3:(NP:Int).tmod 64=(NP:Int)%64:=Int.tmod_eq_emod_of_nonneg (by omega)
      go_upto_region 11 with fail; refine wp_region_list ?_; refine xpL (.slice ts NP tc) ?_; refine actL (w':=wr.alloc (.cells #[.int .u8 0] 5)) (.slice (some ⟨wr.heap.size,0,none⟩) 1 1) rfl (by kernel_rfl) ?_; simp only [aP,lI,l0,lS]
      obtain ⟨v,w5,hr,ho,hg⟩:=HT.more8 (by omega) 0 (btx_pad kl key len z NP (by omega)) 32 K.size
      replace K:=(K.call ((Below.refl wr.heap.size wr).alloc (xnR _) (.cells #[.int .u8 0] 5))).grown hg (fun b hb=>(World.ownsRow.lt HT b hb).1); refine xaL v (appendOp _ _ 32 _ _ _ rfl rfl rfl hr) ?_; refine xpL v ?_; show Exit.then _ _ _ _ _
      obtain ⟨ts2,tc2,rfl,_,_⟩:=ho.bytes
      have HS:=show Hid _ from (And.intro ho K); clear HT K hr ho hg; go_wp2
      go_roundw
      case rel=>first | exact ⟨NP+1,_,rfl,by omega,by omega,HS.out⟩ | ((repeat apply Exists.intro); refine ⟨⟨NP+1,_,rfl,by omega,by omega,HS.out⟩,rfl⟩)
      case measure=>simp [slen]; omega
section
section
variable {P:Program} {o:Oper} {a:Act}
theorem gtrI (k:IntKind) (n n':Int) (t t':TypeId) (x y:Operand) (ho:o.op=.binOp .gtr t x y t') (hx:a.eval x=.int k n) (hy:a.eval y=.int k n') (r:Bool) (hr:decide (n>n')=r) (w:World):(execOp a.eval o).run P w=.ok (.value (.bool r)) w:=by
 unfold execOp
 simp only [ho,hx,hy,Sem.run_bind,eqGuard_at_int,binOp_gtr,Sem.run_pure,Result.andThen_ok,hr]
end
theorem loadAny {P:Program} {o:Oper} {a:Act} {w:World} (ty:TypeId) (k:IntKind) (x:Operand) (p:Addr) (v:Value) (ho:o.op=.load ty x) (hx:a.eval x=.pointer (some p)) (hu:P.underlying ty=some (.int k)) (hc:w.cell? p=some v):(execOp a.eval o).run P w=.ok (.value v) w:=by
 have hagg:(isAgg ty).run P w=.ok false w:=by
  unfold isAgg
  rw [Sem.run_bind,run_underlying hu w]
  rfl
 have e:(loadVar ty p).run P w=.ok v w:=by simp [loadVar,Sem.run_bind,hagg,hc]
 unfold execOp
 simp only [ho,hx,Instr.loadAt,Instr.sureAddr,Sem.run_bind,Sem.run_pure,Result.andThen_ok,e]
end
theorem bidxK (b i:Nat) (hi:i<32) (w:World) {o:Oper} {a:Act} (x y:Operand) (ho:o.op=.indexAddr 23 x y) (hx:a.eval x=.pointer (some ⟨b,0,none⟩)) (hy:a.eval y=.int .i64 (i:Int)) :
 (execOp a.eval o).run Tryz.prog w=.ok (.value (.pointer (some ⟨b,i,none⟩))) w:=by
 have h:=idxArr (P:=Tryz.prog) 23 5 32 .i64 b 0 i x y Tryz.underlying23 (fun _=>by kernel_rfl) hi ho hx hy w
 rw [Nat.zero_add] at h
 exact h
theorem refHash_any (sp:Option Addr) (len cap:Nat) (hlen:len≤140737488355072) (hn0:sp=none→cap=0) (z:Nat→Int) (hz:In 256 len z) (w:World) (hs:Src w sp len z) :
 Calls Tryz.prog 69 #[.slice sp len cap] w fun e w'=>e=.returned (.agg (row .u8 32 (bhash len z)).toArray)∧Below w.heap.size w w':=by
 have K:=Kr.init w; replace K:=K.make 32 zu8_32 23 (w.heap.size) rfl (key_zero _ _ _ rfl).there
 go_enter Tryz.func69,Tryz.ntmps69
 go_upto_region 1 with fail; generalize (w.alloc (.cells zu8_32 23))=w0 at K ⊢; refine wp_region_list ?_; refine xpL (.slice sp len cap) ?_; refine xcL (refSum_good none 0 0 (fun _=>0) (by omega) (fun _ hj=>absurd hj (xnZ _)) (fun _=>rfl) 32 (by omega) (by omega) sp len cap hlen hn0 z hz _ (fun _ hj=>absurd hj (xnZ _)) (hs.below K.below (xnR _))) ?_
 rintro e w1 ⟨tp,tc,rfl,⟨_,hsrc⟩,l⟩; replace K:=K.call l; clear l; refine xeL ?_; refine xpL (.tuple #[.slice tp 32 tc,.int .i64 0]) ?_; refine xpL (.slice tp 32 tc) ?_; refine xpL (.int .i64 0) ?_; refine xpL (.slice tp 32 tc) ?_; refine xpL (.int .i64 0) ?_; show Exit.then _ _ _ _ _; go_upto_region 2 with fail; refine wp_region_list ?_
 refine xpL (.agg (row .u8 32 (fun _=>0)).toArray) ?_; refine allocL zu8_32 23 rfl (fun _=>by kernel_rfl) ?_; simp only [aP,lI,l0,lS]; refine storesL .u8 32 (fun _=>0) w1.heap.size 23 _ _ rfl rfl rfl rfl (room_of (key_zero _ _ _ rfl).there) (key_info' _) ?_; simp only [Act.put]; have K1:=(Kr.init w1).fresh .u8 32 (fun _=>0) zu8_32 23 (key_zero _ _ _ rfl).there
 generalize ((w1.alloc (.cells zu8_32 23)).setCells w1.heap.size 0 (row .u8 32 (fun _=>0)))=w2 at K1 ⊢; show Exit.then _ _ _ _ _; go_wp2
 go_loopw [6] (fun i w'=>∃ (m:Nat) (f:Nat→Int),m≤32∧i=.int .i64 m∧Kr w1 (w1.heap.size+1) [(w1.heap.size,.u8,32,f)] [] w'∧∀ j,j<m→f j=bhash len z j) (fun i _=>32-(intOf i).toNat)
 case atStart=>exact ⟨0,_,by omega,rfl,K1,fun j hj=>absurd hj (xnZ j)⟩
 case round =>
  clear K1
  obtain ⟨m,f,hm,rfl,K1,hf⟩:=hrel
  have g1:(0:Int)≤(m:Int):=by omega
  by_cases hlt:m<32
  · have g2:(m:Int)<32:=by omega
    obtain ⟨ad,rfl,hc⟩:=(hsrc.below K1.below (xnR _)) m hlt
    go_upto_region 6 with fail; refine wp_region_list ?_; refine xpL (.int .i64 (m:Int)) ?_; refine xpL (.slice (some ad) 32 tc) ?_; refine xpL (.int .i64 (m:Int)) ?_; refine xqL (.pointer (some (ad.add m))) (fun w=>idxSl 32 5 32 tc .i64 ad m _ _ Tryz.underlying32 (fun _=>by kernel_rfl) hlt rfl rfl rfl w) ?_
    refine xaL (.int .u8 (bhash len z m)) (loadAny 5 .u8 _ (ad.add m) _ rfl rfl Tryz.underlying5 hc) ?_; refine xqL (.pointer (some ⟨w1.heap.size,m,none⟩)) (fun w'=>bidxK w1.heap.size m hlt w' _ _ rfl rfl rfl) ?_
    refine storeL .u8 (bhash len z m) w1.heap.size m 5 _ _ rfl rfl rfl rfl (by rw [(K1.get _ _ _ _ mS).cell m hlt]; rfl) ((K1.get _ _ _ _ mS).free m hlt) (by kernel_rfl) ?_
    simp only [Act.put]; replace K1:=K1.setCell [] w1.heap.size .u8 32 f m hlt (bhash len z m) mS (fun _ hp=>by cases hp) (fun _ hp=>by cases hp) (xnR _)
    have HS:=show Hid _ from (And.intro K1 (show ∀ j,j<m+1→upd f m (bhash len z m) j=bhash len z j from fun j hj=>by
     by_cases e:j=m
     · subst e; rw [upd_same]
     · rw [upd_other _ _ _ _ e]; exact hf j (by omega)))
    clear K1 hf hc; generalize wr.setCell ⟨w1.heap.size,m,none⟩ (.int .u8 (bhash len z m))=w3 at HS ⊢
    show Exit.inBlock _ _ _ _ _
    go_wp2
    go_roundw
    case rel=>first | exact ⟨m+1,_,by omega,by go_num,HS.out⟩ | ((repeat apply Exists.intro); refine ⟨⟨m+1,_,by omega,by go_num,HS.out⟩,rfl⟩)
    case measure=>simp [intOf]; omega
  · obtain rfl:m=32:=by omega
    replace K:=K.call K1.below; have HR:=(K1.get _ _ _ _ mS).congr (g:=bhash len z) hf
    have hz':=(K.room _ mS).1
    have hB:=(K.fill _ _ mS (row .u8 32 (bhash len z))).below; clear K K1 hf hlt hm g1 hsrc; generalize hj:bhash len z=f at *
    go_wp2_with (first | (refine wpList_load_mid rfl 23 _ rfl (w1.heap.size) 0 rfl (row .u8 32 (f)) _ (Has.range (HR)) Tryz.underlying23 rfl (key_info _) ?_) | (refine wpList_store_mid rfl 23 _ _ rfl (w.heap.size) 0 (row .u8 32 f).toArray rfl rfl (room_of hz') (key_info' _) (all_oneCell_toArray (row_one _ _ _)) ?_))
    exact bodyPost_ret (v:=(.agg (row .u8 32 (f)).toArray)) (results_row Tryz.results69 rfl (Has.all hz' .u8 f).range Tryz.underlying23 rfl (key_info f)) rfl ⟨rfl,hB⟩
def bout (h:Nat→Int):Nat→Int:=fun j=>b32 (h (j/4)) (j%4)
def nbt (n:Nat):Nat:=if n=0 then 1 else (n+63)/64
def tH (h0:Nat→Int) (n:Nat) (f:Nat→Int):Nat→Nat→Int
 | 0=>h0
 | i+1=>bpr (tH h0 n f i) (fun j=>f (64*i+j)) ((min (64*i+64) n:Nat):Int) (decide (i+1=nbt n))
theorem tH_in (h0:Nat→Int) (n:Nat) (f:Nat→Int) (h:In V 8 h0):∀ i,In V 8 (tH h0 n f i)
 | 0=>h
 | i+1=>bpr_in _ _ _ _ (tH_in h0 n f h i)
theorem bH_tH (kl:Nat) (key:Nat→Int) (size len:Nat) (z:Nat→Int):∀ i,bH kl key size len z i=tH (bh0 kl size) (btl kl len) (btx kl key len z) i
 | 0=>rfl
 | i+1=>by
   unfold bH tH
   rw [bH_tH kl key size len z i]
   rfl
theorem bsum_tH (kl:Nat) (key:Nat→Int) (size len:Nat) (z:Nat→Int):bsum kl key size len z=bout (tH (bh0 kl size) (btl kl len) (btx kl key len z) (nbt (btl kl len))):=by
 funext j
 unfold bsum bout
 rw [bH_tH]
 rfl
theorem bN_congr (m m':Nat→Int) (r:Nat) (h:∀ i,i<16→m i=m' i) (v:Nat→Int):∀ k,bN m (sg r) v k=bN m' (sg r) v k
 | 0=>rfl
 | k+1=>by
   unfold bN
   rw [bN_congr m m' r h v k]
   unfold bAt
   rw [h _ (sg_lt r _),h _ (sg_lt r _)]
theorem bR_congr (m m':Nat→Int) (h:∀ i,i<16→m i=m' i) (v:Nat→Int):∀ r,bR m v r=bR m' v r
 | 0=>rfl
 | r+1=>by
   unfold bR
   rw [bR_congr m m' h v r,bN_congr m m' r h]
theorem bpr_congr (h z z':Nat→Int) (t:Int) (last:Bool) (e:∀ j,j<64→z j=z' j):bpr h z t last=bpr h z' t last:=by
 funext i
 unfold bpr
 rw [bR_congr (bpw z) (bpw z') (fun i hi=>by unfold bpw w32; rw [e _ (by omega),e _ (by omega),e _ (by omega),e _ (by omega)])]
def tx2 (fl:Nat) (y:Nat→Int) (len:Nat) (z:Nat→Int):Nat→Int:=fun j=>if j<fl then y j else padz len z (j-fl)
theorem tx2_none (y z:Nat→Int) (j:Nat):tx2 64 y 0 z (64*0+j)=padz 64 y j:=by
 unfold tx2 padz
 rw [Nat.mul_zero,Nat.zero_add]
 by_cases e:j<64
 · rw [if_pos e,if_pos e]
 · rw [if_neg e,if_neg e,if_neg (xnZ _)]
theorem bhash_tx2 (fl:Nat) (y:Nat→Int) (len:Nat) (z:Nat→Int):bhash (fl+len) (app y fl z)=bout (tH (bh0 0 32) (fl+len) (tx2 fl y len z) (nbt (fl+len))):=by
 have e1:btl 0 (fl+len)=fl+len:=Nat.zero_add _
 have e2:btx 0 (fun _=>0) (fl+len) (app y fl z)=tx2 fl y len z:=by
  funext j
  unfold btx tx2 padz app
  rw [if_pos rfl]
  by_cases e:j<fl
  · rw [if_pos (by omega),if_pos e,if_pos e]
  · rw [if_neg e,if_neg e]
    by_cases e3:j<fl+len
    · rw [if_pos e3,if_pos (by omega)]
    · rw [if_neg e3,if_neg (by omega)]
 unfold bhash
 rw [bsum_tH,e1,e2]
def z0:Nat→Int:=fun _=>0
def zs (s:ByteArray):Nat→Int:=fun j=>((s.data.toList.getD j 0).toNat:Int)
theorem bmac_in (kl:Nat) (key:Nat→Int) (len:Nat) (z:Nat→Int) (n:Nat):In 256 n (bmac kl key len z):=bhash_in _ _ n
def klen:Nat→Nat
 | 0=>0
 | _+1=>32
def ktx (il:Nat) (inf:Nat→Int) (i:Nat) (t:Nat→Int):Nat→Int:=app (app t (klen i) inf) (klen i+il) (fun _=>((i+1:Nat):Int))
def kT (k:Nat→Int) (il:Nat) (inf:Nat→Int):Nat→Nat→Int
 | 0=>fun _=>0
 | i+1=>bmac 32 k (klen i+il+1) (ktx il inf i (kT k il inf i))
theorem kT_in (k:Nat→Int) (il:Nat) (inf:Nat→Int) (n:Nat):∀ i,In 256 n (kT k il inf i)
 | 0=>fun _ _=>⟨Int.le_refl 0,(by decide:(0:Int)<256)⟩
 | _+1=>bmac_in _ _ _ _ _
section
theorem results_two {P:Program} {fn:Func} {tmps:Array Value} {w:World} {a b:Tmp} {ty ty':TypeId} {x y:Nat} {cs cs':List Value} {d d':TypeDesc} (hr:fn.results=#[.cell a ty,.cell b ty'])
 (ha:tmps.getD a undef=.pointer (some ⟨x,0,none⟩)) (hb:tmps.getD b undef=.pointer (some ⟨y,0,none⟩)) (hc:w.rangeAt x 0 cs) (hc':w.rangeAt y 0 cs') (hu:P.underlying ty=some d) (hu':P.underlying ty'=some d') (hd:d.isRow=true) (hd':d'.isRow=true)
 (hi:(P.info? ty).map (·.size)=some cs.length) (hi':(P.info? ty').map (·.size)=some cs'.length) :
 (results fn tmps).run P w=.ok (.tuple #[.agg cs.toArray,.agg cs'.toArray]) w:=by
 have h1:=run_loadVar_mid (P:=P) w x 0 ty cs d hc hu hd hi; have h2:=run_loadVar_mid (P:=P) w y 0 ty' cs' d' hc' hu' hd' hi'
 rw [Array.getD_eq_getD_getElem?] at ha hb
 simp [results,hr,ha,hb,asAddr,h1,h2]
section
variable {P:Program} {ops:Array Oper} {Q:Exit→Act→World→Prop} {md:Region.Mode} {S:World→Prop}
end
end
theorem kcutAll (b:Nat) (w:World):(Instr.sliceAt 23 (.pointer (some ⟨b,0,none⟩)) none none none).run Tryz.prog w=.ok (.slice (some ⟨b,0,none⟩) 32 32) w:=by kernel_rfl
def kA (k:Nat→Int) (len:Nat) (z:Nat→Int):Nat→Int:=kT (bmac 32 k len z) 0 z0 1
def kB (k:Nat→Int) (len:Nat) (z:Nat→Int):Nat→Int:=kT (bmac 32 k len z) 0 z0 2
end Go.Proofs.YtklnibmfpcmeeaaGreatDoor
