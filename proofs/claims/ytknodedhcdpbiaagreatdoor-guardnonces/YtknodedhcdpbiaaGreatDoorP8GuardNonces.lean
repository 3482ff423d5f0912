/- Texts of Fp Sa Eb Bd Bc Bf Hy Bq Be, joined. -/
import Derived.Test.YtknodedhcdpbiaaGreatDoorP7GuardNonces
set_option maxRecDepth 20000
set_option maxHeartbeats 64000000
namespace Go.Proofs.YtknodedhcdpbiaaGreatDoor
open Go.RowKit
def fset (V:Nat→Nat) (j v i:Nat):Nat:=if i=j then v else V i
theorem fset_same (V:Nat→Nat) (j v:Nat):fset V j v j=v:=if_pos rfl
theorem row_fset (n:Nat) (V:Nat→Nat) (j v:Nat):(row .u64 n (fun i=>(V i:Int))).set (0+j) (.int .u64 ((v:Nat):Int))=row .u64 n (fun i=>(fset V j v i:Int)):=by
 rw [Nat.zero_add,row_put,row_nat]
 rfl
theorem row_at (n:Nat) (V:Nat→Nat) (j v:Nat) (hj:j<n) (hv:V j=v):(row .u64 n (fun i=>(V i:Int)))[0+j]?=some (.int .u64 ((v:Nat):Int)):=by
 rw [Nat.zero_add,row_get .u64 n _ j hj,hv]
def mvd (W:Nat→Nat) (d j i:Nat):Nat:=if i<j then wst W d i else 0
theorem mvd_next (W:Nat→Nat) (d j:Nat) (V:Nat→Nat) (hV:∀ i,i<16→V i=if i=j then wst W d j else mvd W d j i):∀ i,i<16→(V i:Int)=((mvd W d (j+1) i:Nat):Int):=fun i hi=>by
 rw [hV i hi]
 unfold mvd
 by_cases e:i=j
 · subst e
   rw [if_pos rfl,if_pos (by omega)]
 · rw [if_neg e]
   by_cases h:i<j
   · rw [if_pos h,if_pos (by omega)]
   · rw [if_neg h,if_neg (by omega)]
theorem mvd_fset (W:Nat→Nat) (d j v:Nat):∀ i,i<16→fset (fset (mvd W d j) j v) j (wst W d j) i=if i=j then wst W d j else mvd W d j i:=fun i _=>by
 unfold fset
 split <;> rfl
theorem mvd_end (W:Nat→Nat) (d:Nat):∀ i,i<16→mvd W d 16 i=wst W d i:=fun i hi=>by unfold mvd; rw [if_pos hi]
theorem wst_none (W:Nat→Nat) (d j:Nat) (h:j<d/64):wst W d j=0:=by unfold wst wup wdn; rw [if_neg (by omega),if_neg (by omega)]; rfl
theorem wst_up (W:Nat→Nat) (d j:Nat) (h:j=d/64):wst W d j=W (j-d/64)*2^(d%64)%2^64:=by
 unfold wst wup wdn
 rw [if_pos (by omega),if_neg (by omega),Nat.or_zero]
theorem wst_both (W:Nat→Nat) (d j:Nat) (h:d/64<j):wst W d j=W (j-d/64)*2^(d%64)%2^64 ||| W (j-d/64-1)/2^(64-d%64):=by
 unfold wst wup wdn
 rw [if_pos (by omega),if_pos h]
theorem vrise_any (w0 w:World) (R:Nat) (l:List (Nat × List Value)) (T:Int) (W:Nat→Nat) (hT1:-1≤T) (hT2:T≤281474976710655) (f:Nat→Bool) (hW:Bts W f) (n:Int) (d:Nat) (hd:n-T=(d:Int)) (hd1:1≤d) (hn:n≤281474976710655) (M:Mm w0 ((R,wcv T W)::l) w) :
 Calls Tryz.prog 68 #[.pointer (some ⟨R,0,none⟩),.int .i64 n] w fun e w'=>e=.returned (.tuple #[])∧Mm w0 ((R,wcv n (wst W d))::l) w'∧Off [R] w w':=by
 go_enter Tryz.func68,Tryz.ntmps68
 have OF:=Off.refl [R] w; go_upto_region 0 with fail; refine wp_region_list ?_; refine xpL (.int .i64 n) ?_; refine xpL (.pointer (some ⟨R,0,none⟩)) ?_; refine xcL (vtop14_any w0 _ R _ T W hT1 hT2 M) ?_; rintro e w1 ⟨rfl,l1⟩; replace M:=M.call l1; replace OF:=OF.below l1; clear l1; refine xeL ?_
 refine xaL (.int .i64 ((d:Nat):Int)) (subI .i64 _ _ _ _ _ _ _ rfl rfl rfl (by rw [hd,xw6]; omega) _) ?_; refine xaL (.int .i64 ((d/64:Nat):Int)) (quoI .i64 _ _ _ _ _ _ _ rfl rfl rfl (by decide) (quo64 d (by omega)) _) ?_; refine xpL (.int .i64 n) ?_; refine xpL (.pointer (some ⟨R,0,none⟩)) ?_; refine xcL (vtop14_any w0 _ R _ T W hT1 hT2 M) ?_; rintro e w2 ⟨rfl,l1⟩
 replace M:=M.call l1; replace OF:=OF.below l1; clear l1; refine xeL ?_; refine xaL (.int .i64 ((d:Nat):Int)) (subI .i64 _ _ _ _ _ _ _ rfl rfl rfl (by rw [hd,xw6]; omega) _) ?_; refine xaL (.int .i64 ((d%64:Nat):Int)) (remI .i64 _ _ _ _ _ _ _ rfl rfl rfl (by decide) (rem64 d) _) ?_; refine xpL (.int .i64 ((d/64:Nat):Int)) ?_; refine xpL (.int .i64 ((d%64:Nat):Int)) ?_
 refine xT ?_; go_upto_region 1 with fail; refine wp_region_list ?_; have hlb:=(Below.refl w2.heap.size w2).alloc (xnR _) (.cells zu64_16 120); refine actL (w':=w2.alloc (.cells zu64_16 120)) (.pointer (some ⟨w2.heap.size,0,none⟩)) rfl (by kernel_rfl) ?_; simp only [aP,lI,l0,lS]; have hBz0:=OF.size; replace OF:=OF.below hlb; replace M:=M.box zu64_16 120 w2.heap.size rfl; clear hlb
 generalize w2.alloc (.cells zu64_16 120)=w3 at M OF ⊢; generalize eB:w2.heap.size=B at M hBz0 ⊢
 have hBz:w.heap.size≤B:=hBz0
 clear eB hBz0
 replace M:Mm w0 ((B,row .u64 16 (fun i=>((mvd W d 0 i:Nat):Int)))::(R,wcv T W)::l) w3:=M
 refine xT ?_; go_upto_region 2 with fail; refine wp_region_list ?_; refine xpL (.int .i64 0) ?_; refine xT ?_; have HI:=show Hid _ from (And.intro M OF); clear M OF; go_wp2
 go_loopw [18] (fun i w'=>∃ j:Nat,j≤16∧i=.int .i64 (j:Int)∧Mm w0 ((B,row .u64 16 (fun i=>((mvd W d j i:Nat):Int)))::(R,wcv T W)::l) w'∧Off [R] w w') (fun i _=>16-(intOf i).toNat)
 case atStart=>exact ⟨0,Nat.zero_le _,rfl,HI.out⟩
 case round =>
  clear HI
  obtain ⟨j,hj,rfl,M,OF⟩:=hrel
  by_cases hlt:j<16
  · go_upto_region 3 with fail
    refine wp_region_list ?_; refine xaL (.bool true) (lssI .i64 _ _ _ _ _ _ rfl rfl rfl true (decide_eq_true (by omega)) _) ?_; refine xT ?_; go_upto_region 4 with fail; refine wp_region_list ?_; refine xpL (.int .i64 (j:Int)) ?_; refine xpL (.int .i64 (j:Int)) ?_; refine xT ?_
    by_cases h1:j<d/64
    · go_upto_region 5 with fail
      refine wp_region_list ?_; refine xpL (.int .i64 (j:Int)) ?_; refine xpL (.int .i64 ((d/64:Nat):Int)) ?_; refine xaL (.bool false) (geqI .i64 _ _ _ _ _ _ rfl rfl rfl false (decide_eq_false (by omega)) _) ?_; refine xT ?_; go_upto_region 7 with fail; refine wp_region_list ?_; refine xpL (.int .i64 (j:Int)) ?_; refine xpL (.int .i64 ((d/64:Nat):Int)) ?_
      refine xaL (.bool false) (gtrI .i64 _ _ _ _ _ _ rfl rfl rfl false (decide_eq_false (by omega)) _) ?_; refine xT ?_
      have hrow:=row_congr .u64 16 (mvd_next W d j (mvd W d j) (fun i _=>by
       by_cases e:i=j
       · rw [if_pos e,wst_none W d j h1,e]; exact if_neg (by omega)
       · rw [if_neg e]))
      rw [hrow] at M
      have HS:=show Hid _ from (And.intro M OF); clear M OF hW hrow; go_wp2
      go_roundw
      case rel=>exact ⟨j+1,by omega,by go_num,HS.out⟩
      case measure=>simp [intOf]; omega
    · go_upto_region 5 with fail
      refine wp_region_list ?_; refine xpL (.int .i64 (j:Int)) ?_; refine xpL (.int .i64 ((d/64:Nat):Int)) ?_; refine xaL (.bool true) (geqI .i64 _ _ _ _ _ _ rfl rfl rfl true (decide_eq_true (by omega)) _) ?_; refine xT ?_; go_upto_region 6 with fail; refine wp_region_list ?_; refine xpL (.int .i64 (j:Int)) ?_; refine xpL (.pointer (some ⟨R,0,none⟩)) ?_
      refine xpL (.int .i64 (j:Int)) ?_; refine xpL (.int .i64 ((d/64:Nat):Int)) ?_; refine xaL (.int .i64 ((j-d/64:Nat):Int)) (subI .i64 _ _ _ _ _ _ _ rfl rfl rfl (by rw [xw6]; omega) _) ?_; refine xpL (.pointer (some ⟨R,0,none⟩)) ?_; refine xpL (.pointer (some ⟨R,1,none⟩)) ?_
      refine xaL (.pointer (some ⟨R,1+(j-d/64),none⟩)) (idxArr 120 107 16 .i64 R 1 (j-d/64) _ _ Tryz.underlying120 (fun _=>by kernel_rfl) (by omega) rfl rfl rfl _) ?_; refine readL (.int .u64 ((W (j-d/64):Nat):Int)) rfl (load1 107 _ ⟨R,1+(j-d/64),none⟩ _ rfl rfl (fun _=>by kernel_rfl) (M.get (mT _ mS) _ _ (wcv_get T W (j-d/64) (by omega)))) ?_
      simp only [aP,lI,l0,lS]; refine xpL (.int .i64 ((d%64:Nat):Int)) ?_; refine readL (.int .u64 ((W (j-d/64)*2^(d%64)%2^64:Nat):Int)) rfl (shlI .u64 .i64 _ _ _ _ _ _ _ rfl rfl rfl (by omega) (shl64 _ _ (by omega)) _) ?_; simp only [aP,lI,l0,lS]
      refine xaL (.pointer (some ⟨B,0+j,none⟩)) (idxArr 120 107 16 .i64 B 0 j _ _ Tryz.underlying120 (fun _=>by kernel_rfl) (by omega) rfl rfl rfl _) ?_; refine skipOpL rfl (storeAny (.int .u64 ((W (j-d/64)*2^(d%64)%2^64:Nat):Int)) B (0+j) 107 _ _ rfl rfl rfl rfl rfl (M.isSome mS _ (by rw [row_length]; omega)) (M.free mS _ (by rw [row_length]; omega)) (by kernel_rfl)) ?_
      simp only [Act.put]; replace M:=M.set (0+j) (by rw [row_length]; omega) (.int .u64 ((W (j-d/64)*2^(d%64)%2^64:Nat):Int))
      rw [row_fset] at M
      replace OF:=OF.and1 ((Off.refl [B] _).set (b:=B) mS (0+j) (.int .u64 ((W (j-d/64)*2^(d%64)%2^64:Nat):Int))) (.inr (by omega)); generalize wr.setCell ⟨B,0+j,none⟩ (.int .u64 ((W (j-d/64)*2^(d%64)%2^64:Nat):Int))=w4 at M OF ⊢; refine xT ?_
      by_cases h2:d/64<j
      · go_upto_region 7 with fail
        refine wp_region_list ?_; refine xpL (.int .i64 (j:Int)) ?_; refine xpL (.int .i64 ((d/64:Nat):Int)) ?_; refine xaL (.bool true) (gtrI .i64 _ _ _ _ _ _ rfl rfl rfl true (decide_eq_true (by omega)) _) ?_; refine xT ?_; go_upto_region 8 with fail
        refine wp_region_C (S:=fun w'=>Mm w0 ((B,row .u64 16 (fun i=>((fset (mvd W d j) j (W (j-d/64)*2^(d%64)%2^64) i:Nat):Int)))::(R,wcv T W)::l) w') 17 (by kernel_rfl) M.drew ?_; clear M; intro M; have hdr:=(Below.refl w4.heap.size w4).drew; replace OF:=OF.below hdr; clear hdr; generalize w4.drew=w5 at M OF ⊢
        refine readC (i:=0) (some 39) rfl (.int .i64 (j:Int)) rfl rfl (by kernel_rfl) rfl (fun _ M=>(by kernel_rfl)) (by kernel_rfl) (by kernel_rfl) (by kernel_rfl) (by kernel_rfl) (fun _ _ _ h=>h) M ?_; simp only [aP,lI,l0,lS]
        refine readC (i:=1) (some 40) rfl (.pointer (some ⟨B,0+j,none⟩)) rfl rfl (by kernel_rfl) rfl (fun _ M=>idxArr 120 107 16 .i64 B 0 j _ _ Tryz.underlying120 (fun _=>by kernel_rfl) (by omega) rfl rfl rfl _) (by kernel_rfl) (by kernel_rfl) (by kernel_rfl) (by kernel_rfl) (fun _ _ _ h=>h) M ?_; simp only [aP,lI,l0,lS]
        refine readC (i:=2) (some 41) rfl (.int .u64 ((W (j-d/64)*2^(d%64)%2^64:Nat):Int)) rfl rfl (by kernel_rfl) rfl (fun _ M=>load1 107 _ ⟨B,0+j,none⟩ _ rfl rfl (fun _=>by kernel_rfl) (M.get mS _ _ (row_at 16 _ j (W (j-d/64)*2^(d%64)%2^64) hlt (fset_same _ _ _)))) (by kernel_rfl) (by kernel_rfl) (by kernel_rfl) (by kernel_rfl) (fun _ _ _ h=>h) M ?_
        simp only [aP,lI,l0,lS]; refine readC (i:=3) (some 42) rfl (.pointer (some ⟨R,0,none⟩)) rfl rfl (by kernel_rfl) rfl (fun _ M=>(by kernel_rfl)) (by kernel_rfl) (by kernel_rfl) (by kernel_rfl) (by kernel_rfl) (fun _ _ _ h=>h) M ?_; simp only [aP,lI,l0,lS]
        refine readC (i:=4) (some 43) rfl (.int .i64 (j:Int)) rfl rfl (by kernel_rfl) rfl (fun _ M=>(by kernel_rfl)) (by kernel_rfl) (by kernel_rfl) (by kernel_rfl) (by kernel_rfl) (fun _ _ _ h=>h) M ?_; simp only [aP,lI,l0,lS]
        refine readC (i:=5) (some 44) rfl (.int .i64 ((d/64:Nat):Int)) rfl rfl (by kernel_rfl) rfl (fun _ M=>(by kernel_rfl)) (by kernel_rfl) (by kernel_rfl) (by kernel_rfl) (by kernel_rfl) (fun _ _ _ h=>h) M ?_; simp only [aP,lI,l0,lS]
        refine readC (i:=6) (some 45) rfl (.int .i64 ((j-d/64:Nat):Int)) rfl rfl (by kernel_rfl) rfl (fun _ M=>subI .i64 _ _ _ _ _ _ _ rfl rfl rfl (by rw [xw6]; omega) _) (by kernel_rfl) (by kernel_rfl) (by kernel_rfl) (by kernel_rfl) (fun _ _ _ h=>h) M ?_; simp only [aP,lI,l0,lS]
        refine readC (i:=7) (some 46) rfl (.int .i64 ((j-d/64-1:Nat):Int)) rfl rfl (by kernel_rfl) rfl (fun _ M=>subI .i64 _ _ _ _ _ _ _ rfl rfl rfl (by rw [xw6]; omega) _) (by kernel_rfl) (by kernel_rfl) (by kernel_rfl) (by kernel_rfl) (fun _ _ _ h=>h) M ?_; simp only [aP,lI,l0,lS]
        refine readC (i:=8) (some 47) rfl (.pointer (some ⟨R,0,none⟩)) rfl rfl (by kernel_rfl) rfl (fun _ M=>(by kernel_rfl)) (by kernel_rfl) (by kernel_rfl) (by kernel_rfl) (by kernel_rfl) (fun _ _ _ h=>h) M ?_; simp only [aP,lI,l0,lS]
        refine readC (i:=9) (some 48) rfl (.pointer (some ⟨R,1,none⟩)) rfl rfl (by kernel_rfl) rfl (fun _ M=>(by kernel_rfl)) (by kernel_rfl) (by kernel_rfl) (by kernel_rfl) (by kernel_rfl) (fun _ _ _ h=>h) M ?_; simp only [aP,lI,l0,lS]
        refine readC (i:=10) (some 49) rfl (.pointer (some ⟨R,1+(j-d/64-1),none⟩)) rfl rfl (by kernel_rfl) rfl (fun _ M=>idxArr 120 107 16 .i64 R 1 (j-d/64-1) _ _ Tryz.underlying120 (fun _=>by kernel_rfl) (by omega) rfl rfl rfl _) (by kernel_rfl) (by kernel_rfl) (by kernel_rfl) (by kernel_rfl) (fun _ _ _ h=>h) M ?_; simp only [aP,lI,l0,lS]
        refine readC (i:=11) (some 50) rfl (.int .u64 ((W (j-d/64-1):Nat):Int)) rfl rfl (by kernel_rfl) rfl (fun _ M=>load1 107 _ ⟨R,1+(j-d/64-1),none⟩ _ rfl rfl (fun _=>by kernel_rfl) (M.get (mT _ mS) _ _ (wcv_get T W (j-d/64-1) (by omega)))) (by kernel_rfl) (by kernel_rfl) (by kernel_rfl) (by kernel_rfl) (fun _ _ _ h=>h) M ?_; simp only [aP,lI,l0,lS]
        refine readC (i:=12) (some 51) rfl (.int .i64 ((d%64:Nat):Int)) rfl rfl (by kernel_rfl) rfl (fun _ M=>(by kernel_rfl)) (by kernel_rfl) (by kernel_rfl) (by kernel_rfl) (by kernel_rfl) (fun _ _ _ h=>h) M ?_; simp only [aP,lI,l0,lS]
        refine readC (i:=13) (some 52) rfl (.int .i64 ((64-d%64:Nat):Int)) rfl rfl (by kernel_rfl) rfl (fun _ M=>subI .i64 _ _ _ _ _ _ _ rfl rfl rfl (by rw [xw6]; omega) _) (by kernel_rfl) (by kernel_rfl) (by kernel_rfl) (by kernel_rfl) (fun _ _ _ h=>h) M ?_; simp only [aP,lI,l0,lS]
        refine readC (i:=14) (some 53) rfl (.int .u64 ((W (j-d/64-1)/2^(64-d%64):Nat):Int)) rfl rfl (by kernel_rfl) rfl (fun _ M=>shrI .u64 .i64 _ _ _ _ _ _ _ rfl rfl rfl (by omega) (shr64 _ _ (by omega)) _) (by kernel_rfl) (by kernel_rfl) (by kernel_rfl) (by kernel_rfl) (fun _ _ _ h=>h) M ?_; simp only [aP,lI,l0,lS]
        refine readC (i:=15) (some 54) rfl (.int .u64 ((wst W d j:Nat):Int)) rfl rfl (by kernel_rfl) rfl (fun _ M=>vorI .u64 _ _ _ _ _ _ _ rfl rfl rfl (by rw [wst_both W d j h2]; exact or64 _ _ (Nat.mod_lt _ (by decide)) (hW.div_lt _ _ (by omega))) _) (by kernel_rfl) (by kernel_rfl) (by kernel_rfl) (by kernel_rfl) (fun _ _ _ h=>h) M ?_
        simp only [aP,lI,l0,lS]; refine readC (i:=16) (some 55) rfl (.pointer (some ⟨B,0+j,none⟩)) rfl rfl (by kernel_rfl) rfl (fun _ M=>idxArr 120 107 16 .i64 B 0 j _ _ Tryz.underlying120 (fun _=>by kernel_rfl) (by omega) rfl rfl rfl _) (by kernel_rfl) (by kernel_rfl) (by kernel_rfl) (by kernel_rfl) (fun _ _ _ h=>h) M ?_; simp only [aP,lI,l0,lS]
        refine skipC (S2:=fun _=>True) none rfl (by kernel_rfl) rfl rfl (storeAny (.int .u64 ((wst W d j:Nat):Int)) B (0+j) 107 _ _ rfl rfl rfl rfl rfl (M.isSome mS _ (by rw [row_length]; omega)) (M.free mS _ (by rw [row_length]; omega)) (by kernel_rfl)) (by kernel_rfl) ?_; simp only [Act.put]
        replace M:=M.set (0+j) (by rw [row_length]; omega) (.int .u64 ((wst W d j:Nat):Int))
        rw [row_fset] at M
        replace OF:=OF.and1 ((Off.refl [B] _).set (b:=B) mS (0+j) (.int .u64 ((wst W d j:Nat):Int))) (.inr (by omega)); generalize w5.setCell ⟨B,0+j,none⟩ (.int .u64 ((wst W d j:Nat):Int))=w6 at M OF ⊢
        refine wpAnyH_done (by kernel_rfl) ?_ _
        first | show Exit.then _ _ _ _ _ | show Exit.inBlock _ _ _ _ _
        have hrow:=row_congr .u64 16 (mvd_next W d j (fset (fset (mvd W d j) j (W (j-d/64)*2^(d%64)%2^64)) j (wst W d j)) (mvd_fset W d j _))
        rw [hrow] at M
        have HS:=show Hid _ from (And.intro M OF); clear M OF hW hrow; go_wp2
        go_roundw
        case rel=>exact ⟨j+1,by omega,by go_num,HS.out⟩
        case measure=>simp [intOf]; omega
      · go_upto_region 7 with fail
        refine wp_region_list ?_; refine xpL (.int .i64 (j:Int)) ?_; refine xpL (.int .i64 ((d/64:Nat):Int)) ?_; refine xaL (.bool false) (gtrI .i64 _ _ _ _ _ _ rfl rfl rfl false (decide_eq_false (by omega)) _) ?_; refine xT ?_
        have hrow:=row_congr .u64 16 (mvd_next W d j (fset (mvd W d j) j (W (j-d/64)*2^(d%64)%2^64)) (fun i _=>by unfold fset; rw [wst_up W d j (by omega)]))
        rw [hrow] at M
        have HS:=show Hid _ from (And.intro M OF); clear M OF hW hrow; go_wp2
        go_roundw
        case rel=>exact ⟨j+1,by omega,by go_num,HS.out⟩
        case measure=>simp [intOf]; omega
  · obtain rfl:j=16:=by omega
    go_upto_region 3 with fail; refine wp_region_list ?_; refine xaL (.bool false) (lssI .i64 _ _ _ _ _ _ rfl rfl rfl false (decide_eq_false (by omega)) _) ?_; refine xT ?_; replace M:=M.swap; go_upto_region 10 with fail; refine wp_region_held_drew (S:=fun w'=>∃ cs_,Mm w0 ((R,cs_)::(B,row .u64 16 (fun i=>((mvd W d 16 i:Nat):Int)))::l) w') (by kernel_rfl) ⟨_,M.drew⟩ ?_; intro _
    replace M:=M.drew; have hdr:=(Below.refl wr.heap.size wr).drew; replace OF:=OF.below hdr; clear hdr; generalize wr.drew=w7 at M OF ⊢; refine xrH 0 57 rfl (.pointer (some ⟨R,0,none⟩)) (fun _ ⟨_,M⟩=>(by kernel_rfl)) ⟨_,M⟩ ?_; refine xrH 1 58 rfl (.pointer (some ⟨R,0,none⟩)) (fun _ ⟨_,M⟩=>(by kernel_rfl)) ⟨_,M⟩ ?_
    refine xrH 2 59 rfl (.int .i64 n) (fun _ ⟨_,M⟩=>(by kernel_rfl)) ⟨_,M⟩ ?_; refine xrH 3 60 rfl (.int .i64 (n+1)) (fun _ ⟨_,M⟩=>addI .i64 _ _ _ _ _ _ _ rfl rfl rfl (by rw [xw6]; omega) _) ⟨_,M⟩ ?_
    refine xrH 4 61 rfl (.agg (row .u64 16 (fun i=>(mvd W d 16 i:Int))).toArray) (fun _ ⟨_,M⟩=>loadN 120 _ ⟨B,0,none⟩ (row .u64 16 (fun i=>(mvd W d 16 i:Int))) rfl rfl (fun _=>by kernel_rfl) (fun _=>by rw [row_length]; kernel_rfl) (M.rangeAt (mT _ mS))) ⟨_,M⟩ ?_; refine xrH 5 62 rfl (.pointer (some ⟨R,0,none⟩)) (fun _ ⟨_,M⟩=>(by kernel_rfl)) ⟨_,M⟩ ?_
    refine xrH 6 63 rfl (.pointer (some ⟨R,0,none⟩)) (fun _ ⟨_,M⟩=>(by kernel_rfl)) ⟨_,M⟩ ?_; refine doesH (i:=7) none rfl (by kernel_rfl) rfl rfl (storeAny (.int .i64 (n+1)) R 0 3 _ _ rfl rfl rfl rfl rfl (M.isSome mS 0 (by rw [wcv_len]; decide)) (M.free mS 0 (by rw [wcv_len]; decide)) (by kernel_rfl)) ⟨_,M.set 0 (by rw [wcv_len]; decide) (.int .i64 (n+1))⟩ ?_; simp only [Act.put]
    replace M:=M.set 0 (by rw [wcv_len]; decide) (.int .i64 (n+1)); replace OF:=OF.and1 ((Off.refl [R] _).set (b:=R) mS 0 (.int .i64 (n+1))) (.inl mS); generalize w7.setCell ⟨R,0,none⟩ (.int .i64 (n+1))=w8 at M OF ⊢
    replace M:Mm w0 ((R,wcv n W)::(B,row .u64 16 (fun i=>((mvd W d 16 i:Nat):Int)))::l) w8:=M
    refine xrH 8 64 rfl (.pointer (some ⟨R,0,none⟩)) (fun _ ⟨_,M⟩=>(by kernel_rfl)) ⟨_,M⟩ ?_; refine xrH 9 65 rfl (.pointer (some ⟨R,1,none⟩)) (fun _ ⟨_,M⟩=>(by kernel_rfl)) ⟨_,M⟩ ?_
    refine doesH (i:=10) none rfl (by kernel_rfl) rfl rfl (storeP (row .u64 16 (fun i=>(mvd W d 16 i:Int))) R 1 120 _ _ rfl rfl rfl (M.thereP mS 1 16 (by rw [wcv_len]; decide)) (by rw [List.size_toArray,row_length]; kernel_rfl) (row_one .u64 16 _)) ⟨_,M.setPart (row .u64 16 (fun i=>(mvd W d 16 i:Int))) 1 (by rw [row_length,wcv_len]; decide)⟩ ?_; simp only [Act.put]
    replace M:=M.setPart (row .u64 16 (fun i=>(mvd W d 16 i:Int))) 1 (by rw [row_length,wcv_len]; decide)
    rw [wcv_setA] at M
    replace OF:=OF.and1 ((Off.refl [R] _).setAll (b:=R) mS 1 (row .u64 16 (fun i=>(mvd W d 16 i:Int)))) (.inl mS); generalize w8.setCells R 1 (row .u64 16 (fun i=>(mvd W d 16 i:Int)))=w9 at M OF ⊢
    refine wpAnyH_done (by kernel_rfl) ?_ _
    rw [wcv_congr (mvd_end W d)] at M
    replace M:=M.drop2
    exact ⟨rfl,.tuple #[],by kernel_rfl,rfl,M,OF⟩
theorem wtop_put {L:List Int} {n:Int} (h:n≤wtop L):wtop (L++[n])=wtop L:=by rw [wtop_app]; omega
theorem wtop_up {L:List Int} {n:Int} (h:wtop L<n):wtop (L++[n])=n:=by rw [wtop_app]; omega
theorem wds_put {L:List Int} {W:Nat→Nat} {n:Int} {k:Nat} (hW:Wds W L) (hk:wtop L-n=(k:Int)):Wds (fset W (k/64) (W (k/64) ||| 2^(k%64))) (L++[n]) :=
 (Bts.put hW k (V:=fset W (k/64) (W (k/64) ||| 2^(k%64))) (fun i _=>by
  unfold fset
  by_cases e:i=k/64
  · rw [if_pos e,if_pos e,e]
  · rw [if_neg e,if_neg e])).congr (fun j _=>wsee_put hk j)
theorem wds_up {L:List Int} {W:Nat→Nat} {n:Int} {d:Nat} (hW:Wds W L) (hd:n-wtop L=(d:Int)) (h1:1≤d):Wds (fset (wst W d) 0 (wst W d 0 ||| 2^0)) (L++[n]) :=
 ((hW.up d).put 0 (V:=fset (wst W d) 0 (wst W d 0 ||| 2^0)) (fun i _=>by
  unfold fset
  by_cases e:i=0
  · subst e; rfl
  · rw [if_neg e]; exact (if_neg e).symm)).congr (fun j _=>wsee_up hd h1 j)
theorem wcv_fset (T:Int) (W:Nat→Nat) (i v:Nat):(wcv T W).set (1+i) (.int .u64 ((v:Nat):Int))=wcv T (fset W i v):=wcv_set T W i v
theorem one_shl (e:Nat) (he:e<64):IntKind.u64.wrap (1*2^min ((e:Nat):Int).toNat IntKind.u64.bits)=((2^e:Nat):Int):=by
 have h:=shl64 1 e (by omega)
 rw [Nat.one_mul,Nat.mod_eq_of_lt (Nat.pow_lt_pow_right (by decide) he)] at h
 exact h
theorem vmark14_any (w0 w:World) (R:Nat) (l:List (Nat × List Value)) (L:List Int) (W:Nat→Nat) (hL:WinL L) (hW:Wds W L) (n:Int) (hn:i64 n) (M:Mm w0 ((R,wcv (wtop L) W)::l) w) :
 Calls Tryz.prog 51 #[.pointer (some ⟨R,0,none⟩),.int .i64 n] w fun e w'=>e=.returned (.int .i64 (wchk L n))∧∃ V,Wds V (wmk L n)∧Mm w0 ((R,wcv (wtop (wmk L n)) V)::l) w'∧Off [R] w w':=by
 go_enter Tryz.func51,Tryz.ntmps51
 have OF:=Off.refl [R] w; have hT1:=wtop_ge L; have hT2:=wtop_max hL; go_upto_region 0 with fail; refine wp_region_list ?_; refine xpL (.int .i64 0) ?_; refine xT ?_; go_upto_region 1 with fail; refine wp_region_list ?_; refine xpL (.pointer (some ⟨R,0,none⟩)) ?_; refine xpL (.int .i64 n) ?_; refine xcL (vcheck14_any w0 _ R _ L W hL hW n hn M) ?_; rintro e w1 ⟨rfl,l1⟩
 replace M:=M.call l1; replace OF:=OF.below l1; clear l1; refine xeL ?_; refine xpL (.int .i64 (wchk L n)) ?_; refine xT ?_
 by_cases hc:wchk L n=0
 · obtain ⟨hn0,hn2,hn3,hn4⟩:=wchk_ok hc
   replace hc:=show Hid _ from hc; go_upto_region 2 with fail; refine wp_region_list ?_; refine xpL (.int .i64 (wchk L n)) ?_; refine xaL (.bool false) (neqI .i64 _ _ _ _ _ _ rfl rfl rfl false (by rw [hc.out]; rfl) _) ?_; refine xT ?_
   by_cases h1:wtop L<n
   · have hd:n-wtop L=((n-wtop L).toNat:Int):=by omega
     go_upto_region 4 with fail; refine wp_region_list ?_; refine xpL (.int .i64 n) ?_; refine xpL (.pointer (some ⟨R,0,none⟩)) ?_; refine xcL (vtop14_any w0 _ R _ (wtop L) W hT1 hT2 M) ?_; rintro e w2 ⟨rfl,l1⟩; replace M:=M.call l1; replace OF:=OF.below l1; clear l1; refine xeL ?_; refine xaL (.bool true) (gtrI .i64 _ _ _ _ _ _ rfl rfl rfl true (decide_eq_true (by omega)) _) ?_
     refine xT ?_; go_upto_region 5 with fail; refine wp_region_list ?_; refine xpL (.pointer (some ⟨R,0,none⟩)) ?_; refine xpL (.int .i64 n) ?_; refine xcL (vrise_any w0 _ R _ (wtop L) W hT1 hT2 _ hW n (n-wtop L).toNat hd (by omega) hn2 M) ?_; rintro e w3 ⟨rfl,M',o1⟩; clear M; have M:=M'; clear M'; replace OF:=OF.and1 o1 (.inl mS); clear o1; refine xeL ?_; refine xT ?_
     go_upto_region 6 with fail; refine wp_region_list ?_; refine xpL (.pointer (some ⟨R,0,none⟩)) ?_; refine xpL (.int .i64 n) ?_; refine xcL (vplace_any w0 _ R _ n (wst W (n-wtop L).toNat) (by omega) hn2 n 0 (by omega) (by omega) M) ?_; rintro e w4 ⟨rfl,l1⟩; replace M:=M.call l1; replace OF:=OF.below l1; clear l1; refine xeL ?_
     refine xpL (.tuple #[.int .i64 ((0/64:Nat):Int),.int .i64 ((0%64:Nat):Int)]) ?_; refine xpL (.int .i64 ((0/64:Nat):Int)) ?_; refine xpL (.int .i64 ((0%64:Nat):Int)) ?_; refine xpL (.int .i64 ((0/64:Nat):Int)) ?_; refine xpL (.int .i64 ((0%64:Nat):Int)) ?_; refine xT ?_; go_upto_region 7 with fail
     refine wp_region_C (S:=fun w'=>Mm w0 ((R,wcv n (wst W (n-wtop L).toNat))::l) w') 12 (by kernel_rfl) M.drew ?_; clear M; intro M; have hdr:=(Below.refl w4.heap.size w4).drew; replace OF:=OF.below hdr; clear hdr; generalize w4.drew=w5 at M OF ⊢
     refine readC (i:=0) (some 27) rfl (.pointer (some ⟨R,0,none⟩)) rfl rfl (by kernel_rfl) rfl (fun _ M=>(by kernel_rfl)) (by kernel_rfl) (by kernel_rfl) (by kernel_rfl) (by kernel_rfl) (fun _ _ _ h=>h) M ?_; simp only [aP,lI,l0,lS]
     refine readC (i:=1) (some 28) rfl (.int .i64 ((0/64:Nat):Int)) rfl rfl (by kernel_rfl) rfl (fun _ M=>(by kernel_rfl)) (by kernel_rfl) (by kernel_rfl) (by kernel_rfl) (by kernel_rfl) (fun _ _ _ h=>h) M ?_; simp only [aP,lI,l0,lS]
     refine readC (i:=2) (some 29) rfl (.pointer (some ⟨R,0,none⟩)) rfl rfl (by kernel_rfl) rfl (fun _ M=>(by kernel_rfl)) (by kernel_rfl) (by kernel_rfl) (by kernel_rfl) (by kernel_rfl) (fun _ _ _ h=>h) M ?_; simp only [aP,lI,l0,lS]
     refine readC (i:=3) (some 30) rfl (.pointer (some ⟨R,1,none⟩)) rfl rfl (by kernel_rfl) rfl (fun _ M=>(by kernel_rfl)) (by kernel_rfl) (by kernel_rfl) (by kernel_rfl) (by kernel_rfl) (fun _ _ _ h=>h) M ?_; simp only [aP,lI,l0,lS]
     refine readC (i:=4) (some 31) rfl (.pointer (some ⟨R,1+(0/64),none⟩)) rfl rfl (by kernel_rfl) rfl (fun _ M=>idxArr 120 107 16 .i64 R 1 (0/64) _ _ Tryz.underlying120 (fun _=>by kernel_rfl) (by omega) rfl rfl rfl _) (by kernel_rfl) (by kernel_rfl) (by kernel_rfl) (by kernel_rfl) (fun _ _ _ h=>h) M ?_; simp only [aP,lI,l0,lS]
     refine readC (i:=5) (some 32) rfl (.int .u64 (((wst W (n-wtop L).toNat) (0/64):Nat):Int)) rfl rfl (by kernel_rfl) rfl (fun _ M=>load1 107 _ ⟨R,1+(0/64),none⟩ _ rfl rfl (fun _=>by kernel_rfl) (M.get mS _ _ (wcv_get n (wst W (n-wtop L).toNat) (0/64) (by omega)))) (by kernel_rfl) (by kernel_rfl) (by kernel_rfl) (by kernel_rfl) (fun _ _ _ h=>h) M ?_
     simp only [aP,lI,l0,lS]; refine readC (i:=6) (some 33) rfl (.int .i64 ((0%64:Nat):Int)) rfl rfl (by kernel_rfl) rfl (fun _ M=>(by kernel_rfl)) (by kernel_rfl) (by kernel_rfl) (by kernel_rfl) (by kernel_rfl) (fun _ _ _ h=>h) M ?_; simp only [aP,lI,l0,lS]
     refine readC (i:=7) (some 34) rfl (.int .u64 ((2^(0%64):Nat):Int)) rfl rfl (by kernel_rfl) rfl (fun _ M=>shlI .u64 .i64 _ _ _ _ _ _ _ rfl rfl rfl (by omega) (one_shl _ (by omega)) _) (by kernel_rfl) (by kernel_rfl) (by kernel_rfl) (by kernel_rfl) (fun _ _ _ h=>h) M ?_; simp only [aP,lI,l0,lS]
     refine readC (i:=8) (some 35) rfl (.int .u64 (((wst W (n-wtop L).toNat) (0/64) ||| 2^(0%64):Nat):Int)) rfl rfl (by kernel_rfl) rfl (fun _ M=>vorI .u64 _ _ _ _ _ _ _ rfl rfl rfl (or64 _ _ ((hW.up _).lt _ (by omega)) (Nat.pow_lt_pow_right (by decide) (by omega))) _) (by kernel_rfl) (by kernel_rfl) (by kernel_rfl) (by kernel_rfl) (fun _ _ _ h=>h) M ?_
     simp only [aP,lI,l0,lS]; refine xqC 9 36 rfl (.pointer (some ⟨R,0,none⟩)) (fun _=>(by kernel_rfl)) M ?_; refine xqC 10 37 rfl (.pointer (some ⟨R,1,none⟩)) (fun _=>(by kernel_rfl)) M ?_
     refine readC (i:=11) (some 38) rfl (.pointer (some ⟨R,1+(0/64),none⟩)) rfl rfl (by kernel_rfl) rfl (fun _ M=>idxArr 120 107 16 .i64 R 1 (0/64) _ _ Tryz.underlying120 (fun _=>by kernel_rfl) (by omega) rfl rfl rfl _) (by kernel_rfl) (by kernel_rfl) (by kernel_rfl) (by kernel_rfl) (fun _ _ _ h=>h) M ?_; simp only [aP,lI,l0,lS]
     refine skipC (S2:=fun _=>True) none rfl (by kernel_rfl) rfl rfl (storeAny (.int .u64 (((wst W (n-wtop L).toNat) (0/64) ||| 2^(0%64):Nat):Int)) R (1+(0/64)) 107 _ _ rfl rfl rfl rfl rfl (M.isSome mS _ (by rw [wcv_len]; omega)) (M.free mS _ (by rw [wcv_len]; omega)) (by kernel_rfl)) (by kernel_rfl) ?_; simp only [Act.put]
     replace M:=M.set (1+(0/64)) (by rw [wcv_len]; omega) (.int .u64 (((wst W (n-wtop L).toNat) (0/64) ||| 2^(0%64):Nat):Int))
     rw [wcv_fset] at M
     replace OF:=OF.and1 ((Off.refl [R] _).set (b:=R) mS (1+(0/64)) (.int .u64 (((wst W (n-wtop L).toNat) (0/64) ||| 2^(0%64):Nat):Int))) (.inl mS); generalize w5.setCell ⟨R,1+(0/64),none⟩ (.int .u64 (((wst W (n-wtop L).toNat) (0/64) ||| 2^(0%64):Nat):Int))=w6 at M OF ⊢
     refine wpAnyH_done (by kernel_rfl) ?_ _
     first | show Exit.then _ _ _ _ _ | show Exit.inBlock _ _ _ _ _
     go_upto_region 8 with fail; refine wp_region_list ?_; refine xpL (.int .i64 0) ?_; refine xT ?_; have hk_:=show Hid _ from (wmk_ok hc.out); have hk2_:=show Hid _ from (wtop_up (L:=L) (n:=n) h1); have hV:=show Hid _ from (wds_up hW hd (by omega)); have HS:=show Hid _ from (And.intro M OF); clear M OF hW hL; go_wp2; go_ret
     exact ⟨by rw [hc.out]; rfl,_,by rw [hk_.out]; exact hV.out,by rw [hk_.out,hk2_.out]; exact HS.out⟩
   · obtain ⟨k,hk⟩:∃ k:Nat,wtop L-n=(k:Int):=⟨(wtop L-n).toNat,by omega⟩
     go_upto_region 4 with fail; refine wp_region_list ?_; refine xpL (.int .i64 n) ?_; refine xpL (.pointer (some ⟨R,0,none⟩)) ?_; refine xcL (vtop14_any w0 _ R _ (wtop L) W hT1 hT2 M) ?_; rintro e w7 ⟨rfl,l1⟩; replace M:=M.call l1; replace OF:=OF.below l1; clear l1; refine xeL ?_; refine xaL (.bool false) (gtrI .i64 _ _ _ _ _ _ rfl rfl rfl false (decide_eq_false (by omega)) _) ?_
     refine xT ?_; go_upto_region 6 with fail; refine wp_region_list ?_; refine xpL (.pointer (some ⟨R,0,none⟩)) ?_; refine xpL (.int .i64 n) ?_; refine xcL (vplace_any w0 _ R _ (wtop L) W hT1 hT2 n k hk (by omega) M) ?_; rintro e w8 ⟨rfl,l1⟩; replace M:=M.call l1; replace OF:=OF.below l1; clear l1; refine xeL ?_
     refine xpL (.tuple #[.int .i64 ((k/64:Nat):Int),.int .i64 ((k%64:Nat):Int)]) ?_; refine xpL (.int .i64 ((k/64:Nat):Int)) ?_; refine xpL (.int .i64 ((k%64:Nat):Int)) ?_; refine xpL (.int .i64 ((k/64:Nat):Int)) ?_; refine xpL (.int .i64 ((k%64:Nat):Int)) ?_; refine xT ?_; go_upto_region 7 with fail
     refine wp_region_C (S:=fun w'=>Mm w0 ((R,wcv (wtop L) W)::l) w') 12 (by kernel_rfl) M.drew ?_; clear M; intro M; have hdr:=(Below.refl w8.heap.size w8).drew; replace OF:=OF.below hdr; clear hdr; generalize w8.drew=w9 at M OF ⊢
     refine readC (i:=0) (some 27) rfl (.pointer (some ⟨R,0,none⟩)) rfl rfl (by kernel_rfl) rfl (fun _ M=>(by kernel_rfl)) (by kernel_rfl) (by kernel_rfl) (by kernel_rfl) (by kernel_rfl) (fun _ _ _ h=>h) M ?_; simp only [aP,lI,l0,lS]
     refine readC (i:=1) (some 28) rfl (.int .i64 ((k/64:Nat):Int)) rfl rfl (by kernel_rfl) rfl (fun _ M=>(by kernel_rfl)) (by kernel_rfl) (by kernel_rfl) (by kernel_rfl) (by kernel_rfl) (fun _ _ _ h=>h) M ?_; simp only [aP,lI,l0,lS]
     refine readC (i:=2) (some 29) rfl (.pointer (some ⟨R,0,none⟩)) rfl rfl (by kernel_rfl) rfl (fun _ M=>(by kernel_rfl)) (by kernel_rfl) (by kernel_rfl) (by kernel_rfl) (by kernel_rfl) (fun _ _ _ h=>h) M ?_; simp only [aP,lI,l0,lS]
     refine readC (i:=3) (some 30) rfl (.pointer (some ⟨R,1,none⟩)) rfl rfl (by kernel_rfl) rfl (fun _ M=>(by kernel_rfl)) (by kernel_rfl) (by kernel_rfl) (by kernel_rfl) (by kernel_rfl) (fun _ _ _ h=>h) M ?_; simp only [aP,lI,l0,lS]
     refine readC (i:=4) (some 31) rfl (.pointer (some ⟨R,1+(k/64),none⟩)) rfl rfl (by kernel_rfl) rfl (fun _ M=>idxArr 120 107 16 .i64 R 1 (k/64) _ _ Tryz.underlying120 (fun _=>by kernel_rfl) (by omega) rfl rfl rfl _) (by kernel_rfl) (by kernel_rfl) (by kernel_rfl) (by kernel_rfl) (fun _ _ _ h=>h) M ?_; simp only [aP,lI,l0,lS]
     refine readC (i:=5) (some 32) rfl (.int .u64 ((W (k/64):Nat):Int)) rfl rfl (by kernel_rfl) rfl (fun _ M=>load1 107 _ ⟨R,1+(k/64),none⟩ _ rfl rfl (fun _=>by kernel_rfl) (M.get mS _ _ (wcv_get (wtop L) W (k/64) (by omega)))) (by kernel_rfl) (by kernel_rfl) (by kernel_rfl) (by kernel_rfl) (fun _ _ _ h=>h) M ?_; simp only [aP,lI,l0,lS]
     refine readC (i:=6) (some 33) rfl (.int .i64 ((k%64:Nat):Int)) rfl rfl (by kernel_rfl) rfl (fun _ M=>(by kernel_rfl)) (by kernel_rfl) (by kernel_rfl) (by kernel_rfl) (by kernel_rfl) (fun _ _ _ h=>h) M ?_; simp only [aP,lI,l0,lS]
     refine readC (i:=7) (some 34) rfl (.int .u64 ((2^(k%64):Nat):Int)) rfl rfl (by kernel_rfl) rfl (fun _ M=>shlI .u64 .i64 _ _ _ _ _ _ _ rfl rfl rfl (by omega) (one_shl _ (by omega)) _) (by kernel_rfl) (by kernel_rfl) (by kernel_rfl) (by kernel_rfl) (fun _ _ _ h=>h) M ?_; simp only [aP,lI,l0,lS]
     refine readC (i:=8) (some 35) rfl (.int .u64 ((W (k/64) ||| 2^(k%64):Nat):Int)) rfl rfl (by kernel_rfl) rfl (fun _ M=>vorI .u64 _ _ _ _ _ _ _ rfl rfl rfl (or64 _ _ (hW.lt _ (by omega)) (Nat.pow_lt_pow_right (by decide) (by omega))) _) (by kernel_rfl) (by kernel_rfl) (by kernel_rfl) (by kernel_rfl) (fun _ _ _ h=>h) M ?_; simp only [aP,lI,l0,lS]
     refine xqC 9 36 rfl (.pointer (some ⟨R,0,none⟩)) (fun _=>(by kernel_rfl)) M ?_; refine xqC 10 37 rfl (.pointer (some ⟨R,1,none⟩)) (fun _=>(by kernel_rfl)) M ?_
     refine readC (i:=11) (some 38) rfl (.pointer (some ⟨R,1+(k/64),none⟩)) rfl rfl (by kernel_rfl) rfl (fun _ M=>idxArr 120 107 16 .i64 R 1 (k/64) _ _ Tryz.underlying120 (fun _=>by kernel_rfl) (by omega) rfl rfl rfl _) (by kernel_rfl) (by kernel_rfl) (by kernel_rfl) (by kernel_rfl) (fun _ _ _ h=>h) M ?_; simp only [aP,lI,l0,lS]
     refine skipC (S2:=fun _=>True) none rfl (by kernel_rfl) rfl rfl (storeAny (.int .u64 ((W (k/64) ||| 2^(k%64):Nat):Int)) R (1+(k/64)) 107 _ _ rfl rfl rfl rfl rfl (M.isSome mS _ (by rw [wcv_len]; omega)) (M.free mS _ (by rw [wcv_len]; omega)) (by kernel_rfl)) (by kernel_rfl) ?_; simp only [Act.put]
     replace M:=M.set (1+(k/64)) (by rw [wcv_len]; omega) (.int .u64 ((W (k/64) ||| 2^(k%64):Nat):Int))
     rw [wcv_fset] at M
     replace OF:=OF.and1 ((Off.refl [R] _).set (b:=R) mS (1+(k/64)) (.int .u64 ((W (k/64) ||| 2^(k%64):Nat):Int))) (.inl mS); generalize w9.setCell ⟨R,1+(k/64),none⟩ (.int .u64 ((W (k/64) ||| 2^(k%64):Nat):Int))=w10 at M OF ⊢
     refine wpAnyH_done (by kernel_rfl) ?_ _
     first | show Exit.then _ _ _ _ _ | show Exit.inBlock _ _ _ _ _
     go_upto_region 8 with fail; refine wp_region_list ?_; refine xpL (.int .i64 0) ?_; refine xT ?_; have hk_:=show Hid _ from (wmk_ok hc.out); have hk2_:=show Hid _ from (wtop_put (L:=L) (n:=n) (by omega)); have hV:=show Hid _ from (wds_put hW hk); have HS:=show Hid _ from (And.intro M OF); clear M OF hW hL; go_wp2; go_ret
     exact ⟨by rw [hc.out]; rfl,_,by rw [hk_.out]; exact hV.out,by rw [hk_.out,hk2_.out]; exact HS.out⟩
 · replace hc:=show Hid _ from hc
   go_upto_region 2 with fail; refine wp_region_list ?_; refine xpL (.int .i64 (wchk L n)) ?_; refine xaL (.bool true) (neqI .i64 _ _ _ _ _ _ rfl rfl rfl true (by rw [bne_iff_ne]; exact hc.out) _) ?_; refine xT ?_; go_upto_region 3 with fail; refine wp_region_list ?_; refine xpL (.int .i64 (wchk L n)) ?_; refine xpL (.int .i64 (wchk L n)) ?_; refine xT ?_
   have hk_:=show Hid _ from (wmk_err hc.out); have HS:=show Hid _ from (And.intro hW (And.intro M OF)); clear M OF hW hL; go_wp2; go_ret
   exact ⟨rfl,W,by rw [hk_.out]; exact HS.out⟩
section
open Go.RowKit Go.MapKept Go.ChangeMaps Go.WideShapes
def NM (w:World) (m:Option Nat) (f:Int→Option Value):Prop:=match m with
 | none=>∀ x,f x=none
 | some b=>IM Tryz.prog 3 w b 256 f
def mbs (m:Option Nat):List (Nat × List Value):=match m with
 | none=>[]
 | some b=>[(b,[])]
theorem ukI:Tryz.prog.underlying 3=some (.int .i64):=Tryz.underlying3
section
variable {w:World} {m:Option Nat} {f:Int→Option Value} {t e:TypeId}
theorem NM.off {w':World} {X:List Nat} (h:NM w m f) (o:Off X w w') (hX:∀ p∈mbs m,p.1∉X):NM w' m f:=by
 cases m with
 | none=>exact h
 | some b=>exact IM.off h o (hX (b,[]) mS)
theorem NM.below {w':World} (h:NM w m f) (l:Below w.heap.size w w'):NM w' m f:=h.off (X:=[]) (Off.of_below l) (fun _ _ hb=>by cases hb)
theorem NM.congr {g:Int→Option Value} (h:NM w m f) (hg:∀ x,f x=g x):NM w m g:=by
 obtain rfl:f=g:=funext hg
 exact h
theorem run_look_nil (ht:Tryz.prog.underlying t=some (.map 3 e)) {z:Value} (hz:(zeroValue e).run Tryz.prog w=.ok z w) (x:Int) (c:Bool) :
 (Instr.lookup t (.map none) (.int .i64 x) c).run Tryz.prog w=.ok (if c then .tuple #[z,.bool false] else z) w:=by
 unfold Instr.lookup
 have h1:∀ e,(Instr.checkKey e 10000 3 (.int .i64 x)).run Tryz.prog w=.ok () w:=fun e=>run_checkKey ukI (show IsKey (.int .i64) (.int .i64 x) from rfl) e 9999
 have h2:(Instr.findKey 3 (.int .i64 x) []).run Tryz.prog w=.ok none w:=run_findKey ukI rfl
 cases c <;> simp [run_underlying ht,h1,h2,hz,Result.andThen]
theorem NM.look (h:NM w m f) (ht:Tryz.prog.underlying t=some (.map 3 e)) {z:Value} (hz:(zeroValue e).run Tryz.prog w=.ok z w) {x:Int} (hx:i64 x):(Instr.lookup t (.map m) (.int .i64 x) false).run Tryz.prog w=.ok ((f x).getD z) w:=by
 cases m with
 | none=>rw [run_look_nil ht hz x false,h x]; rfl
 | some b=>exact IM.look h ukI ht hz hx
theorem NM.lookOk (h:NM w m f) (ht:Tryz.prog.underlying t=some (.map 3 e)) {z:Value} (hz:(zeroValue e).run Tryz.prog w=.ok z w) {x:Int} (hx:i64 x):(Instr.lookup t (.map m) (.int .i64 x) true).run Tryz.prog w=.ok (.tuple #[(f x).getD z,.bool (f x).isSome]) w:=by
 cases m with
 | none=>rw [run_look_nil ht hz x true,h x]; rfl
 | some b=>exact IM.lookOk h ukI ht hz hx
theorem NM.clr (h:NM w m f) (ht:Tryz.prog.underlying t=some (.map 3 e)) (ty:TypeId):∃ w',(Builtin.clear_ #[t] ty #[.map m]).run Tryz.prog w=.ok (.tuple #[]) w'∧NM w' m (fun _=>none)∧w.grownBy w' m:=by
 cases m with
 | none=>exact ⟨w,by simp [Builtin.clear_,run_underlying ht,Result.andThen],fun _=>rfl,World.grownBy.refl _ _⟩
 | some b =>
   obtain ⟨w',h1,h2,h3⟩:=IM.clr h ht ty
   exact ⟨w',h1,IM.mono h2 (Nat.zero_le _),h3⟩
variable {o:Oper} {a:Act}
theorem lookN (h:NM w m f) (ht:Tryz.prog.underlying t=some (.map 3 e)) (z:Value) (hz:∀ w,(zeroValue e).run Tryz.prog w=.ok z w) (x:Int) (hx:i64 x) (m' y:Operand) (ho:o.op=.lookup t m' y false) (hm:a.eval m'=.map m) (hy:a.eval y=.int .i64 x) :
 (execOp a.eval o).run Tryz.prog w=.ok (.value ((f x).getD z)) w:=by
 unfold execOp
 simp only [ho,hm,hy,Sem.run_bind,h.look ht (hz w) hx,Result.andThen_ok,Sem.run_pure]
theorem lookOkN (h:NM w m f) (ht:Tryz.prog.underlying t=some (.map 3 e)) (z:Value) (hz:∀ w,(zeroValue e).run Tryz.prog w=.ok z w) (x:Int) (hx:i64 x) (m' y:Operand) (ho:o.op=.lookup t m' y true) (hm:a.eval m'=.map m) (hy:a.eval y=.int .i64 x) :
 (execOp a.eval o).run Tryz.prog w=.ok (.value (.tuple #[(f x).getD z,.bool (f x).isSome])) w:=by
 unfold execOp
 simp only [ho,hm,hy,Sem.run_bind,h.lookOk ht (hz w) hx,Result.andThen_ok,Sem.run_pure]
end
theorem Mm.touchN {w0 w w':World} {l:List (Nat × List Value)} {m:Option Nat} (M:Mm w0 (mbs m++l) w) (g:w.grownBy w' m):Mm w0 (mbs m++l) w':=by
 cases m with
 | none=>exact M.grownN g (fun b e=>by cases e)
 | some b=>exact Mm.touch M g
theorem Off.touchedN {w w':World} {m:Option Nat} (g:w.grownBy w' m):Off ((mbs m).map Prod.fst) w w':=by
 cases m with
 | none=>exact (Off.refl [] w).grown g fun b e=>by cases e
 | some b=>exact Off.touched g
def Cts (w:World) (m:Option Nat) (cnt:Int→Int):Prop:=∃ f,NM w m f∧∀ x,(f x=none∧(¬ (0≤x∧x≤255)∨cnt x=0))∨((0≤x∧x≤255)∧f x=some (.int .i64 (cnt x)))
abbrev Wls:=List (Int × (Nat × List Value))
def wpt (L:Wls) (x:Int):Option Value:=(L.lookup x).map fun b=>.pointer (some ⟨b.1,0,none⟩)
structure Wns (w:World) (m:Option Nat) (L:Wls) (win:Int→List Int):Prop where
 map:NM w m (wpt L)
 nd:L.Pairwise fun a b=>a.1≠b.1
 rng:∀ p∈L,0≤p.1∧p.1≤255
 is:∀ p∈L,VI (.pointer (some ⟨p.2.1,0,none⟩)) (win p.1) [p.2]
 gone:∀ x,L.lookup x=none→win x=[]
theorem Cts.off {w w':World} {X:List Nat} {m:Option Nat} {cnt:Int→Int} (h:Cts w m cnt) (o:Off X w w') (hX:∀ p∈mbs m,p.1∉X):Cts w' m cnt:=let ⟨f,h1,h2⟩:=h; ⟨f,h1.off o hX,h2⟩
theorem Cts.below {w w':World} {m:Option Nat} {cnt:Int→Int} (h:Cts w m cnt) (l:Below w.heap.size w w'):Cts w' m cnt:=let ⟨f,h1,h2⟩:=h; ⟨f,h1.below l,h2⟩
theorem Wns.off {w w':World} {X:List Nat} {m:Option Nat} {L:Wls} {win:Int→List Int} (h:Wns w m L win) (o:Off X w w') (hX:∀ p∈mbs m,p.1∉X):Wns w' m L win:=⟨h.map.off o hX,h.nd,h.rng,h.is,h.gone⟩
theorem Wns.below {w w':World} {m:Option Nat} {L:Wls} {win:Int→List Int} (h:Wns w m L win) (l:Below w.heap.size w w'):Wns w' m L win:=⟨h.map.below l,h.nd,h.rng,h.is,h.gone⟩
def wout (L:Wls) (x:Int):Wls:=L.filter fun p=>!(p.1 == x)
theorem lookup_mem {x:Int} {b:Nat × List Value}:∀ {L:Wls},L.lookup x=some b→(x,b)∈L
 | [],h=>by cases h
 | (y,c)::L,h=>by
   rw [List.lookup_cons] at h
   by_cases e:x=y
   · subst e
     rw [beq_self_eq_true] at h
     cases h
     exact mS
   · rw [beq_eq_false_iff_ne.2 e] at h
     exact mT _ (lookup_mem h)
theorem lookup_nil {x:Int}:∀ {L:Wls},L.lookup x=none→∀ p∈L,p.1≠x
 | [],_,_,hp=>by cases hp
 | (y,c)::L,h,p,hp=>by
   rw [List.lookup_cons] at h
   by_cases e:x=y
   · subst e
     rw [beq_self_eq_true] at h
     cases h
   · rw [beq_eq_false_iff_ne.2 e] at h
     rcases xc1 hp with rfl | hp
     · exact fun c=>e c.symm
     · exact lookup_nil h p hp
theorem wout_none {x:Int} {L:Wls} (h:L.lookup x=none):wout L x=L:=List.filter_eq_self.2 fun p hp=>by
 have:=lookup_nil h p hp
 simp [this]
theorem wout_other {x y:Int} (h:¬ y=x):∀ L:Wls,(wout L x).lookup y=L.lookup y
 | []=>rfl
 | (z,c)::L=>by
   unfold wout
   rw [List.filter_cons]
   by_cases e:z=x
   · subst e
     rw [if_neg (by simp),List.lookup_cons,beq_eq_false_iff_ne.2 h]
     exact wout_other h L
   · rw [if_pos (by simp [e]),List.lookup_cons,List.lookup_cons]
     split
     · rfl
     · exact wout_other h L
theorem wout_perm {x:Int} {b:Nat × List Value}:∀ {L:Wls},L.lookup x=some b→(L.Pairwise fun a b=>a.1≠b.1)→L.Perm ((x,b)::wout L x)
 | [],h,_=>by cases h
 | (y,c)::L,h,hp=>by
   rw [List.lookup_cons] at h
   obtain ⟨h1,h2⟩:=List.pairwise_cons.1 hp
   by_cases e:x=y
   · subst e
     rw [beq_self_eq_true] at h
     cases h
     unfold wout
     rw [List.filter_cons,if_neg (by simp),List.filter_eq_self.2 fun p hp=>by rw [beq_eq_false_iff_ne.2 fun c:p.1=x=>h1 p hp c.symm]; rfl]
   · rw [beq_eq_false_iff_ne.2 e] at h
     unfold wout
     rw [List.filter_cons,if_pos (by show (!(y == x))=true; rw [beq_eq_false_iff_ne.2 fun c:y=x=>e c.symm]; rfl)]
     exact ((wout_perm h h2).cons _).trans (List.Perm.swap _ _ _)
theorem wout_sub (L:Wls) (x:Int):(wout L x).Sublist L:=List.filter_sublist
theorem wout_ne {L:Wls} {x:Int} {p:Int × (Nat × List Value)} (h:p∈wout L x):p.1≠x:=by
 have:=(List.mem_filter.1 h).2
 simpa using this
theorem Wns.put {w w':World} {m m':Option Nat} {L:Wls} {win:Int→List Int} (h:Wns w m L win) {x:Int} (hx:0≤x∧x≤255) {b:Nat × List Value} {S:List Int} (hm:NM w' m' (fun y=>if y=x then some (.pointer (some ⟨b.1,0,none⟩)) else wpt L y)) (hb:VI (.pointer (some ⟨b.1,0,none⟩)) S [b]):Wns w' m' ((x,b)::wout L x) (fun y=>if y=x then S else win y):=by
 refine ⟨hm.congr fun y=>?_,List.pairwise_cons.2 ⟨fun p hp c=>wout_ne hp c.symm,h.nd.sublist (wout_sub L x)⟩,fun p hp=>?_,fun p hp=>?_,fun y hy=>?_⟩
 · unfold wpt
   rw [List.lookup_cons]
   by_cases e:y=x
   · rw [if_pos e,beq_iff_eq.2 e]; rfl
   · rw [if_neg e,beq_eq_false_iff_ne.2 e,wout_other e]
 · rcases xc1 hp with rfl | hp
   · exact hx
   · exact h.rng p ((wout_sub L x).subset hp)
 · rcases xc1 hp with rfl | hp
   · show VI _ (if x=x then S else win x) _
     rw [if_pos rfl]
     exact hb
   · rw [if_neg (wout_ne hp)]
     exact h.is p ((wout_sub L x).subset hp)
 · rw [List.lookup_cons] at hy
   by_cases e:y=x
   · rw [beq_iff_eq.2 e] at hy; cases hy
   · rw [beq_eq_false_iff_ne.2 e] at hy
     rw [if_neg e]
     rw [wout_other e] at hy
     exact h.gone y hy
theorem Wns.empty (w:World) (m:Option Nat) (h:NM w m (fun _=>none)) {win:Int→List Int} (hw:∀ x,win x=[]):Wns w m [] win:=⟨h,List.Pairwise.nil,(fun _ hp=>by cases hp),(fun _ hp=>by cases hp),fun x _=>hw x⟩
end
theorem ylt_in (k:Nat→Int):In 256 32 (ylt k):=kT_in k 12 _ 32 1
theorem yof_in (k:Nat→Int):In 256 32 (yof k):=kT_in k 10 _ 32 1
def BHashOK:Prop:=∀ (sp:Option Addr) (len cap:Nat),len≤140737488355072→len≤cap→(sp=none→cap=0)→∀ z:Nat→Int,In 256 len z→∀ w:World,BGlob w→Src w sp len z →
 Calls Tryz.prog 98 #[.slice sp len cap] w fun e w'=>e=.returned (.agg (row .u8 32 (bhash len z)).toArray)∧Below w.heap.size w w'
def BMacOK:Prop:=∀ (kp:Option Addr) (kl kc:Nat),kl≤140737488355072→kl≤kc→(kp=none→kc=0)→∀ key:Nat→Int,In 256 kl key→∀ (sp:Option Addr) (len cap:Nat),len≤140737488354816→len≤cap→(sp=none→cap=0)→∀ z:Nat→Int,In 256 len z→∀ w:World,BGlob w→Src w kp kl key→Src w sp len z →
 Calls Tryz.prog 83 #[.slice kp kl kc,.slice sp len cap] w fun e w'=>e=.returned (.agg (row .u8 32 (bmac kl key len z)).toArray)∧Below w.heap.size w w'
theorem bst_info (f:Nat→Int):(Tryz.prog.info? 171).map (·.size)=some (row .u32 8 f).length:=by rw [row_length]; kernel_rfl
theorem bst_info' (f:Nat→Int):(Tryz.prog.info? 171).map (·.size)=some (row .u32 8 f).toArray.size:=by rw [List.size_toArray]; exact bst_info f
theorem bst_there {w:World} {b:Nat} {f g:Nat→Int} (h:Has w b .u32 8 f):w.there b 0 (row .u32 8 g).toArray.size:=by rw [List.size_toArray,row_length]; exact h.there
theorem bst_zero (w:World) (t:TypeId) (b:Nat) (hb:b=w.heap.size):Has (w.alloc (.cells zu32_8 t)) b .u32 8 (fun _=>0):=Has.new w .u32 8 (fun _=>0) t b hb
theorem bwd_info (f:Nat→Int):(Tryz.prog.info? 124).map (·.size)=some (row .u32 16 f).length:=by rw [row_length]; kernel_rfl
theorem bwd_info' (f:Nat→Int):(Tryz.prog.info? 124).map (·.size)=some (row .u32 16 f).toArray.size:=by rw [List.size_toArray]; exact bwd_info f
theorem bwd_zero (w:World) (t:TypeId) (b:Nat) (hb:b=w.heap.size):Has (w.alloc (.cells zu32_16 t)) b .u32 16 (fun _=>0):=Has.new w .u32 16 (fun _=>0) t b hb
theorem bpc_zero (w:World) (t:TypeId) (b:Nat) (hb:b=w.heap.size):Has (w.alloc (.cells zu8_64 t)) b .u8 64 (fun _=>0):=Has.new w .u8 64 (fun _=>0) t b hb
theorem ixS (b i:Nat) (hi:i<8) (w:World) {o:Oper} {a:Act} (x y:Operand) (ho:o.op=.indexAddr 171 x y) (hx:a.eval x=.pointer (some ⟨b,0,none⟩)) (hy:a.eval y=.int .i64 (i:Int)) :
 (execOp a.eval o).run Tryz.prog w=.ok (.value (.pointer (some ⟨b,i,none⟩))) w:=by
 have h:=idxArr (P:=Tryz.prog) 171 87 8 .i64 b 0 i x y Tryz.underlying171 (fun _=>by kernel_rfl) hi ho hx hy w
 rw [Nat.zero_add] at h
 exact h
theorem ixW (b i:Nat) (hi:i<16) (w:World) {o:Oper} {a:Act} (x y:Operand) (ho:o.op=.indexAddr 124 x y) (hx:a.eval x=.pointer (some ⟨b,0,none⟩)) (hy:a.eval y=.int .i64 (i:Int)) :
 (execOp a.eval o).run Tryz.prog w=.ok (.value (.pointer (some ⟨b,i,none⟩))) w:=by
 have h:=idxArr (P:=Tryz.prog) 124 87 16 .i64 b 0 i x y Tryz.underlying124 (fun _=>by kernel_rfl) hi ho hx hy w
 rw [Nat.zero_add] at h
 exact h
theorem ixWb (b i:Nat) (hi:i<16) (w:World) {o:Oper} {a:Act} (x y:Operand) (ho:o.op=.indexAddr 124 x y) (hx:a.eval x=.pointer (some ⟨b,0,none⟩)) (hy:a.eval y=.int .u8 (i:Int)) :
 (execOp a.eval o).run Tryz.prog w=.ok (.value (.pointer (some ⟨b,i,none⟩))) w:=by
 have h:=idxArr (P:=Tryz.prog) 124 87 16 .u8 b 0 i x y Tryz.underlying124 (fun _=>by kernel_rfl) hi ho hx hy w
 rw [Nat.zero_add] at h
 exact h
theorem ixV (b i:Nat) (hi:i<8) (w:World) {o:Oper} {a:Act} (x y:Operand) (ho:o.op=.indexAddr 170 x y) (hx:a.eval x=.pointer (some ⟨b,0,none⟩)) (hy:a.eval y=.int .i64 (i:Int)) :
 (execOp a.eval o).run Tryz.prog w=.ok (.value (.pointer (some ⟨b,i,none⟩))) w:=by
 have h:=idxArr (P:=Tryz.prog) 170 87 8 .i64 b 0 i x y Tryz.underlying170 (fun _=>by kernel_rfl) hi ho hx hy w
 rw [Nat.zero_add] at h
 exact h
theorem bcut_64 (b k:Nat) (hk:k<16) (w:World):(Instr.sliceAt 104 (.pointer (some ⟨b,0,none⟩)) (some (.int .i64 (4*(k:Int)))) none none).run Tryz.prog w=.ok (.slice (some ⟨b,4*k,none⟩) (64-4*k) (64-4*k)) w:=by
 have hl:Tryz.prog.arrayLen 104=64:=by kernel_rfl
 have hs:∀ w,(sizeOf (Tryz.prog.elem 104)).run Tryz.prog w=.ok 1 w:=fun w=>by kernel_rfl
 rw [run_sliceAt_array_l w 104 ⟨b,0,none⟩ (by kernel_rfl) .i64 _ (by omega) (by rw [hl]; omega),hs,hl]
 simp only [Result.andThen,slicedAt]
 have e1:(4*(k:Int)).toNat=4*k:=by omega
 rw [e1,if_neg (by omega),Addr.add_mid,Nat.zero_add,Nat.mul_one]
theorem bcut_key (b k:Nat) (hk:k<8) (w:World):(Instr.sliceAt 23 (.pointer (some ⟨b,0,none⟩)) (some (.int .i64 (4*(k:Int)))) none none).run Tryz.prog w=.ok (.slice (some ⟨b,4*k,none⟩) (32-4*k) (32-4*k)) w:=by
 have hl:Tryz.prog.arrayLen 23=32:=by kernel_rfl
 have hs:∀ w,(sizeOf (Tryz.prog.elem 23)).run Tryz.prog w=.ok 1 w:=fun w=>by kernel_rfl
 rw [run_sliceAt_array_l w 23 ⟨b,0,none⟩ (by kernel_rfl) .i64 _ (by omega) (by rw [hl]; omega),hs,hl]
 simp only [Result.andThen,slicedAt]
 have e1:(4*(k:Int)).toNat=4*k:=by omega
 rw [e1,if_neg (by omega),Addr.add_mid,Nat.zero_add,Nat.mul_one]
theorem hxr_assoc (a b c:Int) (ha:0≤a∧a<V) (hb:0≤b∧b<V) (hc:0≤c∧c<V):hxr (hxr a b) c=hxr a (hxr b c):=by
 obtain ⟨a,rfl⟩:=xiN ha.1
 obtain ⟨b,rfl⟩:=xiN hb.1
 obtain ⟨c,rfl⟩:=xiN hc.1
 have a2:=ha.2; have b2:=hb.2; have c2:=hc.2
 simp only [V] at a2 b2 c2
 have h1:a ^^^ b<2^32:=Nat.xor_lt_two_pow (by omega) (by omega)
 have h2:b ^^^ c<2^32:=Nat.xor_lt_two_pow (by omega) (by omega)
 unfold hxr
 rw [u32_xor_nat a b (by omega) (by omega),u32_xor_nat b c (by omega) (by omega),u32_xor_nat _ c (by omega) (by omega),u32_xor_nat a _ (by omega) (by omega),Nat.xor_assoc]
theorem bload_any (sp:Option Addr) (len cap:Nat) (hlen:len≤64) (z:Nat→Int) (hz:In 256 len z) (w:World) (hs:Src w sp len z) :
 Calls Tryz.prog 114 #[.slice sp len cap] w fun e w'=>e=.returned (.agg (row .u32 16 (bpw (padz len z))).toArray)∧Below w.heap.size w w':=by
 have K:=Kr.init w; replace K:=K.make 16 zu32_16 124 (w.heap.size) rfl (bwd_zero _ _ _ rfl).there; replace K:=K.boxO .u8 64 (fun _=>0) (.cells zu8_64 104) (w.heap.size+1) (by simp) (bpc_zero _ _ _ (by simp))
 go_enter Tryz.func114,Tryz.ntmps114
 go_upto_region 2 with fail; generalize ((w.alloc (.cells zu32_16 124)).alloc (.cells zu8_64 104))=w0 at K ⊢; have HR:=K.get _ _ _ _ mS; replace K:=K.loose [] (w.heap.size+1) .u8 64 (fun _=>0) mS (fun _ hp=>by cases hp) (fun _ hp=>by cases hp) (by omega); refine wp_region_list ?_; refine xpL (.slice (some ⟨w.heap.size+1,0,none⟩) 64 64) ?_; refine xpL (.slice sp len cap) ?_
 refine xaL (.int .i64 (len:Int)) (run_copy_src _ _ 29 29 5 rfl Tryz.underlying29 (by kernel_rfl) (w.heap.size+1) 64 64 len cap 64 sp z rfl rfl hlen hlen HR.there (hs.below K.below (xnR _))) ?_; replace K:=K.fill (w.heap.size+1) 64 mS (row .u8 len z)
 replace HR:=(HR.part 0 len (by omega) z).congr (g:=padz len z) (fun j hj=>by
  unfold over padz
  by_cases e:j<len
  · rw [if_pos (by omega),if_pos e,Nat.sub_zero]
  · rw [if_neg (by omega),if_neg e])
 replace K:=K.settle [(w.heap.size,16)] (w.heap.size+1) .u8 64 (padz len z) mS (fun q hq=>mT _ hq) (fun q hq=>by obtain rfl:=xm1 hq; simp only; omega) HR; generalize w0.setCells (w.heap.size+1) 0 (row .u8 len z)=w1 at K ⊢; clear HR w0 hs; show Exit.then _ _ _ _ _; go_upto_region 3 with fail; have zX:=K.size
 replace K:=K.boxO .u32 16 (fun _=>0) (.cells zu32_16 124) w1.heap.size rfl (bwd_zero _ _ _ rfl); go_upto_region 4 with fail; generalize hw:w1.alloc (.cells zu32_16 124)=w2 at K ⊢; clear hw; generalize w1.heap.size=X at *; have hp:=padz_in len z hz 64; generalize hpp:padz len z=p at *; go_wp2
 go_loopw [9] (fun i w'=>∃ (n:Nat) (f:Nat→Int),n≤16∧i=.int .i64 n∧Kr w (X+1) [(X,.u32,16,f),(w.heap.size+1,.u8,64,p)] [(w.heap.size,16)] w'∧∀ j,j<n→f j=bpw p j) (fun i _=>16-(intOf i).toNat)
 case atStart=>exact ⟨0,_,by omega,rfl,K,fun j hj=>by omega⟩
 case round =>
  clear K
  obtain ⟨n,f,hn,rfl,K,hd⟩:=hrel
  have g1:(0:Int)≤(n:Int):=by omega
  by_cases hlt:n<16
  · have g2:(n:Int)<16:=by omega
    go_upto_region 7 with fail; refine wp_region_list ?_; refine xpL (.int .i64 (n:Int)) ?_; refine xpL (.int .i64 (n:Int)) ?_; refine xqL (.int .i64 (4*(n:Int))) (fun w=>mulI .i64 4 (n:Int) _ _ _ _ _ rfl rfl rfl (by rw [xw6]; omega) w) ?_
    refine xqL (.slice (some ⟨w.heap.size+1,4*n,none⟩) (64-4*n) (64-4*n)) (fun w'=>cutOp _ _ _ _ _ _ rfl rfl rfl (bcut_64 (w.heap.size+1) n hlt w')) ?_; refine xcL (of32_any (w.heap.size+1) (4*n) 64 (64-4*n) (64-4*n) p (by omega) (by omega) hp _ (K.get _ _ _ _ (mT _ mS))) ?_; rintro e w3 ⟨q,rfl,rfl⟩; replace K:=K.drewN (q:=q); refine xeL ?_
    refine xqL (.pointer (some ⟨X,n,none⟩)) (fun w'=>ixW X n hlt w' _ _ rfl rfl rfl) ?_
    refine storeL .u32 (w32 p (4*n)) X n 87 _ _ rfl rfl rfl rfl (by rw [(K.get _ _ _ _ mS).cell n hlt]; rfl) ((K.get _ _ _ _ mS).free n hlt) (by kernel_rfl) ?_
    simp only [Act.put]; replace K:=K.setCell [(w.heap.size+1,.u8,64,p)] X .u32 16 f n hlt (w32 p (4*n)) mS (fun p hp=>by obtain rfl:=xm1 hp; exact (mT _ mS)) (fun p hp=>by obtain rfl:=xm1 hp; simp only; omega) (by omega)
    have HS:=show Hid _ from (And.intro K (show ∀ j,j<n+1→upd f n (w32 p (4*n)) j=bpw p j from fun j hj=>by
     by_cases e:j=n
     · subst e; rw [upd_same]; rfl
     · rw [upd_other _ _ _ _ e]; exact hd j (by omega)))
    clear K hd; generalize (wr.drewN q).setCell ⟨X,n,none⟩ (.int .u32 (w32 p (4*n)))=w4 at HS ⊢; generalize upd f n (w32 p (4*n))=f' at HS
    show Exit.inBlock _ _ _ _ _
    go_wp2
    go_roundw
    case rel=>first | exact ⟨n+1,f',by omega,by go_num,HS.out⟩ | ((repeat apply Exists.intro); refine ⟨⟨n+1,f',by omega,by go_num,HS.out⟩,rfl⟩)
    case measure=>simp [intOf]; omega
  · obtain rfl:n=16:=by omega
    have HR:=(K.get _ _ _ _ mS).congr (g:=bpw p) (fun j hj=>hd j hj)
    have hz':=(K.room _ mS).1
    have hB:=(K.fill _ _ mS (row .u32 16 (bpw p))).below; clear K hd hlt hn g1; generalize hf:bpw p=g at *
    go_wp2_with (first | (refine wpList_load_mid rfl 124 _ rfl (X) 0 rfl (row .u32 16 (g)) _ (Has.range (HR)) Tryz.underlying124 rfl (bwd_info _) ?_) | (refine wpList_store_mid rfl 124 _ _ rfl (w.heap.size) 0 (row .u32 16 g).toArray rfl rfl (room_of hz') (bwd_info' _) (all_oneCell_toArray (row_one _ _ _)) ?_))
    exact bodyPost_ret (v:=(.agg (row .u32 16 (g)).toArray)) (results_row Tryz.results114 rfl (Has.all hz' .u32 g).range Tryz.underlying124 rfl (bwd_info g)) rfl ⟨by rw [← hf,← hpp],hB⟩
theorem bbegin_any (kl size:Nat) (hk:kl≤32) (hz:size≤32) (w:World) (hg:BGlob w) :
 Calls Tryz.prog 109 #[.int .i64 (kl:Int),.int .i64 (size:Int)] w fun e w'=>e=.returned (.agg (row .u32 8 (bh0 kl size)).toArray)∧Below w.heap.size w w':=by
 have K:=Kr.init w; replace K:=K.make 8 zu32_8 171 (w.heap.size) rfl (bst_zero _ _ _ rfl).there; replace K:=K.boxO .u32 8 (fun _=>0) (.cells zu32_8 171) (w.heap.size+1) (by simp) (bst_zero _ _ _ (by simp))
 go_enter Tryz.func109,Tryz.ntmps109
 go_upto_region 2 with fail; generalize ((w.alloc (.cells zu32_8 171)).alloc (.cells zu32_8 171))=w0 at K ⊢; go_wp2
 go_loopw [7] (fun i w'=>∃ (n:Nat) (f:Nat→Int),n≤8∧i=.int .i64 n∧Kr w (w.heap.size+1+1) [(w.heap.size+1,.u32,8,f)] [(w.heap.size,8)] w'∧∀ j,j<n→f j=iv j) (fun i _=>8-(intOf i).toNat)
 case atStart=>exact ⟨0,_,by omega,rfl,K,fun j hj=>by omega⟩
 case round =>
  clear K
  obtain ⟨n,f,hn,rfl,K,hd⟩:=hrel
  have g1:(0:Int)≤(n:Int):=by omega
  by_cases hlt:n<8
  · have g2:(n:Int)<8:=by omega
    go_upto_region 5 with fail; refine wp_region_list ?_; refine xpL (.int .i64 (n:Int)) ?_; refine xpL (.int .i64 (n:Int)) ?_; refine xqL (.pointer (some ⟨5,n,none⟩)) (fun w'=>ixV 5 n hlt w' _ _ rfl rfl rfl) ?_; refine cellL .u32 (.int .u32 (iv n)) 5 n 87 _ rfl rfl rfl Tryz.underlying87 ((hg.below K.below hg.size).first n hlt) ?_; simp only [aP,lI,l0,lS]
    refine xqL (.pointer (some ⟨w.heap.size+1,n,none⟩)) (fun w'=>ixS (w.heap.size+1) n hlt w' _ _ rfl rfl rfl) ?_
    refine storeL .u32 (iv n) (w.heap.size+1) n 87 _ _ rfl rfl rfl rfl (by rw [(K.get _ _ _ _ mS).cell n hlt]; rfl) ((K.get _ _ _ _ mS).free n hlt) (by kernel_rfl) ?_
    simp only [Act.put]; replace K:=K.setCell [] (w.heap.size+1) .u32 8 f n hlt (iv n) mS (fun _ hp=>by cases hp) (fun _ hp=>by cases hp) (by omega)
    have HS:=show Hid _ from (And.intro K (show ∀ j,j<n+1→upd f n (iv n) j=iv j from fun j hj=>by
     by_cases e:j=n
     · subst e; rw [upd_same]
     · rw [upd_other _ _ _ _ e]; exact hd j (by omega)))
    clear K hd; generalize wr.setCell ⟨w.heap.size+1,n,none⟩ (.int .u32 (iv n))=w4 at HS ⊢; generalize upd f n (iv n)=f' at HS
    show Exit.inBlock _ _ _ _ _
    go_wp2
    go_roundw
    case rel=>first | exact ⟨n+1,f',by omega,by go_num,HS.out⟩ | ((repeat apply Exists.intro); refine ⟨⟨n+1,f',by omega,by go_num,HS.out⟩,rfl⟩)
    case measure=>simp [intOf]; omega
  · obtain rfl:n=8:=by omega
    have i0:=iv_in 0 (by omega)
    have i1:0≤(16842752:Int)∧(16842752:Int)<V:=by decide
    have i2:0≤256*(kl:Int)∧256*(kl:Int)<V:=by simp only [V]; omega
    have i3:0≤(size:Int)∧(size:Int)<V:=by simp only [V]; omega
    have HX:hxr (f 0) (hxr (hxr 16842752 (256*(kl:Int))) (size:Int))=hxr (hxr (hxr (iv 0) 16842752) (256*(kl:Int))) (size:Int):=by
     rw [hd 0 (by omega),hxr_assoc (hxr (iv 0) 16842752) _ _ (hxr_in _ _ i0 i1) i2 i3,hxr_assoc (iv 0) _ _ i0 i1 (hxr_in _ _ i2 i3),hxr_assoc 16842752 _ _ i1 i2 i3]
    go_upto_region 7 with fail; refine wp_region_list ?_; refine xqL (.pointer (some ⟨w.heap.size+1,0,none⟩)) (fun w'=>ixS (w.heap.size+1) 0 (by decide) w' _ _ rfl rfl rfl) ?_; refine cellL .u32 (.int .u32 (f 0)) (w.heap.size+1) 0 87 _ rfl rfl rfl Tryz.underlying87 ((K.get _ _ _ _ mS).cell 0 (by decide)) ?_; simp only [aP,lI,l0,lS]; refine xpL (.int .i64 (kl:Int)) ?_
    refine xqL (.int .u32 (kl:Int)) (fun w=>convI .i64 .u32 _ _ _ _ _ rfl (by kernel_rfl) Tryz.underlying87 (by kernel_rfl) rfl (by rw [IntKind.wrap_u32']; omega) w) ?_
    refine xqL (.int .u32 (256*(kl:Int))) (fun w=>bshlI .u32 .u64 _ 8 _ _ _ _ _ rfl rfl rfl (by decide) (by rw [IntKind.wrap_u32',show (2:Int)^min (8:Int).toNat IntKind.u32.bits=256 from by decide]; omega) w) ?_
    refine xqL (.int .u32 (hxr 16842752 (256*(kl:Int)))) (fun w=>xorI .u32 _ _ _ _ _ _ _ rfl rfl rfl rfl w) ?_; refine xpL (.int .i64 (size:Int)) ?_; refine xqL (.int .u32 (size:Int)) (fun w=>convI .i64 .u32 _ _ _ _ _ rfl (by kernel_rfl) Tryz.underlying87 (by kernel_rfl) rfl (by rw [IntKind.wrap_u32']; omega) w) ?_
    refine xqL (.int .u32 (hxr (hxr 16842752 (256*(kl:Int))) (size:Int))) (fun w=>xorI .u32 _ _ _ _ _ _ _ rfl rfl rfl rfl w) ?_; refine xqL (.int .u32 (hxr (hxr (hxr (iv 0) 16842752) (256*(kl:Int))) (size:Int))) (fun w=>xorI .u32 _ _ _ _ _ _ _ rfl rfl rfl HX w) ?_
    refine xqL (.pointer (some ⟨w.heap.size+1,0,none⟩)) (fun w'=>ixS (w.heap.size+1) 0 (by decide) w' _ _ rfl rfl rfl) ?_
    refine storeL .u32 (hxr (hxr (hxr (iv 0) 16842752) (256*(kl:Int))) (size:Int)) (w.heap.size+1) 0 87 _ _ rfl rfl rfl rfl (by rw [(K.get _ _ _ _ mS).cell 0 (by decide)]; rfl) ((K.get _ _ _ _ mS).free 0 (by decide)) (by kernel_rfl) ?_
    simp only [Act.put]; replace K:=K.setCell [] (w.heap.size+1) .u32 8 f 0 (by decide) (hxr (hxr (hxr (iv 0) 16842752) (256*(kl:Int))) (size:Int)) mS (fun _ hp=>by cases hp) (fun _ hp=>by cases hp) (by omega)
    have HR:=(K.get _ _ _ _ mS).congr (g:=bh0 kl size) (fun j hj=>by
     unfold bh0
     by_cases e:j=0
     · subst e; rw [upd_same,upd_same]
     · rw [upd_other _ _ _ _ e,upd_other _ _ _ _ e]; exact hd j hj)
    generalize wr.setCell ⟨w.heap.size+1,0,none⟩ (.int .u32 (hxr (hxr (hxr (iv 0) 16842752) (256*(kl:Int))) (size:Int)))=w5 at K HR ⊢
    have hz':=(K.room _ mS).1
    have hB:=(K.fill _ _ mS (row .u32 8 (bh0 kl size))).below; clear K hd hlt hn g1 HX; generalize hf:bh0 kl size=g at *; show Exit.then _ _ _ _ _
    go_wp2_with (first | (refine wpList_load_mid rfl 171 _ rfl (w.heap.size+1) 0 rfl (row .u32 8 (g)) _ (Has.range (HR)) Tryz.underlying171 rfl (bst_info _) ?_) | (refine wpList_store_mid rfl 171 _ _ rfl (w.heap.size) 0 (row .u32 8 g).toArray rfl rfl (room_of hz') (bst_info' _) (all_oneCell_toArray (row_one _ _ _)) ?_))
    exact bodyPost_ret (v:=(.agg (row .u32 8 (g)).toArray)) (results_row Tryz.results109 rfl (Has.all hz' .u32 g).range Tryz.underlying171 rfl (bst_info g)) rfl ⟨rfl,hB⟩
theorem bout_over {h:Nat→Int} {n:Nat} {g:Nat→Int} (hd:∀ j,j<4*n→g j=bout h j) (j:Nat) (hj:j<4*(n+1)):over g (4*n) 4 (b32 (h n)) j=bout h j:=by
 unfold over
 by_cases e:4*n≤j∧j<4*n+4
 · rw [if_pos e]
   unfold bout
   rw [show j/4=n by omega,show j%4=j-4*n by omega]
 · rw [if_neg e]; exact hd j (by omega)
theorem bbytes_any (h:Nat→Int) (w:World) :
 Calls Tryz.prog 110 #[(.agg (row .u32 8 (h)).toArray)] w fun e w'=>e=.returned (.agg (row .u8 32 (bout h)).toArray)∧Below w.heap.size w w':=by
 have K:=Kr.init w; replace K:=K.box .u32 8 h 171 (w.heap.size) rfl; replace K:=K.make 32 zu8_32 23 (w.heap.size+1) (by simp) (key_zero _ _ _ (by simp)).there; replace K:=K.make 32 zu8_32 23 (w.heap.size+1+1) (by simp) (key_zero _ _ _ (by simp)).there; have H:=key_zero ((w.alloc (.cells (row .u32 8 h).toArray 171)).alloc (.cells zu8_32 23)) 23 (w.heap.size+1+1) (by simp)
 go_enter Tryz.func110,Tryz.ntmps110
 go_upto_region 2 with fail; generalize (((w.alloc (.cells (row .u32 8 h).toArray 171)).alloc (.cells zu8_32 23)).alloc (.cells zu8_32 23))=w0 at K H ⊢; go_wp2
 go_loopw [5] (fun i w'=>∃ (n:Nat) (g:Nat→Int),n≤8∧i=.int .i64 n∧Kr w (w.heap.size+1+1+1) [(w.heap.size,.u32,8,h)] [(w.heap.size+1+1,32),(w.heap.size+1,32)] w'∧Has w' (w.heap.size+1+1) .u8 32 g∧∀ j,j<4*n→g j=bout h j) (fun i _=>8-(intOf i).toNat)
 case atStart=>exact ⟨0,_,by omega,rfl,K,H,fun j hj=>by omega⟩
 case round =>
  clear K H
  obtain ⟨n,g,hn,rfl,K,H,hd⟩:=hrel
  have g1:(0:Int)≤(n:Int):=by omega
  by_cases hlt:n<8
  · have g2:(n:Int)<8:=by omega
    have HD:=show Hid _ from fun j hj=>bout_over hd j hj; clear hd; go_upto_region 5 with fail; refine wp_region_held_drew (S:=fun w'=>Kr w (w.heap.size+1+1+1) [(w.heap.size,.u32,8,h)] [(w.heap.size+1+1,32),(w.heap.size+1,32)] w') (by kernel_rfl) K.drew ?_; clear K; intro K; replace H:=H.drew; refine xpH 0 8 (.int .i64 (n:Int)) K ?_
    refine xqH 1 9 rfl (.int .i64 (4*(n:Int))) (fun w=>mulI .i64 4 (n:Int) _ _ _ _ _ rfl rfl rfl (by rw [xw6]; omega) w) K ?_; refine xqH 2 10 rfl (.slice (some ⟨w.heap.size+1+1,4*n,none⟩) (32-4*n) (32-4*n)) (fun w'=>cutOp _ _ _ _ _ _ rfl rfl rfl (bcut_key (w.heap.size+1+1) n hlt w')) K ?_; refine xpH 3 11 (.int .i64 (n:Int)) K ?_
    refine xqH 4 12 rfl (.pointer (some ⟨w.heap.size,n,none⟩)) (fun w'=>ixS (w.heap.size) n hlt w' _ _ rfl rfl rfl) K ?_; refine cellH (i:=5) (some 13) rfl .u32 (.int .u32 (h n)) (w.heap.size) n 87 _ rfl rfl rfl rfl (by kernel_rfl) (by kernel_rfl) (by kernel_rfl) (fun _ _ _ h=>h) Tryz.underlying87 K (fun _ h=>(h.get _ _ _ _ mS).cell n hlt) ?_; simp only [aP,lI,l0,lS]
    refine callH (i:=6) (some 14) rfl (by kernel_rfl) rfl rfl (fun _=>by kernel_rfl) (put32_any (w.heap.size+1+1) (4*n) 32 (32-4*n) (32-4*n) (by omega) g (h n) (by omega) _ H) ?_; rintro e w' ⟨rfl,rfl⟩; replace K:=K.poke (w.heap.size+1+1) 32 mS (4*n) (row .u8 4 (b32 (h n))); replace H:=H.part (4*n) 4 (by omega) (b32 (h n))
    refine ⟨_,rfl,K,?_⟩
    simp only [aP,lI,l0,lS]
    refine wpAnyH_done (by kernel_rfl) ?_ _
    have HS:=show Hid _ from (And.intro K (And.intro H HD.out)); clear K H HD; generalize (wr.drew.setCells (w.heap.size+1+1) (4*n) (row .u8 4 (b32 (h n))))=w6 at *; go_wp2
    go_roundw
    case rel=>first | exact ⟨n+1,_,by omega,by go_num,HS.out⟩ | ((repeat apply Exists.intro); refine ⟨⟨n+1,_,by omega,by go_num,HS.out⟩,rfl⟩)
    case measure=>simp [intOf]; omega
  · obtain rfl:n=8:=by omega
    have h1:=H.congr (g:=bout h) (fun j hj=>hd j (by omega)); have hz:=(K.room _ (mT _ mS)).1; have hB:=(K.fill _ _ (mT _ mS) (row .u8 32 (bout h))).below; clear K H hd hlt hn g1; generalize hf:bout h=f at *
    go_wp2_with (first | (refine wpList_load_mid rfl 23 _ rfl (w.heap.size+1+1) 0 rfl (row .u8 32 (f)) _ (Has.range (h1)) Tryz.underlying23 rfl (key_info _) ?_) | (refine wpList_store_mid rfl 23 _ _ rfl (w.heap.size+1) 0 (row .u8 32 f).toArray rfl rfl (room_of hz) (key_info' _) (all_oneCell_toArray (row_one _ _ _)) ?_))
    exact bodyPost_ret (v:=(.agg (row .u8 32 (f)).toArray)) (results_row Tryz.results110 rfl (Has.all hz .u8 _).range Tryz.underlying23 rfl (key_info _)) rfl ⟨rfl,hB⟩
theorem bspread_any (h:Nat→Int) (t:Int) (last:Bool) (w:World) (hg:BGlob w) :
 Calls Tryz.prog 115 #[(.agg (row .u32 8 (h)).toArray),.int .u64 t,.bool last] w fun e w'=>e=.returned (.agg (row .u32 16 (bst h t last)).toArray)∧Below w.heap.size w w':=by
 have K:=Kr.init w; replace K:=K.box .u32 8 h 171 (w.heap.size) rfl; replace K:=K.make 16 zu32_16 124 (w.heap.size+1) (by simp) (bwd_zero _ _ _ (by simp)).there; replace K:=K.boxO .u32 16 (fun _=>0) (.cells zu32_16 124) (w.heap.size+1+1) (by simp) (bwd_zero _ _ _ (by simp))
 go_enter Tryz.func115,Tryz.ntmps115
 go_upto_region 2 with fail; generalize (((w.alloc (.cells (row .u32 8 h).toArray 171)).alloc (.cells zu32_16 124)).alloc (.cells zu32_16 124))=w0 at K ⊢; go_wp2
 go_loopw [9] (fun i w'=>∃ (n:Nat) (f:Nat→Int),n≤8∧i=.int .i64 n∧Kr w (w.heap.size+1+1+1) [(w.heap.size+1+1,.u32,16,f),(w.heap.size,.u32,8,h)] [(w.heap.size+1,16)] w'∧∀ j,j<n→f j=h j∧f (j+8)=iv j) (fun i _=>8-(intOf i).toNat)
 case atStart=>exact ⟨0,_,by omega,rfl,K,fun j hj=>by omega⟩
 case round =>
  clear K
  obtain ⟨n,f,hn,rfl,K,hd⟩:=hrel
  have g1:(0:Int)≤(n:Int):=by omega
  by_cases hlt:n<8
  · have g2:(n:Int)<8:=by omega
    have l8:n<16:=by omega
    have l88:n+8<16:=by omega
    go_upto_region 5 with fail; have HR:=(K.get _ _ _ _ mS).drew; replace K:=K.loose [(w.heap.size,.u32,8,h)] (w.heap.size+1+1) .u32 16 f mS (fun p hp=>by obtain rfl:=xm1 hp; exact (mT _ mS)) (fun p hp=>by obtain rfl:=xm1 hp; simp only; omega) (by omega)
    refine wp_region_held_drew (S:=fun w'=>Kr w (w.heap.size+1+1+1) [(w.heap.size,.u32,8,h)] [(w.heap.size+1+1,16),(w.heap.size+1,16)] w') (by kernel_rfl) K.drew ?_; clear K; intro K; generalize wr.drew=w1 at K HR ⊢; refine xpH 0 12 (.int .i64 (n:Int)) K ?_; refine xpH 1 13 (.int .i64 (n:Int)) K ?_
    refine xqH 2 14 rfl (.int .i64 ((n+8:Nat):Int)) (fun w=>addI .i64 _ _ _ _ _ _ _ rfl rfl rfl (by rw [xw6]; omega) w) K ?_; refine xpH 3 15 (.int .i64 (n:Int)) K ?_; refine xqH 4 16 rfl (.pointer (some ⟨w.heap.size,n,none⟩)) (fun w'=>ixS (w.heap.size) n hlt w' _ _ rfl rfl rfl) K ?_
    refine cellH (i:=5) (some 17) rfl .u32 (.int .u32 (h n)) (w.heap.size) n 87 _ rfl rfl rfl rfl (by kernel_rfl) (by kernel_rfl) (by kernel_rfl) (fun _ _ _ h=>h) Tryz.underlying87 K (fun _ h=>(h.get _ _ _ _ mS).cell n hlt) ?_; simp only [aP,lI,l0,lS]; refine xpH 6 18 (.int .i64 (n:Int)) K ?_
    refine xqH 7 19 rfl (.pointer (some ⟨5,n,none⟩)) (fun w'=>ixV 5 n hlt w' _ _ rfl rfl rfl) K ?_; refine cellH (i:=8) (some 20) rfl .u32 (.int .u32 (iv n)) 5 n 87 _ rfl rfl rfl rfl (by kernel_rfl) (by kernel_rfl) (by kernel_rfl) (fun _ _ _ h=>h) Tryz.underlying87 K (fun _ h=>(hg.below h.below hg.size).first n hlt) ?_; simp only [aP,lI,l0,lS]
    refine xqH 9 21 rfl (.pointer (some ⟨w.heap.size+1+1,n,none⟩)) (fun w'=>ixW (w.heap.size+1+1) (n) l8 w' _ _ rfl rfl rfl) K ?_
    refine storeH (i:=10) none rfl .u32 (h n) (w.heap.size+1+1) (n) 87 _ _ (by kernel_rfl) rfl rfl rfl rfl rfl (by rw [HR.cell (n) l8]; rfl) (HR.free (n) l8) (by kernel_rfl) (K.poke (w.heap.size+1+1) 16 mS (n) [.int .u32 (h n)]) ?_
    simp only [Act.put]; replace K:=K.poke (w.heap.size+1+1) 16 mS (n) [.int .u32 (h n)]; replace HR:=HR.set (n) l8 (h n); refine xqH 11 22 rfl (.pointer (some ⟨w.heap.size+1+1,n+8,none⟩)) (fun w'=>ixW (w.heap.size+1+1) (n+8) l88 w' _ _ rfl rfl rfl) K ?_
    refine storeH (i:=12) none rfl .u32 (iv n) (w.heap.size+1+1) (n+8) 87 _ _ (by kernel_rfl) rfl rfl rfl rfl rfl (by rw [HR.cell (n+8) l88]; rfl) (HR.free (n+8) l88) (by kernel_rfl) (K.poke (w.heap.size+1+1) 16 mS (n+8) [.int .u32 (iv n)]) ?_
    simp only [Act.put]; replace K:=K.poke (w.heap.size+1+1) 16 mS (n+8) [.int .u32 (iv n)]; replace HR:=HR.set (n+8) l88 (iv n)
    refine wpAnyH_done (by kernel_rfl) ?_ _
    replace K:=K.settle [(w.heap.size+1,16)] (w.heap.size+1+1) .u32 16 (upd (upd f n (h n)) (n+8) (iv n)) mS (fun q hq=>mT _ hq) (fun q hq=>by obtain rfl:=xm1 hq; simp only; omega) HR
    have HS:=show Hid _ from (And.intro K (show ∀ j,j<n+1→(upd (upd f n (h n)) (n+8) (iv n)) j=h j∧(upd (upd f n (h n)) (n+8) (iv n)) (j+8)=iv j from fun j hj=>by
     by_cases e:j=n
     · subst e; rw [upd_other _ _ _ _ (show j≠j+8 by omega),upd_same,upd_same]; exact ⟨rfl,rfl⟩
     · rw [upd_other _ _ _ _ (show j≠n+8 by omega),upd_other _ _ _ _ e,upd_other _ _ _ _ (show j+8≠n+8 by omega),upd_other _ _ _ _ (show j+8≠n by omega)]; exact hd j (by omega)))
    clear K HR hd; generalize (upd (upd f n (h n)) (n+8) (iv n))=f' at HS; go_wp2
    go_roundw
    case rel=>first | exact ⟨n+1,f',by omega,by go_num,HS.out⟩ | ((repeat apply Exists.intro); refine ⟨⟨n+1,f',by omega,by go_num,HS.out⟩,rfl⟩)
    case measure=>simp [intOf]; omega
  · obtain rfl:n=8:=by omega
    have HR:=(K.get _ _ _ _ mS).congr (g:=app h 8 iv) (fun j hj=>by
     unfold app
     by_cases e:j<8
     · rw [if_pos e]; exact (hd j e).1
     · rw [if_neg e]; have:=(hd (j-8) (by omega)).2; rw [show j-8+8=j by omega] at this; exact this)
    replace K:=(K.loose [(w.heap.size,.u32,8,h)] (w.heap.size+1+1) .u32 16 f mS (fun p hp=>by obtain rfl:=xm1 hp; exact (mT _ mS)) (fun p hp=>by obtain rfl:=xm1 hp; simp only; omega) (by omega)).settle [(w.heap.size+1,16)] (w.heap.size+1+1) .u32 16 (app h 8 iv) mS (fun q hq=>mT _ hq) (fun q hq=>by obtain rfl:=xm1 hq; simp only; omega) HR; clear HR hd hlt hn g1
    go_upto_region 7 with fail; refine wp_region_list ?_; refine xqL (.pointer (some ⟨w.heap.size+1+1,12,none⟩)) (fun w'=>ixW (w.heap.size+1+1) 12 (by decide) w' _ _ rfl rfl rfl) ?_; refine cellL .u32 (.int .u32 (iv 4)) (w.heap.size+1+1) 12 87 _ rfl rfl rfl Tryz.underlying87 ((K.get _ _ _ _ mS).cell 12 (by decide)) ?_; simp only [aP,lI,l0,lS]; refine xpL (.int .u64 t) ?_
    refine xqL (.int .u32 (t%4294967296)) (fun w=>convI .u64 .u32 _ _ _ _ _ rfl (by kernel_rfl) Tryz.underlying87 (by kernel_rfl) rfl (IntKind.wrap_u32' _) w) ?_; refine xqL (.int .u32 (hxr (iv 4) (t%4294967296))) (fun w=>xorI .u32 _ _ _ _ _ _ _ rfl rfl rfl rfl w) ?_
    refine xqL (.pointer (some ⟨w.heap.size+1+1,12,none⟩)) (fun w'=>ixW (w.heap.size+1+1) 12 (by decide) w' _ _ rfl rfl rfl) ?_
    refine storeL .u32 (hxr (iv 4) (t%4294967296)) (w.heap.size+1+1) 12 87 _ _ rfl rfl rfl rfl (by rw [(K.get _ _ _ _ mS).cell 12 (by decide)]; rfl) ((K.get _ _ _ _ mS).free 12 (by decide)) (by kernel_rfl) ?_
    simp only [Act.put]; replace K:=K.setCell [(w.heap.size,.u32,8,h)] (w.heap.size+1+1) .u32 16 (app h 8 iv) 12 (by decide) (hxr (iv 4) (t%4294967296)) mS (fun p hp=>by obtain rfl:=xm1 hp; exact (mT _ mS)) (fun p hp=>by obtain rfl:=xm1 hp; simp only; omega) (by omega); generalize wr.setCell ⟨w.heap.size+1+1,12,none⟩ (.int .u32 (hxr (iv 4) (t%4294967296)))=w2 at K ⊢
    show Exit.then _ _ _ _ _; go_upto_region 8 with fail; refine wp_region_list ?_; refine xqL (.pointer (some ⟨w.heap.size+1+1,13,none⟩)) (fun w'=>ixW (w.heap.size+1+1) 13 (by decide) w' _ _ rfl rfl rfl) ?_; refine cellL .u32 (.int .u32 (iv 5)) (w.heap.size+1+1) 13 87 _ rfl rfl rfl Tryz.underlying87 ((K.get _ _ _ _ mS).cell 13 (by decide)) ?_; simp only [aP,lI,l0,lS]
    refine xpL (.int .u64 t) ?_; refine xqL (.int .u64 (t/4294967296)) (fun w=>shrI .u64 .u64 _ 32 _ _ _ _ _ rfl rfl rfl (by decide) rfl w) ?_; refine xqL (.int .u32 (t/4294967296%4294967296)) (fun w=>convI .u64 .u32 _ _ _ _ _ rfl (by kernel_rfl) Tryz.underlying87 (by kernel_rfl) rfl (IntKind.wrap_u32' _) w) ?_
    refine xqL (.int .u32 (hxr (iv 5) (t/4294967296%4294967296))) (fun w=>xorI .u32 _ _ _ _ _ _ _ rfl rfl rfl rfl w) ?_; refine xqL (.pointer (some ⟨w.heap.size+1+1,13,none⟩)) (fun w'=>ixW (w.heap.size+1+1) 13 (by decide) w' _ _ rfl rfl rfl) ?_
    refine storeL .u32 (hxr (iv 5) (t/4294967296%4294967296)) (w.heap.size+1+1) 13 87 _ _ rfl rfl rfl rfl (by rw [(K.get _ _ _ _ mS).cell 13 (by decide)]; rfl) ((K.get _ _ _ _ mS).free 13 (by decide)) (by kernel_rfl) ?_
    simp only [Act.put]; replace K:=K.setCell [(w.heap.size,.u32,8,h)] (w.heap.size+1+1) .u32 16 (upd (app h 8 iv) 12 (hxr (iv 4) (t%4294967296))) 13 (by decide) (hxr (iv 5) (t/4294967296%4294967296)) mS (fun p hp=>by obtain rfl:=xm1 hp; exact (mT _ mS)) (fun p hp=>by obtain rfl:=xm1 hp; simp only; omega) (by omega)
    generalize w2.setCell ⟨w.heap.size+1+1,13,none⟩ (.int .u32 (hxr (iv 5) (t/4294967296%4294967296)))=w3 at K ⊢; show Exit.then _ _ _ _ _; have hcon:=bst_of h t (upd (upd (app h 8 iv) 12 (hxr (iv 4) (t%4294967296))) 13 (hxr (iv 5) (t/4294967296%4294967296))) last (fun _=>rfl)
    cases last
    · have HR:=(K.get _ _ _ _ mS).congr (g:=bst h t false) hcon
      have hz':=(K.room _ mS).1
      have hB:=(K.fill _ _ mS (row .u32 16 (bst h t false))).below; clear K hcon; generalize hf:bst h t false=g at *
      go_wp2_with (first | (refine wpList_load_mid rfl 124 _ rfl (w.heap.size+1+1) 0 rfl (row .u32 16 (g)) _ (Has.range (HR)) Tryz.underlying124 rfl (bwd_info _) ?_) | (refine wpList_store_mid rfl 124 _ _ rfl (w.heap.size+1) 0 (row .u32 16 g).toArray rfl rfl (room_of hz') (bwd_info' _) (all_oneCell_toArray (row_one _ _ _)) ?_))
      exact bodyPost_ret (v:=(.agg (row .u32 16 (g)).toArray)) (results_row Tryz.results115 rfl (Has.all hz' .u32 g).range Tryz.underlying124 rfl (bwd_info g)) rfl ⟨rfl,hB⟩
    · go_upto_region 10 with fail
      refine wp_region_list ?_; refine xqL (.pointer (some ⟨w.heap.size+1+1,14,none⟩)) (fun w'=>ixW (w.heap.size+1+1) 14 (by decide) w' _ _ rfl rfl rfl) ?_; refine cellL .u32 (.int .u32 (iv 6)) (w.heap.size+1+1) 14 87 _ rfl rfl rfl Tryz.underlying87 ((K.get _ _ _ _ mS).cell 14 (by decide)) ?_; simp only [aP,lI,l0,lS]
      refine xqL (.int .u32 (4294967295-iv 6)) (fun w=>notI .u32 _ _ _ _ rfl rfl (by decide +kernel) w) ?_; refine xqL (.pointer (some ⟨w.heap.size+1+1,14,none⟩)) (fun w'=>ixW (w.heap.size+1+1) 14 (by decide) w' _ _ rfl rfl rfl) ?_
      refine storeL .u32 (4294967295-iv 6) (w.heap.size+1+1) 14 87 _ _ rfl rfl rfl rfl (by rw [(K.get _ _ _ _ mS).cell 14 (by decide)]; rfl) ((K.get _ _ _ _ mS).free 14 (by decide)) (by kernel_rfl) ?_
      simp only [Act.put]; replace K:=K.setCell [(w.heap.size,.u32,8,h)] (w.heap.size+1+1) .u32 16 (upd (upd (app h 8 iv) 12 (hxr (iv 4) (t%4294967296))) 13 (hxr (iv 5) (t/4294967296%4294967296))) 14 (by decide) (4294967295-iv 6) mS (fun p hp=>by obtain rfl:=xm1 hp; exact (mT _ mS)) (fun p hp=>by obtain rfl:=xm1 hp; simp only; omega) (by omega)
      generalize w3.setCell ⟨w.heap.size+1+1,14,none⟩ (.int .u32 (4294967295-iv 6))=w4 at K ⊢; show Exit.then _ _ _ _ _; have HR:=(K.get _ _ _ _ mS).congr (g:=bst h t true) hcon
      have hz':=(K.room _ mS).1
      have hB:=(K.fill _ _ mS (row .u32 16 (bst h t true))).below; clear K hcon; generalize hf:bst h t true=g at *
      go_wp2_with (first | (refine wpList_load_mid rfl 124 _ rfl (w.heap.size+1+1) 0 rfl (row .u32 16 (g)) _ (Has.range (HR)) Tryz.underlying124 rfl (bwd_info _) ?_) | (refine wpList_store_mid rfl 124 _ _ rfl (w.heap.size+1) 0 (row .u32 16 g).toArray rfl rfl (room_of hz') (bwd_info' _) (all_oneCell_toArray (row_one _ _ _)) ?_))
      exact bodyPost_ret (v:=(.agg (row .u32 16 (g)).toArray)) (results_row Tryz.results115 rfl (Has.all hz' .u32 g).range Tryz.underlying124 rfl (bwd_info g)) rfl ⟨rfl,hB⟩
section
def depB (md:Region.Mode) (ops:Array Oper) (i:Nat):Nat→Nat→Bool
 | 0,_=>false
 | f+1,c=>match ops[c]? with
   | none=>false
   | some oc=>oc.after.any fun e=>Region.binds md e&&(e.on == i || depB md ops i f e.on)
def Closed (md:Region.Mode) (ops:Array Oper) (l:Array Bool):Prop:=∀ j oj,ops[j]?=some oj→l.getD j false=true→∀ e∈oj.after,Region.binds md e=true→l.getD e.on false=true
def closedB (md:Region.Mode) (ops:Array Oper) (l:Array Bool):Bool:=(List.range ops.size).all fun j=>match ops[j]? with
 | none=>true
 | some oj=>!l.getD j false || oj.after.all fun e=>!Region.binds md e || l.getD e.on false
theorem closed_of {md:Region.Mode} {ops:Array Oper} {l:Array Bool} (h:closedB md ops l=true):Closed md ops l:=by
 intro j oj hj hl e he hb
 have hlt:j<ops.size:=(Array.getElem?_eq_some_iff.1 hj).1
 have h1:=List.all_eq_true.1 h j (List.mem_range.2 hlt)
 simp only [hj,hl,Bool.not_true,Bool.false_or] at h1
 have h2:=Array.all_eq_true'.1 h1 e he
 simpa only [hb,Bool.not_true,Bool.false_or] using h2
theorem listed_mono {l:Array Bool} {i j:Nat} (h:l.getD j false=true):(l.setIfInBounds i true).getD j false=true:=by
 rw [Array.getD_eq_getD_getElem?] at h ⊢
 by_cases e:i=j
 · subst e
   cases hc:l[i]? with
   | none=>rw [hc] at h; cases h
   | some b =>
     have hb:=(Array.getElem?_eq_some_iff.1 hc).1
     rw [Array.getElem?_setIfInBounds_self_of_lt hb]; rfl
 · rw [Array.getElem?_setIfInBounds_ne e]; exact h
theorem Closed.next {md:Region.Mode} {ops:Array Oper} {l:Array Bool} (h:Closed md ops l) {i:Nat} (hi:i∈Region.ready md ops l):Closed md ops (l.setIfInBounds i true):=by
 intro j oj hj hl e he hb
 by_cases hji:j=i
 · subst hji
   obtain ⟨_,o,ho,hall⟩:=mem_ready.1 hi
   obtain rfl:o=oj:=Option.some.inj (ho.symm.trans hj)
   exact listed_mono (hall e he hb)
 · rw [getD_set_ne false (Ne.symm hji)] at hl
   exact listed_mono (h j oj hj hl e he hb)
theorem dep_listed {md:Region.Mode} {ops:Array Oper} {l:Array Bool} {i:Nat} (h:Closed md ops l):∀ (f c:Nat),(∀ oc,ops[c]?=some oc→∀ e∈oc.after,Region.binds md e=true→l.getD e.on false=true)→depB md ops i f c=true→l.getD i false=true
 | 0,_,_,hd=>by cases hd
 | f+1,c,hc,hd=>by
   unfold depB at hd
   cases ho:ops[c]? with
   | none=>rw [ho] at hd; cases hd
   | some oc =>
     rw [ho] at hd
     obtain ⟨e,he,hb⟩:=Array.any_eq_true'.1 hd
     simp only [xbA,Bool.or_eq_true,beq_iff_eq] at hb
     have hl:=hc oc ho e he hb.1
     rcases hb.2 with h1 | h1
     · rw [← h1]; exact hl
     · exact dep_listed h f e.on (fun o2 ho2 e2 he2 hb2=>h e.on o2 ho2 hl e2 he2 hb2) h1
section
variable {P:Program} {ops:Array Oper} {Q:Exit→Act→World→Prop} {md:Region.Mode} {S:World→Prop} {c:Nat}
theorem wpAnyC_firstT {i f:Nat} {oi:Oper} {v:Value} (hi:ops[i]?=some oi) (hdep:depB md ops i f c=true) (hsel:∀ (j:Nat) (o:Oper) cs b,ops[j]?=some o→o.op≠.select cs b)
 (hQ:∀ p a w,Q (.panic p) (a.put oi.dst v) w→Q (.panic p) a w):∀ (n:Nat) (l:Array Bool) (a:Act) (w:World),
  Closed md ops l→(∀ j oj,ops[j]?=some oj→j≠i→l.getD j true=false→(∀ e∈oj.after,Region.binds md e=true→e.on≠i)→oi.apart ops oj=true) →
  l.getD c true=false→i∈Region.ready md ops l→YieldsIf P ops S oi v a→S w →
  wpAnyC P md ops Q S c n (l.setIfInBounds i true) (a.put oi.dst v) w→wpAnyC P md ops Q S c (n+1) l a w:=by
 have waits:∀ (l:Array Bool) (j:Nat),Closed md ops l→i∈Region.ready md ops l→j∈Region.ready md ops l→j≠c:=fun l j hcl hr hj e=>by
  subst e
  obtain ⟨_,o,ho,hall⟩:=mem_ready.1 hj
  exact not_both (mem_ready.1 hr).1 (dep_listed hcl f j (fun oc hoc=>by obtain rfl:o=oc:=Option.some.inj (ho.symm.trans hoc); exact hall) hdep)
 intro n
 induction n with
 | zero =>
   intro l a w _ _ _ hr hy hS H
   refine ⟨fun h=>(by rw [h] at hr; cases hr),fun j hj=>?_⟩
   by_cases hji:j=i
   · subst hji; exact hy.wpOp hi hS ⟨fun _=>hS,H⟩
   · have:=ready_mono hj hji
     rw [H.1] at this
     cases this
 | succ n ih =>
   intro l a w hcl hfree hlc hr hy hS H
   refine ⟨fun h=>(by rw [h] at hr; cases hr),fun j hj=>?_⟩
   by_cases hji:j=i
   · subst hji; exact hy.wpOp hi hS ⟨fun _=>hS,H⟩
   · have hjc:=waits l j hcl hr hj
     have hic:=waits l i hcl hr hr
     obtain ⟨hjun,oj,hoj,hall⟩:=mem_ready.1 hj
     have hnot:∀ e∈oj.after,Region.binds md e=true→e.on≠i:=fun e he hb heq=>not_both (mem_ready.1 hr).1 (by rw [← heq]; exact hall e he hb)
     have h2:=wpOp_putIf hoj (hfree j oj hoj hji hjun hnot) (fun cs b=>hsel i oi cs b hi) (fun cs b=>hsel j oj cs b hoj) hQ hy (H.2 j (ready_mono hj hji))
     have hfree':∀ k ok,ops[k]?=some ok→k≠i→(l.setIfInBounds j true).getD k true=false→(∀ e∈ok.after,Region.binds md e=true→e.on≠i)→oi.apart ops ok=true:=fun k ok hk hki hun hno=>by
      refine hfree k ok hk hki ?_ hno
      by_cases hjk:j=k
      · subst hjk; exact hjun
      · rw [getD_set_ne true hjk] at hun; exact hun
     refine wpOp_mono (fun a' w' h3=>?_) h2
     have hS':S w':=h3.2.1 (by rw [getD_set_ne true hjc,getD_set_ne true hic]; exact hlc)
     refine ⟨fun _=>hS',ih (l.setIfInBounds j true) a' w' (hcl.next hj) hfree' (by rw [getD_set_ne true hjc]; exact hlc) (ready_mono hr (Ne.symm hji)) h3.1 hS' ?_⟩
     rw [Array.setIfInBounds_comm _ _ hji]
     exact h3.2.2
theorem cellCT {i:Nat} (f:Nat) {oi:Oper} (dst:Option Tmp) (hdst:oi.dst=dst) {n:Nat} {l:Array Bool} {a:Act} {w:World} (k:IntKind) (v:Value) (b o:Nat) (ty:TypeId) (x:Operand) (hi:ops[i]?=some oi) (hdep:depB md ops i f c=true) (hcl:closedB md ops l=true)
 (ho:oi.op=.load ty x) (hx:a.eval x=.pointer (some ⟨b,o,none⟩)) (hw:Region.wanted oi (yielded ops a.tmps)=true)
 (hs:Region.noSelect ops=true) (hf:Region.free md ops l i=true) (hl:l.getD c true=false) (hr:(Region.ready md ops l).contains i=true)
 (hQ:∀ p a w,Q (.panic p) (a.put dst v) w→Q (.panic p) a w) (hu:P.underlying ty=some (.int k))
 (hS:S w) (hh:∀ w,S w→w.cell? ⟨b,o,none⟩=some v)
 (h:wpAnyC P md ops Q S c n (l.setIfInBounds i true) (a.put dst v) w):wpAnyC P md ops Q S c (n+1) l a w:=by
 subst hdst
 refine wpAnyC_firstT hi hdep (Region.noSelect_spec hs) hQ n l a w (closed_of hcl) (Region.free_spec hi hf) hl (by simpa using hr) (.inl ⟨hw,fun w hSw=>?_⟩) hS h
 unfold execOp
 simp only [ho,hx,Instr.loadAt,Instr.sureAddr,Sem.run_bind,Sem.run_pure,Result.andThen_ok,run_loadVar_cell w b o ty k v (hh w hSw) hu]
end
end
theorem bmix_any (a b c d x y:Int) (w:World) :
 Calls Tryz.prog 116 #[.int .u32 a,.int .u32 b,.int .u32 c,.int .u32 d,.int .u32 x,.int .u32 y] w fun e w'=>e=.returned (.tuple #[.int .u32 (bA a b c d x y),.int .u32 (bB a b c d x y),.int .u32 (bC a b c d x y),.int .u32 (bD a b c d x y)])∧w'=w:=by
 go_enter Tryz.func116,Tryz.ntmps116
 go_wp2_with fail
 refine (rotR_any (-16) 16 (.inl ⟨rfl,rfl⟩) _ _).mono ?_; rintro e w16 ⟨rfl,rfl⟩
 go_wp2_with fail
 refine (rotR_any (-12) 20 (.inr (.inl ⟨rfl,rfl⟩)) _ _).mono ?_; rintro e w12 ⟨rfl,rfl⟩
 go_wp2_with fail
 refine (rotR_any (-8) 24 (.inr (.inr (.inl ⟨rfl,rfl⟩))) _ _).mono ?_; rintro e w8 ⟨rfl,rfl⟩
 go_wp2_with fail
 refine (rotR_any (-7) 25 (.inr (.inr (.inr ⟨rfl,rfl⟩))) _ _).mono ?_; rintro e w7 ⟨rfl,rfl⟩
 go_wp2_with fail
 exact bodyPost_ret (results_four Tryz.results116 rfl rfl rfl rfl) rfl ⟨by simp only [bA,bB,bC,bD,bA1,bB1,bC1,bD1,mA,mD,hxr,had,Int.emod_add_emod,Int.add_assoc]; rfl,rfl⟩
theorem idxRows {P:Program} {o:Oper} {a:Act} (t e:TypeId) (n m:Nat) (k:IntKind) (b off i:Nat) (x y:Operand) (hu:P.underlying t=some (.array n e)) (hsz:∀ w,(sizeOf e).run P w=.ok m w) (hi:i<n) (ho:o.op=.indexAddr t x y) (hx:a.eval x=.pointer (some ⟨b,off,none⟩)) (hy:a.eval y=.int k (i:Int)) (w:World) :
 (execOp a.eval o).run P w=.ok (.value (.pointer (some ⟨b,off+i*m,none⟩))) w:=by
 have e1:(Instr.indexAt t (.pointer (some ⟨b,off,none⟩)) (.int k (i:Int))).run P w=.ok (.pointer (some ⟨b,off+i*m,none⟩)) w:=by
  simp [Instr.indexAt,run_underlying hu,Instr.sureAddr,asIntOf,hsz,Addr.add_mid]
  intro hf
  omega
 unfold execOp
 simp only [ho,hx,hy,Sem.run_bind,e1,Result.andThen_ok,Sem.run_pure]
theorem bpr_of (h z:Nat→Int) (t:Int) (last:Bool) (hh:In V 8 h) (n:Nat) (hn:n<8):hxr (h n) (hxr (bR (bpw z) (bst h t last) 10 n) (bR (bpw z) (bst h t last) 10 (n+8)))=bpr h z t last n :=
 (hxr_assoc _ _ _ (hh n hn) (bR_in _ _ (bst_in h t last hh) 10 n (by omega)) (bR_in _ _ (bst_in h t last hh) 10 (n+8) (by omega))).symm
theorem bpress_any (h:Nat→Int) (hh:In V 8 h) (z:Nat→Int) (t:Int) (last:Bool) (w:World) (hg:BGlob w) :
 Calls Tryz.prog 113 #[(.agg (row .u32 8 (h)).toArray),(.agg (row .u32 16 (bpw z)).toArray),.int .u64 t,.bool last] w fun e w'=>e=.returned (.agg (row .u32 8 (bpr h z t last)).toArray)∧Below w.heap.size w w':=by
 have HG:=show Hid _ from (fun n hn=>bpr_of h z t last hh n hn); generalize hGe:bpr h z t last=G at HG; generalize hme:bpw z=m at HG; have K:=Kr.init w; replace K:=K.box .u32 8 h 171 (w.heap.size) rfl; replace K:=K.box .u32 16 m 124 (w.heap.size+1) (by simp); replace K:=K.make 8 zu32_8 171 (w.heap.size+1+1) (by simp) (bst_zero _ _ _ (by simp)).there; clear hme hGe hh
 go_enter Tryz.func113,Tryz.ntmps113
 go_upto_region 1 with fail; generalize (((w.alloc (.cells (row .u32 8 h).toArray 171)).alloc (.cells (row .u32 16 m).toArray 124)).alloc (.cells zu32_8 171))=w0 at K ⊢; refine wp_region_list ?_; refine rowKL .u32 8 (h) (w.heap.size) 0 171 _ _ rfl rfl rfl Tryz.underlying171 rfl (bst_info _) ((K.get _ _ _ _ (mT _ mS)).range) ?_; simp only [aP,lI,l0,lS]; refine xpL (.int .u64 t) ?_
 refine xpL (.bool last) ?_; refine xcL (bspread_any h t last _ (hg.below K.below hg.size)) ?_; rintro e w1 ⟨rfl,l⟩; replace K:=K.call l; clear l; refine xeL ?_; refine allocL zu32_16 124 rfl (fun _=>by kernel_rfl) ?_; simp only [aP,lI,l0,lS]; refine storesL .u32 16 (bst h t last) w1.heap.size 124 _ _ rfl rfl rfl rfl (room_of (bwd_zero _ _ _ rfl).there) (bwd_info' _) ?_
 simp only [Act.put]; have zX:=K.size; replace K:=K.fresh .u32 16 (bst h t last) zu32_16 124 (bwd_zero _ _ _ rfl).there; generalize ((w1.alloc (.cells zu32_16 124)).setCells w1.heap.size 0 (row .u32 16 (bst h t last)))=w2 at K ⊢; generalize w1.heap.size=X at *; show Exit.then _ _ _ _ _; generalize bst h t last=v0 at *; go_wp2
 go_loopw [21] (fun i w'=>∃ r:Nat,r≤10∧i=.int .i64 r∧Kr w (X+1) [(X,.u32,16,bR m v0 r),(w.heap.size+1,.u32,16,m),(w.heap.size,.u32,8,h)] [(w.heap.size+1+1,8)] w') (fun i _=>10-(intOf i).toNat)
 case atStart=>exact ⟨0,by omega,rfl,K⟩
 case round =>
  clear K
  obtain ⟨r,hr,rfl,K⟩:=hrel
  have g1:(0:Int)≤(r:Int):=by omega
  by_cases hlt:r<10
  · have g2:(r:Int)<10:=by omega
    go_wp2
    go_loopw [24] (fun i w'=>∃ q:Nat,q≤8∧i=.int .i64 q∧Kr w (X+1) [(X,.u32,16,bN m (sg r) (bR m v0 r) q),(w.heap.size+1,.u32,16,m),(w.heap.size,.u32,8,h)] [(w.heap.size+1+1,8)] w') (fun i _=>8-(intOf i).toNat)
    case atStart=>exact ⟨0,by omega,rfl,K⟩
    case round =>
     clear K
     obtain ⟨q,hq,rfl,K⟩:=hrel
     have g3:(0:Int)≤(q:Int):=by omega
     by_cases hlt2:q<8
     · have g4:(q:Int)<8:=by omega
       have HT:=show Hid _ from (show bN m (sg r) (bR m v0 r) (q+1)=bAt m (sg r) (bN m (sg r) (bR m v0 r) q) q from rfl); generalize bN m (sg r) (bR m v0 r) q=v at *; have HK:=show Hid _ from fun (n:Nat)=>K.drewN (q:=n)
       obtain ⟨p1,p2,p3,p4⟩:=(hg.below K.below hg.size).four q hlt2
       have l1:pA q<16:=by have:=pA_lt q; omega
       have l2:pB q<16:=by have:=pB_lt q; omega
       have l3:pC q<16:=by have:=pC_lt q; omega
       have l4:pD q<16:=pD_lt q
       have s1:=sg_lt r (2*q); have s2:=sg_lt r (2*q+1)
       unfold bAt bMx at HT
       have hzX:=K.base; clear K hq hr; generalize hA:pA q=A at *; generalize hB:pB q=B at *; generalize hC:pC q=C at *; generalize hD:pD q=D at *; clear hA hB hC hD; go_wp2
       go_quiet (fail)
       go_upto_region 9 with fail; have K:=HK.out nq; clear p1 p2 p3 p4 HK; generalize wr.drewN nq=w3 at K ⊢; refine wp_region_C (S:=fun w'=>Kr w (X+1) [(X,.u32,16,v),(w.heap.size+1,.u32,16,m),(w.heap.size,.u32,8,h)] [(w.heap.size+1+1,8)] w') 33 (by kernel_rfl) K.drew ?_; clear K; intro K; refine xpC 0 44 (.int .u8 (A:Int)) K ?_
       refine xpC 1 45 (.int .u8 (B:Int)) K ?_; refine xpC 2 46 (.int .u8 (C:Int)) K ?_; refine xpC 3 47 (.int .u8 (D:Int)) K ?_; refine xpC 4 48 (.int .u8 (A:Int)) K ?_; refine xqC 5 49 rfl (.pointer (some ⟨X,A,none⟩)) (fun w'=>ixWb X A l1 w' _ _ rfl rfl rfl) K ?_
       refine cellC (i:=6) (some 50) rfl .u32 (.int .u32 (v A)) X A 87 _ rfl rfl (by kernel_rfl) rfl rfl rfl (by kernel_rfl) (by kernel_rfl) (by kernel_rfl) (by kernel_rfl) (fun _ _ _ h=>h) Tryz.underlying87 K (fun _ h=>(h.get _ _ _ _ mS).cell A l1) ?_; simp only [aP,lI,l0,lS]; refine xpC 7 51 (.int .u8 (B:Int)) K ?_
       refine xqC 8 52 rfl (.pointer (some ⟨X,B,none⟩)) (fun w'=>ixWb X B l2 w' _ _ rfl rfl rfl) K ?_; refine cellC (i:=9) (some 53) rfl .u32 (.int .u32 (v B)) X B 87 _ rfl rfl (by kernel_rfl) rfl rfl rfl (by kernel_rfl) (by kernel_rfl) (by kernel_rfl) (by kernel_rfl) (fun _ _ _ h=>h) Tryz.underlying87 K (fun _ h=>(h.get _ _ _ _ mS).cell B l2) ?_; simp only [aP,lI,l0,lS]
       refine xpC 10 54 (.int .u8 (C:Int)) K ?_; refine xqC 11 55 rfl (.pointer (some ⟨X,C,none⟩)) (fun w'=>ixWb X C l3 w' _ _ rfl rfl rfl) K ?_
       refine cellC (i:=12) (some 56) rfl .u32 (.int .u32 (v C)) X C 87 _ rfl rfl (by kernel_rfl) rfl rfl rfl (by kernel_rfl) (by kernel_rfl) (by kernel_rfl) (by kernel_rfl) (fun _ _ _ h=>h) Tryz.underlying87 K (fun _ h=>(h.get _ _ _ _ mS).cell C l3) ?_; simp only [aP,lI,l0,lS]; refine xpC 13 57 (.int .u8 (D:Int)) K ?_
       refine xqC 14 58 rfl (.pointer (some ⟨X,D,none⟩)) (fun w'=>ixWb X D l4 w' _ _ rfl rfl rfl) K ?_; refine cellC (i:=15) (some 59) rfl .u32 (.int .u32 (v D)) X D 87 _ rfl rfl (by kernel_rfl) rfl rfl rfl (by kernel_rfl) (by kernel_rfl) (by kernel_rfl) (by kernel_rfl) (fun _ _ _ h=>h) Tryz.underlying87 K (fun _ h=>(h.get _ _ _ _ mS).cell D l4) ?_; simp only [aP,lI,l0,lS]
       refine xpC 16 60 (.int .i64 (r:Int)) K ?_; refine xpC 17 61 (.int .i64 (q:Int)) K ?_; refine xqC 18 62 rfl (.int .i64 ((2*q:Nat):Int)) (fun w=>mulI .i64 _ _ _ _ _ _ _ rfl rfl rfl (by rw [xw6]; omega) w) K ?_
       refine xqC 19 63 rfl (.pointer (some ⟨7,0+r*16,none⟩)) (fun w'=>idxRows (P:=Tryz.prog) 180 88 10 16 .i64 7 0 r _ _ Tryz.underlying180 (fun _=>by kernel_rfl) hlt rfl rfl rfl w') K ?_
       refine xqC 20 64 rfl (.pointer (some ⟨7,0+r*16+(2*q),none⟩)) (fun w'=>idxArr (P:=Tryz.prog) 88 5 16 .i64 7 (0+r*16) (2*q) _ _ Tryz.underlying88 (fun _=>by kernel_rfl) (by omega) rfl rfl rfl w') K ?_
       refine cellCT (i:=21) 8 (some 65) rfl .u8 (.int .u8 ((sg r (2*q):Nat):Int)) 7 (0+r*16+(2*q)) 5 _ rfl (by kernel_rfl) (by kernel_rfl) rfl rfl rfl (by kernel_rfl) (by kernel_rfl) (by kernel_rfl) (by kernel_rfl) (fun _ _ _ h=>h) Tryz.underlying5 K (fun _ h=>(by rw [Nat.zero_add]; exact (hg.below h.below hg.size).sg r (2*q) hlt (by omega))) ?_
       simp only [aP,lI,l0,lS]; refine xqC 22 66 rfl (.pointer (some ⟨w.heap.size+1,sg r (2*q),none⟩)) (fun w'=>ixWb (w.heap.size+1) (sg r (2*q)) s1 w' _ _ rfl rfl rfl) K ?_
       refine cellC (i:=23) (some 67) rfl .u32 (.int .u32 (m (sg r (2*q)))) (w.heap.size+1) (sg r (2*q)) 87 _ rfl rfl (by kernel_rfl) rfl rfl rfl (by kernel_rfl) (by kernel_rfl) (by kernel_rfl) (by kernel_rfl) (fun _ _ _ h=>h) Tryz.underlying87 K (fun _ h=>(h.get _ _ _ _ (mT _ mS)).cell (sg r (2*q)) s1) ?_; simp only [aP,lI,l0,lS]; refine xpC 24 68 (.int .i64 (r:Int)) K ?_
       refine xpC 25 69 (.int .i64 (q:Int)) K ?_; refine xqC 26 70 rfl (.int .i64 ((2*q:Nat):Int)) (fun w=>mulI .i64 _ _ _ _ _ _ _ rfl rfl rfl (by rw [xw6]; omega) w) K ?_; refine xqC 27 71 rfl (.int .i64 ((2*q+1:Nat):Int)) (fun w=>addI .i64 _ _ _ _ _ _ _ rfl rfl rfl (by rw [xw6]; omega) w) K ?_
       refine xqC 28 72 rfl (.pointer (some ⟨7,0+r*16,none⟩)) (fun w'=>idxRows (P:=Tryz.prog) 180 88 10 16 .i64 7 0 r _ _ Tryz.underlying180 (fun _=>by kernel_rfl) hlt rfl rfl rfl w') K ?_
       refine xqC 29 73 rfl (.pointer (some ⟨7,0+r*16+(2*q+1),none⟩)) (fun w'=>idxArr (P:=Tryz.prog) 88 5 16 .i64 7 (0+r*16) (2*q+1) _ _ Tryz.underlying88 (fun _=>by kernel_rfl) (by omega) rfl rfl rfl w') K ?_
       refine cellCT (i:=30) 8 (some 74) rfl .u8 (.int .u8 ((sg r (2*q+1):Nat):Int)) 7 (0+r*16+(2*q+1)) 5 _ rfl (by kernel_rfl) (by kernel_rfl) rfl rfl rfl (by kernel_rfl) (by kernel_rfl) (by kernel_rfl) (by kernel_rfl) (fun _ _ _ h=>h) Tryz.underlying5 K (fun _ h=>(by rw [Nat.zero_add]; exact (hg.below h.below hg.size).sg r (2*q+1) hlt (by omega))) ?_
       simp only [aP,lI,l0,lS]; refine xqC 31 75 rfl (.pointer (some ⟨w.heap.size+1,sg r (2*q+1),none⟩)) (fun w'=>ixWb (w.heap.size+1) (sg r (2*q+1)) s2 w' _ _ rfl rfl rfl) K ?_
       refine cellC (i:=32) (some 76) rfl .u32 (.int .u32 (m (sg r (2*q+1)))) (w.heap.size+1) (sg r (2*q+1)) 87 _ rfl rfl (by kernel_rfl) rfl rfl rfl (by kernel_rfl) (by kernel_rfl) (by kernel_rfl) (by kernel_rfl) (fun _ _ _ h=>h) Tryz.underlying87 K (fun _ h=>(h.get _ _ _ _ (mT _ mS)).cell (sg r (2*q+1)) s2) ?_; simp only [aP,lI,l0,lS]
       refine callC (S2:=fun _=>True) (some 77) rfl (by kernel_rfl) rfl rfl (fun _=>by kernel_rfl) (bmix_any (v A) (v B) (v C) (v D) (m (sg r (2*q))) (m (sg r (2*q+1))) _) (by kernel_rfl) ?_; rintro e w' ⟨rfl,rfl⟩
       refine ⟨_,rfl,?_⟩
       simp only [aP,lI,l0,lS]
       have T:True:=trivial
       refine xpH 34 43 (.tuple #[.int .u32 (bA (v A) (v B) (v C) (v D) (m (sg r (2*q))) (m (sg r (2*q+1)))),.int .u32 (bB (v A) (v B) (v C) (v D) (m (sg r (2*q))) (m (sg r (2*q+1)))),.int .u32 (bC (v A) (v B) (v C) (v D) (m (sg r (2*q))) (m (sg r (2*q+1)))),.int .u32 (bD (v A) (v B) (v C) (v D) (m (sg r (2*q))) (m (sg r (2*q+1))))]) T ?_
       refine xpH 35 78 (.int .u32 (bA (v A) (v B) (v C) (v D) (m (sg r (2*q))) (m (sg r (2*q+1))))) T ?_; refine xpH 36 79 (.int .u32 (bB (v A) (v B) (v C) (v D) (m (sg r (2*q))) (m (sg r (2*q+1))))) T ?_; refine xpH 37 80 (.int .u32 (bC (v A) (v B) (v C) (v D) (m (sg r (2*q))) (m (sg r (2*q+1))))) T ?_
       refine xpH 38 81 (.int .u32 (bD (v A) (v B) (v C) (v D) (m (sg r (2*q))) (m (sg r (2*q+1))))) T ?_; have h0:=K.get _ _ _ _ mS
       replace K:=K.loose [(w.heap.size+1,.u32,16,m),(w.heap.size,.u32,8,h)] X .u32 16 v mS (fun p hp=>by rcases xc1 hp with rfl | hp; exact (mT _ mS); obtain rfl:=xm1 hp; exact (mI 2 rfl)) (fun p hp=>by rcases xc1 hp with rfl | hp; simp only; omega; obtain rfl:=xm1 hp; simp only; omega) (by omega)
       refine xqH 39 82 rfl (.pointer (some ⟨X,A,none⟩)) (fun w'=>ixWb X A l1 w' _ _ rfl rfl rfl) T ?_; refine storeH (i:=40) none rfl .u32 (bA (v A) (v B) (v C) (v D) (m (sg r (2*q))) (m (sg r (2*q+1)))) X A 87 _ _ (by kernel_rfl) rfl rfl rfl rfl rfl (by rw [h0.cell A l1]; rfl) (h0.free A l1) (by kernel_rfl) T ?_; simp only [Act.put]
       have h1:=h0.set A l1 (bA (v A) (v B) (v C) (v D) (m (sg r (2*q))) (m (sg r (2*q+1)))); replace K:=K.poke X 16 mS A [.int .u32 (bA (v A) (v B) (v C) (v D) (m (sg r (2*q))) (m (sg r (2*q+1))))]; clear h0; refine xqH 41 83 rfl (.pointer (some ⟨X,B,none⟩)) (fun w'=>ixWb X B l2 w' _ _ rfl rfl rfl) T ?_
       refine storeH (i:=42) none rfl .u32 (bB (v A) (v B) (v C) (v D) (m (sg r (2*q))) (m (sg r (2*q+1)))) X B 87 _ _ (by kernel_rfl) rfl rfl rfl rfl rfl (by rw [h1.cell B l2]; rfl) (h1.free B l2) (by kernel_rfl) T ?_; simp only [Act.put]; have h2:=h1.set B l2 (bB (v A) (v B) (v C) (v D) (m (sg r (2*q))) (m (sg r (2*q+1))))
       replace K:=K.poke X 16 mS B [.int .u32 (bB (v A) (v B) (v C) (v D) (m (sg r (2*q))) (m (sg r (2*q+1))))]; clear h1; refine xqH 43 84 rfl (.pointer (some ⟨X,C,none⟩)) (fun w'=>ixWb X C l3 w' _ _ rfl rfl rfl) T ?_
       refine storeH (i:=44) none rfl .u32 (bC (v A) (v B) (v C) (v D) (m (sg r (2*q))) (m (sg r (2*q+1)))) X C 87 _ _ (by kernel_rfl) rfl rfl rfl rfl rfl (by rw [h2.cell C l3]; rfl) (h2.free C l3) (by kernel_rfl) T ?_; simp only [Act.put]; have h3:=h2.set C l3 (bC (v A) (v B) (v C) (v D) (m (sg r (2*q))) (m (sg r (2*q+1))))
       replace K:=K.poke X 16 mS C [.int .u32 (bC (v A) (v B) (v C) (v D) (m (sg r (2*q))) (m (sg r (2*q+1))))]; clear h2; refine xqH 45 85 rfl (.pointer (some ⟨X,D,none⟩)) (fun w'=>ixWb X D l4 w' _ _ rfl rfl rfl) T ?_
       refine storeH (i:=46) none rfl .u32 (bD (v A) (v B) (v C) (v D) (m (sg r (2*q))) (m (sg r (2*q+1)))) X D 87 _ _ (by kernel_rfl) rfl rfl rfl rfl rfl (by rw [h3.cell D l4]; rfl) (h3.free D l4) (by kernel_rfl) T ?_; simp only [Act.put]; have h4:=h3.set D l4 (bD (v A) (v B) (v C) (v D) (m (sg r (2*q))) (m (sg r (2*q+1))))
       replace K:=K.poke X 16 mS D [.int .u32 (bD (v A) (v B) (v C) (v D) (m (sg r (2*q))) (m (sg r (2*q+1))))]; clear h3
       refine wpAnyH_done (by kernel_rfl) ?_ _
       rw [← HT.out] at h4
       replace K:=K.settle [(w.heap.size+1+1,8)] X .u32 16 _ mS (fun q hq=>mT _ hq) (fun q hq=>by obtain rfl:=xm1 hq; simp only; omega) h4; have HS:=show Hid _ from K; clear K h4 T l1 l2 l3 l4 HT; go_wp2
       go_roundw
       case rel=>first | exact ⟨q+1,by omega,by go_num,HS.out⟩ | ((repeat apply Exists.intro); refine ⟨⟨q+1,by omega,by go_num,HS.out⟩,rfl⟩)
       case measure=>simp [intOf]; omega
     · obtain rfl:q=8:=by omega
       have HS:=show Hid (Kr w (X+1) [(X,.u32,16,bR m v0 (r+1)),(w.heap.size+1,.u32,16,m),(w.heap.size,.u32,8,h)] [(w.heap.size+1+1,8)] wr) from K; clear K hlt2 hq g3; go_wp2
       go_roundw
       case rel=>first | exact ⟨r+1,by omega,by go_num,HS.out⟩ | ((repeat apply Exists.intro); refine ⟨⟨r+1,by omega,by go_num,HS.out⟩,rfl⟩)
       case measure=>simp [intOf]; omega
  · obtain rfl:r=10:=by omega
    clear hlt hr g1; generalize bR m v0 10=F at *
    replace K:Kr w (X+1) [(w.heap.size,.u32,8,h),(X,.u32,16,F)] [(w.heap.size+1+1,8)] wr:=K.sub _ (fun p hp=>by rcases xc1 hp with rfl | hp; exact (mI 2 rfl); obtain rfl:=xm1 hp; exact mS)
    go_wp2
    go_loopw [88] (fun i w'=>∃ (n:Nat) (f:Nat→Int),n≤8∧i=.int .i64 n∧Kr w (X+1) [(w.heap.size,.u32,8,f),(X,.u32,16,F)] [(w.heap.size+1+1,8)] w'∧(∀ j,j<n→f j=G j)∧∀ j,n≤j→f j=h j) (fun i _=>8-(intOf i).toNat)
    case atStart=>exact ⟨0,h,by omega,rfl,K,fun j hj=>by omega,fun _ _=>rfl⟩
    case round =>
     clear K
     obtain ⟨n,f,hn,rfl,K,hd,hk⟩:=hrel
     have g1:(0:Int)≤(n:Int):=by omega
     by_cases hlt:n<8
     · have g2:(n:Int)<8:=by omega
       have hz0:=K.base
       have HX:hxr (f n) (hxr (F n) (F (n+8)))=G n:=by rw [hk n (xnR _)]; exact HG.out n hlt
       have l8:n<16:=by omega
       have l88:n+8<16:=by omega
       go_upto_region 15 with fail; refine wp_region_C (S:=fun w'=>Kr w (X+1) [(w.heap.size,.u32,8,f),(X,.u32,16,F)] [(w.heap.size+1+1,8)] w') 13 (by kernel_rfl) K.drew ?_; clear K; intro K; generalize wr.drew=w4 at K ⊢; refine xpC 0 91 (.int .i64 (n:Int)) K ?_
       refine xqC 1 92 rfl (.pointer (some ⟨w.heap.size,n,none⟩)) (fun w'=>ixS (w.heap.size) n hlt w' _ _ rfl rfl rfl) K ?_; refine cellC (i:=2) (some 93) rfl .u32 (.int .u32 (f n)) (w.heap.size) n 87 _ rfl rfl (by kernel_rfl) rfl rfl rfl (by kernel_rfl) (by kernel_rfl) (by kernel_rfl) (by kernel_rfl) (fun _ _ _ h=>h) Tryz.underlying87 K (fun _ h=>(h.get _ _ _ _ mS).cell n hlt) ?_
       simp only [aP,lI,l0,lS]; refine xpC 3 94 (.int .i64 (n:Int)) K ?_; refine xqC 4 95 rfl (.pointer (some ⟨X,n,none⟩)) (fun w'=>ixW X n l8 w' _ _ rfl rfl rfl) K ?_
       refine cellC (i:=5) (some 96) rfl .u32 (.int .u32 (F n)) X n 87 _ rfl rfl (by kernel_rfl) rfl rfl rfl (by kernel_rfl) (by kernel_rfl) (by kernel_rfl) (by kernel_rfl) (fun _ _ _ h=>h) Tryz.underlying87 K (fun _ h=>(h.get _ _ _ _ (mT _ mS)).cell n l8) ?_; simp only [aP,lI,l0,lS]; refine xpC 6 97 (.int .i64 (n:Int)) K ?_
       refine xqC 7 98 rfl (.int .i64 ((n+8:Nat):Int)) (fun w=>addI .i64 _ _ _ _ _ _ _ rfl rfl rfl (by rw [xw6]; omega) w) K ?_; refine xqC 8 99 rfl (.pointer (some ⟨X,n+8,none⟩)) (fun w'=>ixW X (n+8) l88 w' _ _ rfl rfl rfl) K ?_
       refine cellC (i:=9) (some 100) rfl .u32 (.int .u32 (F (n+8))) X (n+8) 87 _ rfl rfl (by kernel_rfl) rfl rfl rfl (by kernel_rfl) (by kernel_rfl) (by kernel_rfl) (by kernel_rfl) (fun _ _ _ h=>h) Tryz.underlying87 K (fun _ h=>(h.get _ _ _ _ (mT _ mS)).cell (n+8) l88) ?_; simp only [aP,lI,l0,lS]
       refine xqC 10 101 rfl (.int .u32 (hxr (F n) (F (n+8)))) (fun w=>xorI .u32 _ _ _ _ _ _ _ rfl rfl rfl rfl w) K ?_; refine xqC 11 102 rfl (.int .u32 (G n)) (fun w=>xorI .u32 _ _ _ _ _ _ _ rfl rfl rfl HX w) K ?_; refine xqC 12 103 rfl (.pointer (some ⟨w.heap.size,n,none⟩)) (fun w'=>ixS (w.heap.size) n hlt w' _ _ rfl rfl rfl) K ?_
       refine storeC (S2:=fun _=>True) none rfl .u32 (G n) (w.heap.size) n 87 _ _ (by kernel_rfl) rfl rfl rfl rfl rfl (by rw [(K.get _ _ _ _ mS).cell n hlt]; rfl) ((K.get _ _ _ _ mS).free n hlt) (by kernel_rfl) (by kernel_rfl) ?_
       simp only [Act.put]
       refine wpAnyH_done (by kernel_rfl) ?_ _
       replace K:=K.setCell [(X,.u32,16,F)] (w.heap.size) .u32 8 f n hlt (G n) mS (fun p hp=>by obtain rfl:=xm1 hp; exact (mT _ mS)) (fun p hp=>by obtain rfl:=xm1 hp; simp only; omega) (xnR _)
       have HS:=show Hid _ from (And.intro K (And.intro (show ∀ j,j<n+1→upd f n (G n) j=G j from fun j hj=>by
        by_cases e:j=n
        · subst e; rw [upd_same]
        · rw [upd_other _ _ _ _ e]; exact hd j (by omega)) (show ∀ j,n+1≤j→upd f n (G n) j=h j from fun j hj=>by rw [upd_other _ _ _ _ (show j≠n by omega)]; exact hk j (by omega))))
       clear K hd hk HX; generalize w4.setCell ⟨w.heap.size,n,none⟩ (.int .u32 (G n))=w5 at HS ⊢; generalize upd f n (G n)=f' at HS; go_wp2
       go_roundw
       case rel=>first | exact ⟨n+1,f',by omega,by go_num,HS.out⟩ | ((repeat apply Exists.intro); refine ⟨⟨n+1,f',by omega,by go_num,HS.out⟩,rfl⟩)
       case measure=>simp [intOf]; omega
     · obtain rfl:n=8:=by omega
       have HR:=(K.get _ _ _ _ mS).congr (g:=G) (fun j hj=>hd j hj)
       have hz':=(K.room _ mS).1
       have hB:=(K.fill _ _ mS (row .u32 8 G)).below; clear K hd hk hlt hn g1
       go_wp2_with (first | (refine wpList_load_mid rfl 171 _ rfl (w.heap.size) 0 rfl (row .u32 8 (G)) _ (Has.range (HR)) Tryz.underlying171 rfl (bst_info _) ?_) | (refine wpList_store_mid rfl 171 _ _ rfl (w.heap.size+1+1) 0 (row .u32 8 G).toArray rfl rfl (room_of hz') (bst_info' _) (all_oneCell_toArray (row_one _ _ _)) ?_))
       exact bodyPost_ret (v:=(.agg (row .u32 8 (G)).toArray)) (results_row Tryz.results113 rfl (Has.all hz' .u32 G).range Tryz.underlying171 rfl (bst_info G)) rfl ⟨by first | rfl | rw [hGe],hB⟩
end Go.Proofs.YtknodedhcdpbiaaGreatDoor
