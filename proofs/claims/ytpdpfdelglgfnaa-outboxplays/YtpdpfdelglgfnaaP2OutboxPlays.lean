/- Texts of Gr Nb Nc Nu, joined. -/
import Derived.Test.YtpdpfdelglgfnaaP1OutboxPlays
import Derived.Deep.Cut
set_option maxRecDepth 20000
set_option maxHeartbeats 64000000
namespace Go.Proofs.Ytpdpfdelglgfnaa
open Go.RowKit
theorem manyW:Many Try.prog 49 (.agg #[.int .i64 0,.int .i64 0]) 16 2:=⟨by kernel_rfl⟩
theorem Mm.ofRow {w0 w:World} {l:List (Nat × List Value)} (h:Mm w0 l w) {base:Nat} {e:TypeId} {size n:Nat} {xs:List Value} {v:Value} {g:Nat} (hr:w.ownsRow base e size v n xs) (hg:v.ownBlock=some g) (h0:w0.heap.size≤base) (hne:∀ p∈l,p.1≠g):Mm w0 ((g,xs)::l) w:=by
 have hlt:=World.ownsRow.lt hr g hg
 refine ⟨fun p hp=>?_,List.pairwise_cons.2 ⟨fun p hp=>(hne p hp).symm,h.apart⟩,h.below⟩
 rcases xc1 hp with rfl | hp
 · refine ⟨fun j hj=>⟨?_,?_⟩,by simp only; omega,hlt.2⟩
   · have:=World.ownsRow.cells hr hg j _ (List.getElem?_eq_getElem hj)
     rw [Addr.add_mid,Nat.zero_add] at this
     rw [this,List.getElem?_eq_getElem hj]
   · rcases hr.2 with ⟨rfl,_⟩ | ⟨g',cap,cur,rfl,_,hgg,_⟩
     · cases hg
     · obtain rfl:g'=g:=by simpa [Value.ownBlock] using hg
       unfold World.frozen?
       simp only
       rw [hgg]
       simp
 · exact h.rows p hp
theorem idxSm {P:Program} {o:Oper} {a:Act} (t e:TypeId) (len cap m:Nat) (k:IntKind) (ad:Addr) (i:Nat) (x y:Operand) (hu:P.underlying t=some (.slice e)) (hsz:∀ w,(sizeOf e).run P w=.ok m w) (hi:i<len) (ho:o.op=.indexAddr t x y) (hx:a.eval x=.slice (some ad) len cap) (hy:a.eval y=.int k (i:Int)) (w:World) :
 (execOp a.eval o).run P w=.ok (.value (.pointer (some (ad.add (i*m))))) w:=by
 have e1:(Instr.indexAt t (.slice (some ad) len cap) (.int k (i:Int))).run P w=.ok (.pointer (some (ad.add (i*m)))) w:=by
  simp [Instr.indexAt,run_underlying hu,asIntOf,hsz]
  intro hf
  omega
 unfold execOp
 simp only [ho,hx,hy,Sem.run_bind,e1,Result.andThen_ok,Sem.run_pure]
theorem idxR2 (ad:Addr) (len cap i:Nat) (hi:i<len) {o:Oper} {a:Act} (x y:Operand) (ho:o.op=.indexAddr 29 x y) (hx:a.eval x=.slice (some ad) len cap) (hy:a.eval y=.int .i64 (i:Int)) (w:World):(execOp a.eval o).run Try.prog w=.ok (.value (.pointer (some (ad.add (i*2))))) w :=
 idxSm 29 49 len cap 2 .i64 ad i x y Try.underlying29 (fun _=>by kernel_rfl) hi ho hx hy w
theorem NewW.rng {w:World} {base:Nat} {l:List (Int × Int)} {ad:Addr} {cap:Nat} (h:NewW w base l (.slice (some ad) l.length cap)) {i:Nat} {p:Int × Int} (hi:l[i]?=some p):∀ j u,[Value.int .i64 p.1,Value.int .i64 p.2][j]?=some u→w.cell? ((ad.add (i*2)).add j)=some u:=by
 obtain ⟨ad',e,h0,h1⟩:=h.at hi
 injection e with e
 subst e; intro j u hu
 rcases j with _ | _ | j
 · obtain rfl:=Option.some.inj hu; exact h0
 · obtain rfl:=Option.some.inj hu; exact h1
 · cases hu
def brw (n:Nat) (f:Nat→Bool):List Value:=(List.range n).map fun i=>.bool (f i)
theorem brw_length (n:Nat) (f:Nat→Bool):(brw n f).length=n:=by unfold brw; rw [List.length_map,List.length_range]
theorem brw_get {n:Nat} (f:Nat→Bool) {i:Nat} (h:i<n):(brw n f)[i]?=some (.bool (f i)):=by
 unfold brw
 rw [List.getElem?_map,List.getElem?_range h]
 rfl
theorem brw_congr {n:Nat} {f g:Nat→Bool} (h:∀ i,i<n→f i=g i):brw n f=brw n g:=by
 unfold brw
 exact List.map_congr_left fun i hi=>by rw [h i (List.mem_range.1 hi)]
def bput (f:Nat→Bool) (i:Nat) (b:Bool):Nat→Bool:=fun j=>if j=i then b else f j
theorem bput_same (f:Nat→Bool) (i:Nat) (b:Bool):bput f i b i=b:=if_pos rfl
theorem bput_other {f:Nat→Bool} {i j:Nat} {b:Bool} (h:¬ j=i):bput f i b j=f j:=if_neg h
theorem brw_set (n:Nat) (f:Nat→Bool) (i:Nat) (b:Bool):(brw n f).set i (.bool b)=brw n (bput f i b):=by
 refine List.ext_getElem? fun j=>?_
 rw [List.getElem?_set]
 by_cases hj:j<n
 · rw [brw_get _ hj,brw_get _ hj,brw_length]
   by_cases c:i=j
   · subst c
     rw [if_pos rfl,if_pos hj,bput_same]
   · rw [if_neg c,bput_other fun e=>c e.symm]
 · have h1:(brw n f)[j]?=none:=List.getElem?_eq_none (by rw [brw_length]; omega)
   have h2:(brw n (bput f i b))[j]?=none:=List.getElem?_eq_none (by rw [brw_length]; omega)
   rw [h1,h2,brw_length]
   split
   · rw [if_neg (by omega)]
   · rfl
theorem brw_snoc (n:Nat) (f:Nat→Bool) (b:Bool):brw n f++[.bool b]=brw (n+1) (bput f n b):=by
 unfold brw
 rw [List.range_succ,List.map_append]
 congr 1
 · exact List.map_congr_left fun i hi=>by rw [bput_other (by have:=List.mem_range.1 hi; omega)]
 · show [Value.bool b]=[Value.bool (bput f n b n)]
   rw [bput_same]
theorem manyB:Many Try.prog 4 (.bool false) 1 1:=⟨by kernel_rfl⟩
theorem Mm.setObs {w0 w:World} {l:List (Nat × List Value)} {g:Nat} {base:Nat} {e:TypeId} {size n cap:Nat} {xs:List Value} (M:Mm w0 (obs (some ⟨g,0,none⟩)++l) w) (V:w.ownsRow base e size (.slice (some ⟨g,0,none⟩) n cap) n xs) (h0:w0.heap.size≤base) (j:Nat) (hj:j<xs.length) (u:Value) :
 ((w.cell? ⟨g,j,none⟩).isSome=true∧w.frozen? ⟨g,j,none⟩=false)∧Mm w0 (obs (some ⟨g,0,none⟩)++l) (w.setCell ⟨g,j,none⟩ u):=by
 have M':Mm w0 ((g,[])::l) w:=M
 have M2:=M'.tail.ofRow V (g:=g) rfl h0 (fun p hp e=>(List.pairwise_cons.1 M'.apart).1 p hp e.symm)
 exact ⟨⟨M2.isSome mS j hj,M2.free mS j hj⟩,(M2.set j hj u).untell⟩
def Lies (X:List Nat) (w:World) (sp:Option Addr):Prop:=∀ b∈ob sp,b∈X∨w.heap.size≤b
theorem Lies.nil (X:List Nat) (w:World):Lies X w none:=fun _ h=>by cases h
theorem Lies.grown {X:List Nat} {w w1:World} {sp sq:Option Addr} {n cap m cap2:Nat} (h:Lies X w sp) (hg:∀ g,(Value.slice sq m cap2).ownBlock=some g→(Value.slice sp n cap).ownBlock=some g∨g=w1.heap.size) (hs:w.heap.size≤w1.heap.size):Lies X w sq:=fun b hb=>by
 rcases hg b ((ob_own sq m cap2 b).2 hb) with e | e
 · exact h b ((ob_own sp n cap b).1 e)
 · exact .inr (by rw [e]; exact hs)
theorem rowCell {w:World} {base:Nat} {e:TypeId} {size n g cap:Nat} {xs:List Value} (V:w.ownsRow base e size (.slice (some ⟨g,0,none⟩) n cap) n xs) {j:Nat} {u:Value} (hu:xs[j]?=some u):w.cell? ⟨g,j,none⟩=some u:=by
 have:=World.ownsRow.cells V (g:=g) rfl j u hu
 rw [Addr.add_mid,Nat.zero_add] at this
 exact this
theorem idxRow {P:Program} {o:Oper} {a:Act} (t e:TypeId) (g len cap i:Nat) (x y:Operand) (hu:P.underlying t=some (.slice e)) (hsz:∀ w,(sizeOf e).run P w=.ok 1 w) (hi:i<len) (ho:o.op=.indexAddr t x y) (hx:a.eval x=.slice (some ⟨g,0,none⟩) len cap) (hy:a.eval y=.int .i64 (i:Int)) (w:World) :
 (execOp a.eval o).run P w=.ok (.value (.pointer (some ⟨g,i,none⟩))) w:=by
 have:=idxSm t e len cap 1 .i64 ⟨g,0,none⟩ i x y hu hsz hi ho hx hy w
 rw [Addr.add_mid,Nat.zero_add,Nat.mul_one] at this
 exact this
def dcs (o:Obx) (sb sa sh:Option Addr) (cb ca ch:Nat):List Value:=[.int .i64 o.size,.int .i64 o.lim,.int .i64 ((o.sent:Nat):Int),.slice sb o.b.length cb,.slice sa o.b.length ca,.slice sh o.b.length ch]
theorem obase_step {o:Obx} {i:Nat} (hi:i≤obase o) (hl:i<o.b.length) (h:o.he i=true):i+1≤obase o:=by
 rcases Nat.lt_or_ge i (obase o) with c | c
 · exact c
 · obtain rfl:i=obase o:=by omega
   have:=fstp_hit (fun i=>!o.he i) o.b.length hl
   have h2:(!o.he (obase o))=true:=this
   rw [h] at h2
   cases h2
theorem obase_stop {o:Obx} {i:Nat} (hi:i≤obase o) (h:o.he i=false):obase o=i:=by
 rcases Nat.lt_or_ge i (obase o) with c | c
 · have:=fstp_no (fun i=>!o.he i) o.b.length i c
   have h2:(!o.he i)=false:=this
   rw [h] at h2
   cases h2
 · omega
theorem dbase_any (w0 w:World) (R:Nat) (l:List (Nat × List Value)) (o:Obx) (sb sa sh:Option Addr) (cb ca ch:Nat) (_hw:ObxW o) (hln:o.b.length<1000000) (M:Mm w0 ((R,dcs o sb sa sh cb ca ch)::(obs sb++(obs sa++(obs sh++l)))) w) (V_b:w.ownsRow w0.heap.size 5 1 (.slice sb o.b.length cb) o.b.length (row .u8 o.b.length (bl o.b))) (V_a:w.ownsRow w0.heap.size 4 1 (.slice sa o.b.length ca) o.b.length (brw o.b.length o.ag)) (V_h:w.ownsRow w0.heap.size 4 1 (.slice sh o.b.length ch) o.b.length (brw o.b.length o.he)) :
 Calls Try.prog 23 #[.pointer (some ⟨R,0,none⟩)] w fun e w'=>e=.returned (.int .i64 ((obase o:Nat):Int))∧Below w.heap.size w w':=by
 replace M:Mm w0 ((R,[.int .i64 o.size,.int .i64 o.lim,.int .i64 ((o.sent:Nat):Int),.slice sb o.b.length cb,.slice sa o.b.length ca,.slice sh o.b.length ch])::((obs sb)++((obs sa)++((obs sh)++l)))) w:=M
 have hb0:=M.below; have OF:=Off.refl [] w; have hob:=obase_le o
 go_enter Try.func23,Try.ntmps23
 go_upto_region 0 with fail; refine wp_region_list ?_; refine xpL (.int .i64 0) ?_; refine xT ?_; go_upto_region 1 with fail; refine wp_region_list ?_; refine xpL (.int .i64 0) ?_; refine xT ?_
 have HI:=show Hid _ from (show Mm w0 ((R,[.int .i64 o.size,.int .i64 o.lim,.int .i64 ((o.sent:Nat):Int),.slice sb o.b.length cb,.slice sa o.b.length ca,.slice sh o.b.length ch])::((obs sb)++((obs sa)++((obs sh)++l)))) w∧w.ownsRow w0.heap.size 5 1 (.slice sb o.b.length cb) o.b.length (row .u8 o.b.length (bl o.b))∧w.ownsRow w0.heap.size 4 1 (.slice sa o.b.length ca) o.b.length (brw o.b.length o.ag)∧w.ownsRow w0.heap.size 4 1 (.slice sh o.b.length ch) o.b.length (brw o.b.length o.he)∧Off [] w w from ⟨M,V_b,V_a,V_h,OF⟩)
 clear M V_b V_a V_h OF; go_wp2
 go_loopw [3] (fun n w'=>∃ i':Nat,i'≤obase o∧n=.int .i64 (i':Int)∧Mm w0 ((R,[.int .i64 o.size,.int .i64 o.lim,.int .i64 ((o.sent:Nat):Int),.slice sb o.b.length cb,.slice sa o.b.length ca,.slice sh o.b.length ch])::((obs sb)++((obs sa)++((obs sh)++l)))) w'∧w'.ownsRow w0.heap.size 5 1 (.slice sb o.b.length cb) o.b.length (row .u8 o.b.length (bl o.b))∧w'.ownsRow w0.heap.size 4 1 (.slice sa o.b.length ca) o.b.length (brw o.b.length o.ag)∧w'.ownsRow w0.heap.size 4 1 (.slice sh o.b.length ch) o.b.length (brw o.b.length o.he)∧Off [] w w') (fun n _=>o.b.length-(intOf n).toNat)
 case atStart=>exact ⟨0,Nat.zero_le _,rfl,HI.out⟩
 case round =>
  clear HI
  obtain ⟨i,hi,rfl,M,V_b,V_a,V_h,OF⟩:=hrel
  by_cases hil:i<o.b.length
  · obtain ⟨gh,hg_h⟩:=row_some16 V_h (by omega)
    subst hg_h
    replace M:Mm w0 ((R,[.int .i64 o.size,.int .i64 o.lim,.int .i64 ((o.sent:Nat):Int),.slice sb o.b.length cb,.slice sa o.b.length ca,.slice (some ⟨gh,0,none⟩) o.b.length ch])::((obs sb)++((obs sa)++((obs (some ⟨gh,0,none⟩))++l)))) wr:=M
    by_cases hh:o.he i=true
    · go_upto_region 2 with fail
      refine wp_region_list ?_; refine xpL (.int .i64 (i:Int)) ?_; refine xpL (.pointer (some ⟨R,0,none⟩)) ?_; refine xpL (.pointer (some ⟨R,0,none⟩)) ?_; refine xpL (.pointer (some ⟨R,3,none⟩)) ?_; refine xaL (.slice sb o.b.length cb) (load1 28 _ ⟨R,3,none⟩ _ rfl rfl (fun _=>by kernel_rfl) (M.get mS 3 _ rfl)) ?_
      refine xaL (.int .i64 ((o.b.length:Nat):Int)) (lenS _ 28 5 sb o.b.length cb rfl Try.underlying28 rfl _) ?_; refine xaL (.bool true) (lssI .i64 _ _ _ _ _ _ rfl rfl rfl true (decide_eq_true (by omega)) _) ?_; refine xpL (.bool true) ?_; refine xpL (.pointer (some ⟨R,0,none⟩)) ?_; refine xpL (.pointer (some ⟨R,0,none⟩)) ?_; refine xpL (.pointer (some ⟨R,5,none⟩)) ?_
      refine xaL (.slice (some ⟨gh,0,none⟩) o.b.length ch) (load1 43 _ ⟨R,5,none⟩ _ rfl rfl (fun _=>by kernel_rfl) (M.get mS 5 _ rfl)) ?_; refine xpL (.int .i64 (i:Int)) ?_; refine xaL (.pointer (some ⟨gh,i,none⟩)) (idxRow 43 4 gh _ _ i _ _ Try.underlying43 (fun _=>by kernel_rfl) hil rfl rfl rfl _) ?_
      refine xaL (.bool true) (load1 4 _ ⟨gh,i,none⟩ _ rfl rfl (fun _=>by kernel_rfl) (rowCell V_h (by rw [brw_get _ hil,hh]))) ?_; refine xpL (.bool true) ?_; refine xT ?_; have hi1:=obase_step hi hil hh; clear hh
      have HS:=show Hid _ from (show Mm w0 ((R,[.int .i64 o.size,.int .i64 o.lim,.int .i64 ((o.sent:Nat):Int),.slice sb o.b.length cb,.slice sa o.b.length ca,.slice (some ⟨gh,0,none⟩) o.b.length ch])::((obs sb)++((obs sa)++((obs (some ⟨gh,0,none⟩))++l)))) wr∧wr.ownsRow w0.heap.size 5 1 (.slice sb o.b.length cb) o.b.length (row .u8 o.b.length (bl o.b))∧wr.ownsRow w0.heap.size 4 1 (.slice sa o.b.length ca) o.b.length (brw o.b.length o.ag)∧wr.ownsRow w0.heap.size 4 1 (.slice (some ⟨gh,0,none⟩) o.b.length ch) o.b.length (brw o.b.length o.he)∧Off [] w wr from ⟨M,V_b,V_a,V_h,OF⟩)
      clear M V_b V_a V_h OF; go_wp2
      go_roundw
      case rel=>exact ⟨i+1,hi1,by go_num,HS.out⟩
      case measure=>simp [intOf]; omega
    · rw [Bool.not_eq_true] at hh
      have hoi:=obase_stop hi hh; go_upto_region 2 with fail; refine wp_region_list ?_; refine xpL (.int .i64 (i:Int)) ?_; refine xpL (.pointer (some ⟨R,0,none⟩)) ?_; refine xpL (.pointer (some ⟨R,0,none⟩)) ?_; refine xpL (.pointer (some ⟨R,3,none⟩)) ?_; refine xaL (.slice sb o.b.length cb) (load1 28 _ ⟨R,3,none⟩ _ rfl rfl (fun _=>by kernel_rfl) (M.get mS 3 _ rfl)) ?_
      refine xaL (.int .i64 ((o.b.length:Nat):Int)) (lenS _ 28 5 sb o.b.length cb rfl Try.underlying28 rfl _) ?_; refine xaL (.bool true) (lssI .i64 _ _ _ _ _ _ rfl rfl rfl true (decide_eq_true (by omega)) _) ?_; refine xpL (.bool true) ?_; refine xpL (.pointer (some ⟨R,0,none⟩)) ?_; refine xpL (.pointer (some ⟨R,0,none⟩)) ?_; refine xpL (.pointer (some ⟨R,5,none⟩)) ?_
      refine xaL (.slice (some ⟨gh,0,none⟩) o.b.length ch) (load1 43 _ ⟨R,5,none⟩ _ rfl rfl (fun _=>by kernel_rfl) (M.get mS 5 _ rfl)) ?_; refine xpL (.int .i64 (i:Int)) ?_; refine xaL (.pointer (some ⟨gh,i,none⟩)) (idxRow 43 4 gh _ _ i _ _ Try.underlying43 (fun _=>by kernel_rfl) hil rfl rfl rfl _) ?_
      refine xaL (.bool false) (load1 4 _ ⟨gh,i,none⟩ _ rfl rfl (fun _=>by kernel_rfl) (rowCell V_h (by rw [brw_get _ hil,hh]))) ?_; refine xpL (.bool false) ?_; refine xT ?_; go_upto_region 4 with fail; refine wp_region_list ?_; refine xpL (.int .i64 (i:Int)) ?_; refine xpL (.int .i64 (i:Int)) ?_; refine xT ?_; replace hoi:=show Hid _ from hoi; clear hh
      have hbel:Below w.heap.size w wr:=⟨M.below.os.trans hb0.os.symm,M.below.tape.trans hb0.tape.symm,M.below.output.trans hb0.output.symm,OF.size,fun b hb=>OF.blk b hb (fun h=>by cases h)⟩
      have HS:=show Hid _ from hbel; clear M OF hbel V_b V_a V_h; go_wp2; go_ret
      exact ⟨by rw [hoi.out]; rfl,HS.out⟩
  · have hoi:obase o=i:=by omega
    go_upto_region 2 with fail; refine wp_region_list ?_; refine xpL (.int .i64 (i:Int)) ?_; refine xpL (.pointer (some ⟨R,0,none⟩)) ?_; refine xpL (.pointer (some ⟨R,0,none⟩)) ?_; refine xpL (.pointer (some ⟨R,3,none⟩)) ?_; refine xaL (.slice sb o.b.length cb) (load1 28 _ ⟨R,3,none⟩ _ rfl rfl (fun _=>by kernel_rfl) (M.get mS 3 _ rfl)) ?_
    refine xaL (.int .i64 ((o.b.length:Nat):Int)) (lenS _ 28 5 sb o.b.length cb rfl Try.underlying28 rfl _) ?_; refine xaL (.bool false) (lssI .i64 _ _ _ _ _ _ rfl rfl rfl false (decide_eq_false (by omega)) _) ?_; refine xpL (.bool false) ?_
    with_reducible refine skipL ?_ ?_
    · rfl
    simp only [aP,lI,l0,lS]
    with_reducible refine skipL ?_ ?_
    · rfl
    simp only [aP,lI,l0,lS]
    with_reducible refine skipL ?_ ?_
    · rfl
    simp only [aP,lI,l0,lS]
    with_reducible refine skipL ?_ ?_
    · rfl
    simp only [aP,lI,l0,lS]
    with_reducible refine skipL ?_ ?_
    · rfl
    simp only [aP,lI,l0,lS]
    with_reducible refine skipL ?_ ?_
    · rfl
    simp only [aP,lI,l0,lS]
    with_reducible refine skipL ?_ ?_
    · rfl
    simp only [aP,lI,l0,lS]; refine xpL (.bool false) ?_; refine xT ?_; go_upto_region 4 with fail; refine wp_region_list ?_; refine xpL (.int .i64 (i:Int)) ?_; refine xpL (.int .i64 (i:Int)) ?_; refine xT ?_; replace hoi:=show Hid _ from hoi
    have hbel:Below w.heap.size w wr:=⟨M.below.os.trans hb0.os.symm,M.below.tape.trans hb0.tape.symm,M.below.output.trans hb0.output.symm,OF.size,fun b hb=>OF.blk b hb (fun h=>by cases h)⟩
    have HS:=show Hid _ from hbel; clear M OF hbel V_b V_a V_h; go_wp2; go_ret
    exact ⟨by rw [hoi.out]; rfl,HS.out⟩
theorem didle_any (w0 w:World) (R:Nat) (l:List (Nat × List Value)) (o:Obx) (sb sa sh:Option Addr) (cb ca ch:Nat) (hw:ObxW o) (hln:o.b.length<1000000) (M:Mm w0 ((R,dcs o sb sa sh cb ca ch)::(obs sb++(obs sa++(obs sh++l)))) w) (V_b:w.ownsRow w0.heap.size 5 1 (.slice sb o.b.length cb) o.b.length (row .u8 o.b.length (bl o.b))) (V_a:w.ownsRow w0.heap.size 4 1 (.slice sa o.b.length ca) o.b.length (brw o.b.length o.ag)) (V_h:w.ownsRow w0.heap.size 4 1 (.slice sh o.b.length ch) o.b.length (brw o.b.length o.he)) :
 Calls Try.prog 27 #[.pointer (some ⟨R,0,none⟩)] w fun e w'=>e=.returned (.bool (oid o))∧Below w.heap.size w w':=by
 replace M:Mm w0 ((R,[.int .i64 o.size,.int .i64 o.lim,.int .i64 ((o.sent:Nat):Int),.slice sb o.b.length cb,.slice sa o.b.length ca,.slice sh o.b.length ch])::((obs sb)++((obs sa)++((obs sh)++l)))) w:=M
 have hb0:=M.below; have OF:=Off.refl [] w
 go_enter Try.func27,Try.ntmps27
 go_upto_region 0 with fail; refine wp_region_list ?_; refine xpL (.bool false) ?_; refine xT ?_; go_upto_region 1 with fail; have hdr:=(Below.refl w.heap.size w).drew; replace M:=M.drew; replace V_b:=ownsRow_bel V_b hdr; replace V_a:=ownsRow_bel V_a hdr; replace V_h:=ownsRow_bel V_h hdr; replace OF:=OF.below hdr; clear hdr
 refine wp_region_held_drew (S:=fun w'=>Mm w0 [(R,[.int .i64 o.size,.int .i64 o.lim,.int .i64 ((o.sent:Nat):Int),.slice sb o.b.length cb,.slice sa o.b.length ca,.slice sh o.b.length ch])] w') (by kernel_rfl) (M.sub _ (List.cons_sublist_cons.2 (List.nil_sublist _))) ?_; intro _; generalize w.drew=w1 at M V_b V_a V_h OF ⊢
 refine xrH 0 3 rfl (.pointer (some ⟨R,0,none⟩)) (fun _ hS=>(by kernel_rfl)) (M.sub _ (List.cons_sublist_cons.2 (List.nil_sublist _))) ?_; refine xrH 2 5 rfl (.pointer (some ⟨R,0,none⟩)) (fun _ hS=>(by kernel_rfl)) (M.sub _ (List.cons_sublist_cons.2 (List.nil_sublist _))) ?_
 refine xrH 3 6 rfl (.pointer (some ⟨R,0,none⟩)) (fun _ hS=>(by kernel_rfl)) (M.sub _ (List.cons_sublist_cons.2 (List.nil_sublist _))) ?_; refine xrH 4 7 rfl (.pointer (some ⟨R,3,none⟩)) (fun _ hS=>(by kernel_rfl)) (M.sub _ (List.cons_sublist_cons.2 (List.nil_sublist _))) ?_
 refine xrH 5 8 rfl (.slice sb o.b.length cb) (fun _ hS=>load1 28 _ ⟨R,3,none⟩ _ rfl rfl (fun _=>by kernel_rfl) (hS.get mS 3 _ rfl)) (M.sub _ (List.cons_sublist_cons.2 (List.nil_sublist _))) ?_; refine xrH 6 9 rfl (.int .i64 ((o.b.length:Nat):Int)) (fun _ hS=>lenS _ 28 5 sb o.b.length cb rfl Try.underlying28 rfl _) (M.sub _ (List.cons_sublist_cons.2 (List.nil_sublist _))) ?_
 have key:=dbase_any w0 _ R _ o sb sa sh cb ca ch hw hln M V_b V_a V_h; refine callH (i:=1) (some 4) rfl (by kernel_rfl) rfl rfl (fun _=>by kernel_rfl) key ?_; clear key; rintro e w2 ⟨rfl,l_⟩; replace M:=M.call l_; replace V_b:=ownsRow_bel V_b l_; replace V_a:=ownsRow_bel V_a l_; replace V_h:=ownsRow_bel V_h l_; replace OF:=OF.below l_; clear l_
 refine ⟨_,rfl,(M.sub _ (List.cons_sublist_cons.2 (List.nil_sublist _))),?_⟩
 simp only [aP,lI,l0,lS]; refine xrH 7 10 rfl (.bool (oid o)) (fun _ hS=>eqlI .i64 _ _ _ _ _ _ rfl rfl rfl (oid o) (by unfold oid; rw [Bool.eq_iff_iff,beq_iff_eq,decide_eq_true_eq]; omega) _) (M.sub _ (List.cons_sublist_cons.2 (List.nil_sublist _))) ?_; refine xrH 8 2 rfl (.bool (oid o)) (fun _ hS=>(by kernel_rfl)) (M.sub _ (List.cons_sublist_cons.2 (List.nil_sublist _))) ?_
 refine wpAnyH_done (by kernel_rfl) ?_ _
 first | show Exit.then _ _ _ _ _ | show Exit.inBlock _ _ _ _ _
 have hbel:Below w.heap.size w w2:=⟨M.below.os.trans hb0.os.symm,M.below.tape.trans hb0.tape.symm,M.below.output.trans hb0.output.symm,OF.size,fun b hb=>OF.blk b hb (fun h=>by cases h)⟩
 have HS:=show Hid _ from hbel; clear M OF hbel V_b V_a V_h; go_wp2; go_ret
 exact ⟨rfl,HS.out⟩
theorem dallow_any (w0 w:World) (R:Nat) (l:List (Nat × List Value)) (o:Obx) (sb sa sh:Option Addr) (cb ca ch:Nat) (_hw:ObxW o) (_hln:o.b.length<1000000) (n:Int) (M:Mm w0 ((R,dcs o sb sa sh cb ca ch)::(obs sb++(obs sa++(obs sh++l)))) w) (V_b:w.ownsRow w0.heap.size 5 1 (.slice sb o.b.length cb) o.b.length (row .u8 o.b.length (bl o.b))) (V_a:w.ownsRow w0.heap.size 4 1 (.slice sa o.b.length ca) o.b.length (brw o.b.length o.ag)) (V_h:w.ownsRow w0.heap.size 4 1 (.slice sh o.b.length ch) o.b.length (brw o.b.length o.he)) :
 Calls Try.prog 20 #[.pointer (some ⟨R,0,none⟩),.int .i64 n] w fun e w'=>e=.returned (.tuple #[])∧Mm w0 ((R,dcs (oal o n) sb sa sh cb ca ch)::(obs sb++(obs sa++(obs sh++l)))) w'∧Off [R] w w':=by
 replace M:Mm w0 ((R,[.int .i64 o.size,.int .i64 o.lim,.int .i64 ((o.sent:Nat):Int),.slice sb o.b.length cb,.slice sa o.b.length ca,.slice sh o.b.length ch])::((obs sb)++((obs sa)++((obs sh)++l)))) w:=M
 have hb0:=M.below
 obtain ⟨XS,hXS⟩:∃ X_,X_=[R]:=⟨_,rfl⟩
 have hRX:R∈XS:=by rw [hXS]; simp
 have OF:=Off.refl XS w
 go_enter Try.func20,Try.ntmps20
 go_upto_region 0 with fail; refine wp_region_list ?_; refine xpL (.pointer (some ⟨R,0,none⟩)) ?_; refine xpL (.pointer (some ⟨R,0,none⟩)) ?_; refine xpL (.pointer (some ⟨R,0,none⟩)) ?_; refine xpL (.pointer (some ⟨R,1,none⟩)) ?_; refine xaL (.int .i64 o.lim) (load1 3 _ ⟨R,1,none⟩ _ rfl rfl (fun _=>by kernel_rfl) (M.get mS 1 _ rfl)) ?_; refine xpL (.int .i64 n) ?_
 refine xaL (.int .i64 (max o.lim n)) (maxI .i64 .i64 _ _ _ _ _ _ _ rfl rfl rfl (by split <;> omega) _) ?_; refine xpL (.pointer (some ⟨R,0,none⟩)) ?_; refine xpL (.pointer (some ⟨R,1,none⟩)) ?_; refine skipOpL rfl (storeAny (.int .i64 (max o.lim n)) R 1 3 _ _ rfl rfl rfl rfl rfl (M.isSome mS 1 (by simp)) (M.free mS 1 (by simp)) (by kernel_rfl)) ?_; simp only [Act.put]
 replace M:=M.set 1 (by simp) (.int .i64 (max o.lim n)); replace V_b:=ownsRow_away V_b ((Off.refl [R] _).set (b:=R) mS 1 (.int .i64 (max o.lim n))) (fun b_ hb_=>by obtain rfl:=xm1 hb_; exact M.awayB (fun p_ hp_=>by simp [hp_]))
 replace V_a:=ownsRow_away V_a ((Off.refl [R] _).set (b:=R) mS 1 (.int .i64 (max o.lim n))) (fun b_ hb_=>by obtain rfl:=xm1 hb_; exact M.awayB (fun p_ hp_=>by simp [hp_])); replace V_h:=ownsRow_away V_h ((Off.refl [R] _).set (b:=R) mS 1 (.int .i64 (max o.lim n))) (fun b_ hb_=>by obtain rfl:=xm1 hb_; exact M.awayB (fun p_ hp_=>by simp [hp_]))
 replace OF:=OF.and1 ((Off.refl [R] _).set (b:=R) mS 1 (.int .i64 (max o.lim n))) (.inl hRX); generalize w.setCell ⟨R,1,none⟩ (.int .i64 (max o.lim n))=w1 at M V_b V_a V_h OF ⊢
 replace M:Mm w0 ((R,[.int .i64 o.size,.int .i64 (max o.lim n),.int .i64 ((o.sent:Nat):Int),.slice sb o.b.length cb,.slice sa o.b.length ca,.slice sh o.b.length ch])::((obs sb)++((obs sa)++((obs sh)++l)))) w1:=M
 rw [hXS] at OF
 exact ⟨rfl,.tuple #[],by kernel_rfl,rfl,M,OF⟩
theorem dblocked_any (w0 w:World) (R:Nat) (l:List (Nat × List Value)) (o:Obx) (sb sa sh:Option Addr) (cb ca ch:Nat) (hw:ObxW o) (hln:o.b.length<1000000) (M:Mm w0 ((R,dcs o sb sa sh cb ca ch)::(obs sb++(obs sa++(obs sh++l)))) w) (V_b:w.ownsRow w0.heap.size 5 1 (.slice sb o.b.length cb) o.b.length (row .u8 o.b.length (bl o.b))) (V_a:w.ownsRow w0.heap.size 4 1 (.slice sa o.b.length ca) o.b.length (brw o.b.length o.ag)) (V_h:w.ownsRow w0.heap.size 4 1 (.slice sh o.b.length ch) o.b.length (brw o.b.length o.he)) :
 Calls Try.prog 29 #[.pointer (some ⟨R,0,none⟩)] w fun e w'=>e=.returned (.bool (obl o))∧Below w.heap.size w w':=by
 replace M:Mm w0 ((R,[.int .i64 o.size,.int .i64 o.lim,.int .i64 ((o.sent:Nat):Int),.slice sb o.b.length cb,.slice sa o.b.length ca,.slice sh o.b.length ch])::((obs sb)++((obs sa)++((obs sh)++l)))) w:=M
 have hb0:=M.below; have OF:=Off.refl [] w; have hst:=hw.st
 go_enter Try.func29,Try.ntmps29
 go_upto_region 0 with fail; refine wp_region_list ?_; refine xpL (.bool false) ?_; refine xT ?_; go_upto_region 1 with fail; refine wp_region_list ?_; refine xpL (.int .i64 0) ?_; refine xT ?_
 have HI:=show Hid _ from (show Mm w0 ((R,[.int .i64 o.size,.int .i64 o.lim,.int .i64 ((o.sent:Nat):Int),.slice sb o.b.length cb,.slice sa o.b.length ca,.slice sh o.b.length ch])::((obs sb)++((obs sa)++((obs sh)++l)))) w∧w.ownsRow w0.heap.size 5 1 (.slice sb o.b.length cb) o.b.length (row .u8 o.b.length (bl o.b))∧w.ownsRow w0.heap.size 4 1 (.slice sa o.b.length ca) o.b.length (brw o.b.length o.ag)∧w.ownsRow w0.heap.size 4 1 (.slice sh o.b.length ch) o.b.length (brw o.b.length o.he)∧Off [] w w from ⟨M,V_b,V_a,V_h,OF⟩)
 clear M V_b V_a V_h OF; go_wp2
 go_loopw [3] (fun n w'=>∃ i':Nat,i'≤onA o∧n=.int .i64 (i':Int)∧Mm w0 ((R,[.int .i64 o.size,.int .i64 o.lim,.int .i64 ((o.sent:Nat):Int),.slice sb o.b.length cb,.slice sa o.b.length ca,.slice sh o.b.length ch])::((obs sb)++((obs sa)++((obs sh)++l)))) w'∧w'.ownsRow w0.heap.size 5 1 (.slice sb o.b.length cb) o.b.length (row .u8 o.b.length (bl o.b))∧w'.ownsRow w0.heap.size 4 1 (.slice sa o.b.length ca) o.b.length (brw o.b.length o.ag)∧w'.ownsRow w0.heap.size 4 1 (.slice sh o.b.length ch) o.b.length (brw o.b.length o.he)∧Off [] w w') (fun n _=>o.b.length-(intOf n).toNat)
 case atStart=>exact ⟨0,Nat.zero_le _,rfl,HI.out⟩
 case round =>
  clear HI
  obtain ⟨i,hi,rfl,M,V_b,V_a,V_h,OF⟩:=hrel
  have hal:=onA_le o
  by_cases hil:i<o.b.length
  · obtain ⟨ga,hg_a⟩:=row_some16 V_a (by omega)
    subst hg_a
    replace M:Mm w0 ((R,[.int .i64 o.size,.int .i64 o.lim,.int .i64 ((o.sent:Nat):Int),.slice sb o.b.length cb,.slice (some ⟨ga,0,none⟩) o.b.length ca,.slice sh o.b.length ch])::((obs sb)++((obs (some ⟨ga,0,none⟩))++((obs sh)++l)))) wr:=M
    go_upto_region 2 with fail; refine wp_region_list ?_; refine xpL (.int .i64 (i:Int)) ?_; refine xpL (.pointer (some ⟨R,0,none⟩)) ?_; refine xpL (.pointer (some ⟨R,0,none⟩)) ?_; refine xpL (.pointer (some ⟨R,4,none⟩)) ?_; refine xaL (.slice (some ⟨ga,0,none⟩) o.b.length ca) (load1 43 _ ⟨R,4,none⟩ _ rfl rfl (fun _=>by kernel_rfl) (M.get mS 4 _ rfl)) ?_
    refine xaL (.int .i64 ((o.b.length:Nat):Int)) (lenS _ 43 4 (some ⟨ga,0,none⟩) o.b.length ca rfl Try.underlying43 rfl _) ?_; refine xaL (.bool true) (lssI .i64 _ _ _ _ _ _ rfl rfl rfl true (decide_eq_true (by omega)) _) ?_; refine xT ?_
    by_cases hh:o.ag i=true
    · go_upto_region 4 with fail
      refine wp_region_list ?_; refine xpL (.pointer (some ⟨R,0,none⟩)) ?_; refine xpL (.pointer (some ⟨R,0,none⟩)) ?_; refine xpL (.pointer (some ⟨R,4,none⟩)) ?_; refine xaL (.slice (some ⟨ga,0,none⟩) o.b.length ca) (load1 43 _ ⟨R,4,none⟩ _ rfl rfl (fun _=>by kernel_rfl) (M.get mS 4 _ rfl)) ?_; refine xpL (.int .i64 (i:Int)) ?_
      refine xaL (.pointer (some ⟨ga,i,none⟩)) (idxRow 43 4 ga _ _ i _ _ Try.underlying43 (fun _=>by kernel_rfl) hil rfl rfl rfl _) ?_; refine xaL (.bool true) (load1 4 _ ⟨ga,i,none⟩ _ rfl rfl (fun _=>by kernel_rfl) (rowCell V_a (by rw [brw_get _ hil,hh]))) ?_; refine xT ?_; go_upto_region 5 with fail; refine wp_region_list ?_; refine xpL (.bool false) ?_; refine xT ?_
      have hoi:=show Hid _ from (show obl o=false from decide_eq_false fun h_=>h_.1 (by
       rcases Nat.lt_or_ge (onA o) o.b.length with c | c
       · exact c
       · have:=onA_no (o:=o) (i:=i) (by omega)
         rw [hh] at this
         cases this))
      clear hh
      have hbel:Below w.heap.size w wr:=⟨M.below.os.trans hb0.os.symm,M.below.tape.trans hb0.tape.symm,M.below.output.trans hb0.output.symm,OF.size,fun b hb=>OF.blk b hb (fun h=>by cases h)⟩
      have HS:=show Hid _ from hbel; clear M OF hbel V_b V_a V_h; go_wp2; go_ret
      exact ⟨by rw [hoi.out]; rfl,HS.out⟩
    · rw [Bool.not_eq_true] at hh
      go_upto_region 4 with fail; refine wp_region_list ?_; refine xpL (.pointer (some ⟨R,0,none⟩)) ?_; refine xpL (.pointer (some ⟨R,0,none⟩)) ?_; refine xpL (.pointer (some ⟨R,4,none⟩)) ?_; refine xaL (.slice (some ⟨ga,0,none⟩) o.b.length ca) (load1 43 _ ⟨R,4,none⟩ _ rfl rfl (fun _=>by kernel_rfl) (M.get mS 4 _ rfl)) ?_; refine xpL (.int .i64 (i:Int)) ?_
      refine xaL (.pointer (some ⟨ga,i,none⟩)) (idxRow 43 4 ga _ _ i _ _ Try.underlying43 (fun _=>by kernel_rfl) hil rfl rfl rfl _) ?_; refine xaL (.bool false) (load1 4 _ ⟨ga,i,none⟩ _ rfl rfl (fun _=>by kernel_rfl) (rowCell V_a (by rw [brw_get _ hil,hh]))) ?_; refine xT ?_
      have hi1:i+1≤onA o:=by
       rcases Nat.lt_or_ge i (onA o) with c | c
       · exact c
       · obtain rfl:i=onA o:=by omega
         have:=onA_hit (o:=o) hil
         rw [hh] at this
         cases this
      clear hh
      have HS:=show Hid _ from (show Mm w0 ((R,[.int .i64 o.size,.int .i64 o.lim,.int .i64 ((o.sent:Nat):Int),.slice sb o.b.length cb,.slice (some ⟨ga,0,none⟩) o.b.length ca,.slice sh o.b.length ch])::((obs sb)++((obs (some ⟨ga,0,none⟩))++((obs sh)++l)))) wr∧wr.ownsRow w0.heap.size 5 1 (.slice sb o.b.length cb) o.b.length (row .u8 o.b.length (bl o.b))∧wr.ownsRow w0.heap.size 4 1 (.slice (some ⟨ga,0,none⟩) o.b.length ca) o.b.length (brw o.b.length o.ag)∧wr.ownsRow w0.heap.size 4 1 (.slice sh o.b.length ch) o.b.length (brw o.b.length o.he)∧Off [] w wr from ⟨M,V_b,V_a,V_h,OF⟩)
      clear M V_b V_a V_h OF; go_wp2
      go_roundw
      case rel=>exact ⟨i+1,hi1,by go_num,HS.out⟩
      case measure=>simp [intOf]; omega
  · go_upto_region 2 with fail
    refine wp_region_list ?_; refine xpL (.int .i64 (i:Int)) ?_; refine xpL (.pointer (some ⟨R,0,none⟩)) ?_; refine xpL (.pointer (some ⟨R,0,none⟩)) ?_; refine xpL (.pointer (some ⟨R,4,none⟩)) ?_; refine xaL (.slice sa o.b.length ca) (load1 43 _ ⟨R,4,none⟩ _ rfl rfl (fun _=>by kernel_rfl) (M.get mS 4 _ rfl)) ?_
    refine xaL (.int .i64 ((o.b.length:Nat):Int)) (lenS _ 43 4 sa o.b.length ca rfl Try.underlying43 rfl _) ?_; refine xaL (.bool false) (lssI .i64 _ _ _ _ _ _ rfl rfl rfl false (decide_eq_false (by omega)) _) ?_; refine xT ?_
    by_cases h1:o.sent<o.b.length
    · by_cases h2:(o.sent:Int)≥o.lim
      · go_upto_region 6 with fail
        have hdr:=(Below.refl wr.heap.size wr).drew; replace M:=M.drew; replace V_b:=ownsRow_bel V_b hdr; replace V_a:=ownsRow_bel V_a hdr; replace V_h:=ownsRow_bel V_h hdr; replace OF:=OF.below hdr; clear hdr
        refine wp_region_held_drew (S:=fun w'=>Mm w0 [(R,[.int .i64 o.size,.int .i64 o.lim,.int .i64 ((o.sent:Nat):Int),.slice sb o.b.length cb,.slice sa o.b.length ca,.slice sh o.b.length ch])] w') (by kernel_rfl) (M.sub _ (List.cons_sublist_cons.2 (List.nil_sublist _))) ?_; intro _; generalize wr.drew=w1 at M V_b V_a V_h OF ⊢
        refine xrH 0 20 rfl (.pointer (some ⟨R,0,none⟩)) (fun _ hS=>(by kernel_rfl)) (M.sub _ (List.cons_sublist_cons.2 (List.nil_sublist _))) ?_; refine xrH 1 21 rfl (.pointer (some ⟨R,0,none⟩)) (fun _ hS=>(by kernel_rfl)) (M.sub _ (List.cons_sublist_cons.2 (List.nil_sublist _))) ?_
        refine xrH 2 22 rfl (.pointer (some ⟨R,3,none⟩)) (fun _ hS=>(by kernel_rfl)) (M.sub _ (List.cons_sublist_cons.2 (List.nil_sublist _))) ?_; refine xrH 3 23 rfl (.slice sb o.b.length cb) (fun _ hS=>load1 28 _ ⟨R,3,none⟩ _ rfl rfl (fun _=>by kernel_rfl) (hS.get mS 3 _ rfl)) (M.sub _ (List.cons_sublist_cons.2 (List.nil_sublist _))) ?_
        refine xrH 4 24 rfl (.int .i64 ((o.b.length:Nat):Int)) (fun _ hS=>lenS _ 28 5 sb o.b.length cb rfl Try.underlying28 rfl _) (M.sub _ (List.cons_sublist_cons.2 (List.nil_sublist _))) ?_; refine xrH 5 25 rfl (.pointer (some ⟨R,0,none⟩)) (fun _ hS=>(by kernel_rfl)) (M.sub _ (List.cons_sublist_cons.2 (List.nil_sublist _))) ?_
        refine xrH 6 26 rfl (.pointer (some ⟨R,0,none⟩)) (fun _ hS=>(by kernel_rfl)) (M.sub _ (List.cons_sublist_cons.2 (List.nil_sublist _))) ?_; refine xrH 7 27 rfl (.pointer (some ⟨R,2,none⟩)) (fun _ hS=>(by kernel_rfl)) (M.sub _ (List.cons_sublist_cons.2 (List.nil_sublist _))) ?_
        refine xrH 8 28 rfl (.int .i64 ((o.sent:Nat):Int)) (fun _ hS=>load1 3 _ ⟨R,2,none⟩ _ rfl rfl (fun _=>by kernel_rfl) (hS.get mS 2 _ rfl)) (M.sub _ (List.cons_sublist_cons.2 (List.nil_sublist _))) ?_; refine xrH 9 29 rfl (.bool true) (fun _ hS=>gtrI .i64 _ _ _ _ _ _ rfl rfl rfl true (decide_eq_true (by omega)) _) (M.sub _ (List.cons_sublist_cons.2 (List.nil_sublist _))) ?_
        refine xrH 10 30 rfl (.bool true) (fun _ hS=>(by kernel_rfl)) (M.sub _ (List.cons_sublist_cons.2 (List.nil_sublist _))) ?_; refine xrH 11 31 rfl (.pointer (some ⟨R,0,none⟩)) (fun _ hS=>(by kernel_rfl)) (M.sub _ (List.cons_sublist_cons.2 (List.nil_sublist _))) ?_
        refine xrH 12 32 rfl (.pointer (some ⟨R,0,none⟩)) (fun _ hS=>(by kernel_rfl)) (M.sub _ (List.cons_sublist_cons.2 (List.nil_sublist _))) ?_; refine xrH 13 33 rfl (.pointer (some ⟨R,2,none⟩)) (fun _ hS=>(by kernel_rfl)) (M.sub _ (List.cons_sublist_cons.2 (List.nil_sublist _))) ?_
        refine xrH 14 34 rfl (.int .i64 ((o.sent:Nat):Int)) (fun _ hS=>load1 3 _ ⟨R,2,none⟩ _ rfl rfl (fun _=>by kernel_rfl) (hS.get mS 2 _ rfl)) (M.sub _ (List.cons_sublist_cons.2 (List.nil_sublist _))) ?_; refine xrH 15 35 rfl (.pointer (some ⟨R,0,none⟩)) (fun _ hS=>(by kernel_rfl)) (M.sub _ (List.cons_sublist_cons.2 (List.nil_sublist _))) ?_
        refine xrH 16 36 rfl (.pointer (some ⟨R,0,none⟩)) (fun _ hS=>(by kernel_rfl)) (M.sub _ (List.cons_sublist_cons.2 (List.nil_sublist _))) ?_; refine xrH 17 37 rfl (.pointer (some ⟨R,1,none⟩)) (fun _ hS=>(by kernel_rfl)) (M.sub _ (List.cons_sublist_cons.2 (List.nil_sublist _))) ?_
        refine xrH 18 38 rfl (.int .i64 o.lim) (fun _ hS=>load1 3 _ ⟨R,1,none⟩ _ rfl rfl (fun _=>by kernel_rfl) (hS.get mS 1 _ rfl)) (M.sub _ (List.cons_sublist_cons.2 (List.nil_sublist _))) ?_; refine xrH 19 39 rfl (.bool true) (fun _ hS=>geqI .i64 _ _ _ _ _ _ rfl rfl rfl true (decide_eq_true (by omega)) _) (M.sub _ (List.cons_sublist_cons.2 (List.nil_sublist _))) ?_
        refine xrH 20 40 rfl (.bool true) (fun _ hS=>(by kernel_rfl)) (M.sub _ (List.cons_sublist_cons.2 (List.nil_sublist _))) ?_; refine xrH 21 2 rfl (.bool true) (fun _ hS=>(by kernel_rfl)) (M.sub _ (List.cons_sublist_cons.2 (List.nil_sublist _))) ?_
        refine wpAnyH_done (by kernel_rfl) ?_ _
        first | show Exit.then _ _ _ _ _ | show Exit.inBlock _ _ _ _ _
        have hoi:=show Hid _ from (show obl o=true from decide_eq_true (by omega))
        have hbel:Below w.heap.size w w1:=⟨M.below.os.trans hb0.os.symm,M.below.tape.trans hb0.tape.symm,M.below.output.trans hb0.output.symm,OF.size,fun b hb=>OF.blk b hb (fun h=>by cases h)⟩
        have HS:=show Hid _ from hbel; clear M OF hbel V_b V_a V_h; go_wp2; go_ret
        exact ⟨by rw [hoi.out]; rfl,HS.out⟩
      · go_upto_region 6 with fail
        have hdr:=(Below.refl wr.heap.size wr).drew; replace M:=M.drew; replace V_b:=ownsRow_bel V_b hdr; replace V_a:=ownsRow_bel V_a hdr; replace V_h:=ownsRow_bel V_h hdr; replace OF:=OF.below hdr; clear hdr
        refine wp_region_held_drew (S:=fun w'=>Mm w0 [(R,[.int .i64 o.size,.int .i64 o.lim,.int .i64 ((o.sent:Nat):Int),.slice sb o.b.length cb,.slice sa o.b.length ca,.slice sh o.b.length ch])] w') (by kernel_rfl) (M.sub _ (List.cons_sublist_cons.2 (List.nil_sublist _))) ?_; intro _; generalize wr.drew=w2 at M V_b V_a V_h OF ⊢
        refine xrH 0 20 rfl (.pointer (some ⟨R,0,none⟩)) (fun _ hS=>(by kernel_rfl)) (M.sub _ (List.cons_sublist_cons.2 (List.nil_sublist _))) ?_; refine xrH 1 21 rfl (.pointer (some ⟨R,0,none⟩)) (fun _ hS=>(by kernel_rfl)) (M.sub _ (List.cons_sublist_cons.2 (List.nil_sublist _))) ?_
        refine xrH 2 22 rfl (.pointer (some ⟨R,3,none⟩)) (fun _ hS=>(by kernel_rfl)) (M.sub _ (List.cons_sublist_cons.2 (List.nil_sublist _))) ?_; refine xrH 3 23 rfl (.slice sb o.b.length cb) (fun _ hS=>load1 28 _ ⟨R,3,none⟩ _ rfl rfl (fun _=>by kernel_rfl) (hS.get mS 3 _ rfl)) (M.sub _ (List.cons_sublist_cons.2 (List.nil_sublist _))) ?_
        refine xrH 4 24 rfl (.int .i64 ((o.b.length:Nat):Int)) (fun _ hS=>lenS _ 28 5 sb o.b.length cb rfl Try.underlying28 rfl _) (M.sub _ (List.cons_sublist_cons.2 (List.nil_sublist _))) ?_; refine xrH 5 25 rfl (.pointer (some ⟨R,0,none⟩)) (fun _ hS=>(by kernel_rfl)) (M.sub _ (List.cons_sublist_cons.2 (List.nil_sublist _))) ?_
        refine xrH 6 26 rfl (.pointer (some ⟨R,0,none⟩)) (fun _ hS=>(by kernel_rfl)) (M.sub _ (List.cons_sublist_cons.2 (List.nil_sublist _))) ?_; refine xrH 7 27 rfl (.pointer (some ⟨R,2,none⟩)) (fun _ hS=>(by kernel_rfl)) (M.sub _ (List.cons_sublist_cons.2 (List.nil_sublist _))) ?_
        refine xrH 8 28 rfl (.int .i64 ((o.sent:Nat):Int)) (fun _ hS=>load1 3 _ ⟨R,2,none⟩ _ rfl rfl (fun _=>by kernel_rfl) (hS.get mS 2 _ rfl)) (M.sub _ (List.cons_sublist_cons.2 (List.nil_sublist _))) ?_; refine xrH 9 29 rfl (.bool true) (fun _ hS=>gtrI .i64 _ _ _ _ _ _ rfl rfl rfl true (decide_eq_true (by omega)) _) (M.sub _ (List.cons_sublist_cons.2 (List.nil_sublist _))) ?_
        refine xrH 10 30 rfl (.bool true) (fun _ hS=>(by kernel_rfl)) (M.sub _ (List.cons_sublist_cons.2 (List.nil_sublist _))) ?_; refine xrH 11 31 rfl (.pointer (some ⟨R,0,none⟩)) (fun _ hS=>(by kernel_rfl)) (M.sub _ (List.cons_sublist_cons.2 (List.nil_sublist _))) ?_
        refine xrH 12 32 rfl (.pointer (some ⟨R,0,none⟩)) (fun _ hS=>(by kernel_rfl)) (M.sub _ (List.cons_sublist_cons.2 (List.nil_sublist _))) ?_; refine xrH 13 33 rfl (.pointer (some ⟨R,2,none⟩)) (fun _ hS=>(by kernel_rfl)) (M.sub _ (List.cons_sublist_cons.2 (List.nil_sublist _))) ?_
        refine xrH 14 34 rfl (.int .i64 ((o.sent:Nat):Int)) (fun _ hS=>load1 3 _ ⟨R,2,none⟩ _ rfl rfl (fun _=>by kernel_rfl) (hS.get mS 2 _ rfl)) (M.sub _ (List.cons_sublist_cons.2 (List.nil_sublist _))) ?_; refine xrH 15 35 rfl (.pointer (some ⟨R,0,none⟩)) (fun _ hS=>(by kernel_rfl)) (M.sub _ (List.cons_sublist_cons.2 (List.nil_sublist _))) ?_
        refine xrH 16 36 rfl (.pointer (some ⟨R,0,none⟩)) (fun _ hS=>(by kernel_rfl)) (M.sub _ (List.cons_sublist_cons.2 (List.nil_sublist _))) ?_; refine xrH 17 37 rfl (.pointer (some ⟨R,1,none⟩)) (fun _ hS=>(by kernel_rfl)) (M.sub _ (List.cons_sublist_cons.2 (List.nil_sublist _))) ?_
        refine xrH 18 38 rfl (.int .i64 o.lim) (fun _ hS=>load1 3 _ ⟨R,1,none⟩ _ rfl rfl (fun _=>by kernel_rfl) (hS.get mS 1 _ rfl)) (M.sub _ (List.cons_sublist_cons.2 (List.nil_sublist _))) ?_; refine xrH 19 39 rfl (.bool false) (fun _ hS=>geqI .i64 _ _ _ _ _ _ rfl rfl rfl false (decide_eq_false (by omega)) _) (M.sub _ (List.cons_sublist_cons.2 (List.nil_sublist _))) ?_
        refine xrH 20 40 rfl (.bool false) (fun _ hS=>(by kernel_rfl)) (M.sub _ (List.cons_sublist_cons.2 (List.nil_sublist _))) ?_; refine xrH 21 2 rfl (.bool false) (fun _ hS=>(by kernel_rfl)) (M.sub _ (List.cons_sublist_cons.2 (List.nil_sublist _))) ?_
        refine wpAnyH_done (by kernel_rfl) ?_ _
        first | show Exit.then _ _ _ _ _ | show Exit.inBlock _ _ _ _ _
        have hoi:=show Hid _ from (show obl o=false from decide_eq_false (by omega))
        have hbel:Below w.heap.size w w2:=⟨M.below.os.trans hb0.os.symm,M.below.tape.trans hb0.tape.symm,M.below.output.trans hb0.output.symm,OF.size,fun b hb=>OF.blk b hb (fun h=>by cases h)⟩
        have HS:=show Hid _ from hbel; clear M OF hbel V_b V_a V_h; go_wp2; go_ret
        exact ⟨by rw [hoi.out]; rfl,HS.out⟩
    · go_upto_region 6 with fail
      have hdr:=(Below.refl wr.heap.size wr).drew; replace M:=M.drew; replace V_b:=ownsRow_bel V_b hdr; replace V_a:=ownsRow_bel V_a hdr; replace V_h:=ownsRow_bel V_h hdr; replace OF:=OF.below hdr; clear hdr
      refine wp_region_held_drew (S:=fun w'=>Mm w0 [(R,[.int .i64 o.size,.int .i64 o.lim,.int .i64 ((o.sent:Nat):Int),.slice sb o.b.length cb,.slice sa o.b.length ca,.slice sh o.b.length ch])] w') (by kernel_rfl) (M.sub _ (List.cons_sublist_cons.2 (List.nil_sublist _))) ?_; intro _; generalize wr.drew=w3 at M V_b V_a V_h OF ⊢
      refine xrH 0 20 rfl (.pointer (some ⟨R,0,none⟩)) (fun _ hS=>(by kernel_rfl)) (M.sub _ (List.cons_sublist_cons.2 (List.nil_sublist _))) ?_; refine xrH 1 21 rfl (.pointer (some ⟨R,0,none⟩)) (fun _ hS=>(by kernel_rfl)) (M.sub _ (List.cons_sublist_cons.2 (List.nil_sublist _))) ?_
      refine xrH 2 22 rfl (.pointer (some ⟨R,3,none⟩)) (fun _ hS=>(by kernel_rfl)) (M.sub _ (List.cons_sublist_cons.2 (List.nil_sublist _))) ?_; refine xrH 3 23 rfl (.slice sb o.b.length cb) (fun _ hS=>load1 28 _ ⟨R,3,none⟩ _ rfl rfl (fun _=>by kernel_rfl) (hS.get mS 3 _ rfl)) (M.sub _ (List.cons_sublist_cons.2 (List.nil_sublist _))) ?_
      refine xrH 4 24 rfl (.int .i64 ((o.b.length:Nat):Int)) (fun _ hS=>lenS _ 28 5 sb o.b.length cb rfl Try.underlying28 rfl _) (M.sub _ (List.cons_sublist_cons.2 (List.nil_sublist _))) ?_; refine xrH 5 25 rfl (.pointer (some ⟨R,0,none⟩)) (fun _ hS=>(by kernel_rfl)) (M.sub _ (List.cons_sublist_cons.2 (List.nil_sublist _))) ?_
      refine xrH 6 26 rfl (.pointer (some ⟨R,0,none⟩)) (fun _ hS=>(by kernel_rfl)) (M.sub _ (List.cons_sublist_cons.2 (List.nil_sublist _))) ?_; refine xrH 7 27 rfl (.pointer (some ⟨R,2,none⟩)) (fun _ hS=>(by kernel_rfl)) (M.sub _ (List.cons_sublist_cons.2 (List.nil_sublist _))) ?_
      refine xrH 8 28 rfl (.int .i64 ((o.sent:Nat):Int)) (fun _ hS=>load1 3 _ ⟨R,2,none⟩ _ rfl rfl (fun _=>by kernel_rfl) (hS.get mS 2 _ rfl)) (M.sub _ (List.cons_sublist_cons.2 (List.nil_sublist _))) ?_; refine xrH 9 29 rfl (.bool false) (fun _ hS=>gtrI .i64 _ _ _ _ _ _ rfl rfl rfl false (decide_eq_false (by omega)) _) (M.sub _ (List.cons_sublist_cons.2 (List.nil_sublist _))) ?_
      refine xrH 10 30 rfl (.bool false) (fun _ hS=>(by kernel_rfl)) (M.sub _ (List.cons_sublist_cons.2 (List.nil_sublist _))) ?_; refine mayH (i:=11) (some 31) rfl false undef undef rfl rfl rfl (fun hc=>by cases hc) (by kernel_rfl) (by kernel_rfl) (by kernel_rfl) (fun _ _ _ h=>h) (M.sub _ (List.cons_sublist_cons.2 (List.nil_sublist _))) ?_; simp only [aP,lI,l0,lS]
      refine mayH (i:=12) (some 32) rfl false undef undef rfl rfl rfl (fun hc=>by cases hc) (by kernel_rfl) (by kernel_rfl) (by kernel_rfl) (fun _ _ _ h=>h) (M.sub _ (List.cons_sublist_cons.2 (List.nil_sublist _))) ?_; simp only [aP,lI,l0,lS]
      refine mayH (i:=13) (some 33) rfl false undef undef rfl rfl rfl (fun hc=>by cases hc) (by kernel_rfl) (by kernel_rfl) (by kernel_rfl) (fun _ _ _ h=>h) (M.sub _ (List.cons_sublist_cons.2 (List.nil_sublist _))) ?_; simp only [aP,lI,l0,lS]
      refine mayH (i:=14) (some 34) rfl false undef undef rfl rfl rfl (fun hc=>by cases hc) (by kernel_rfl) (by kernel_rfl) (by kernel_rfl) (fun _ _ _ h=>h) (M.sub _ (List.cons_sublist_cons.2 (List.nil_sublist _))) ?_; simp only [aP,lI,l0,lS]
      refine mayH (i:=15) (some 35) rfl false undef undef rfl rfl rfl (fun hc=>by cases hc) (by kernel_rfl) (by kernel_rfl) (by kernel_rfl) (fun _ _ _ h=>h) (M.sub _ (List.cons_sublist_cons.2 (List.nil_sublist _))) ?_; simp only [aP,lI,l0,lS]
      refine mayH (i:=16) (some 36) rfl false undef undef rfl rfl rfl (fun hc=>by cases hc) (by kernel_rfl) (by kernel_rfl) (by kernel_rfl) (fun _ _ _ h=>h) (M.sub _ (List.cons_sublist_cons.2 (List.nil_sublist _))) ?_; simp only [aP,lI,l0,lS]
      refine mayH (i:=17) (some 37) rfl false undef undef rfl rfl rfl (fun hc=>by cases hc) (by kernel_rfl) (by kernel_rfl) (by kernel_rfl) (fun _ _ _ h=>h) (M.sub _ (List.cons_sublist_cons.2 (List.nil_sublist _))) ?_; simp only [aP,lI,l0,lS]
      refine mayH (i:=18) (some 38) rfl false undef undef rfl rfl rfl (fun hc=>by cases hc) (by kernel_rfl) (by kernel_rfl) (by kernel_rfl) (fun _ _ _ h=>h) (M.sub _ (List.cons_sublist_cons.2 (List.nil_sublist _))) ?_; simp only [aP,lI,l0,lS]
      refine mayH (i:=19) (some 39) rfl false undef undef rfl rfl rfl (fun hc=>by cases hc) (by kernel_rfl) (by kernel_rfl) (by kernel_rfl) (fun _ _ _ h=>h) (M.sub _ (List.cons_sublist_cons.2 (List.nil_sublist _))) ?_; simp only [aP,lI,l0,lS]; refine xrH 20 40 rfl (.bool false) (fun _ hS=>(by kernel_rfl)) (M.sub _ (List.cons_sublist_cons.2 (List.nil_sublist _))) ?_
      refine xrH 21 2 rfl (.bool false) (fun _ hS=>(by kernel_rfl)) (M.sub _ (List.cons_sublist_cons.2 (List.nil_sublist _))) ?_
      refine wpAnyH_done (by kernel_rfl) ?_ _
      first | show Exit.then _ _ _ _ _ | show Exit.inBlock _ _ _ _ _
      have hoi:=show Hid _ from (show obl o=false from decide_eq_false (by omega))
      have hbel:Below w.heap.size w w3:=⟨M.below.os.trans hb0.os.symm,M.below.tape.trans hb0.tape.symm,M.below.output.trans hb0.output.symm,OF.size,fun b hb=>OF.blk b hb (fun h=>by cases h)⟩
      have HS:=show Hid _ from hbel; clear M OF hbel V_b V_a V_h; go_wp2; go_ret
      exact ⟨by rw [hoi.out]; rfl,HS.out⟩
theorem dnew_any (w0 w:World) (l:List (Nat × List Value)) (n:Int) (M:Mm w0 l w) :
 Calls Try.prog 9 #[.int .i64 n] w fun e w'=>∃ R,e=.returned (.pointer (some ⟨R,0,none⟩))∧Mm w0 ((R,dcs (onew n) none none none 0 0 0)::l) w'∧Below w.heap.size w w':=by
 have hb0:=M.below; have OF:=Off.refl [] w
 go_enter Try.func9,Try.ntmps9
 go_upto_region 0 with fail; refine wp_region_list ?_; refine xpL (.pointer none) ?_; refine xT ?_; go_upto_region 1 with fail; refine wp_region_list ?_; refine xpL (.int .i64 n) ?_; refine xaL (.int .i64 (min n 1048576)) (minI .i64 .i64 _ _ _ _ _ _ _ rfl rfl rfl (by split <;> omega) _) ?_
 refine xaL (.int .i64 (max 1 (min n 1048576))) (maxI .i64 .i64 _ _ _ _ _ _ _ rfl rfl rfl (by split <;> omega) _) ?_; refine xpL (.agg #[.int .i64 (max 1 (min n 1048576)),.int .i64 0,.int .i64 0,.slice none 0 0,.slice none 0 0,.slice none 0 0]) ?_
 have hlb:=(Below.refl w.heap.size w).alloc (xnR _) (.cells #[.int .i64 (max 1 (min n 1048576)),.int .i64 0,.int .i64 0,.slice none 0 0,.slice none 0 0,.slice none 0 0] 45); refine actL (w':=w.alloc (.cells #[.int .i64 (max 1 (min n 1048576)),.int .i64 0,.int .i64 0,.slice none 0 0,.slice none 0 0,.slice none 0 0] 45)) (.pointer (some ⟨w.heap.size,0,none⟩)) rfl (by kernel_rfl) ?_
 simp only [aP,lI,l0,lS]; have hB_:=OF.size; replace OF:=OF.below hlb; replace M:=M.box #[.int .i64 (max 1 (min n 1048576)),.int .i64 0,.int .i64 0,.slice none 0 0,.slice none 0 0,.slice none 0 0] 45 w.heap.size rfl; clear hlb
 generalize w.alloc (.cells #[.int .i64 (max 1 (min n 1048576)),.int .i64 0,.int .i64 0,.slice none 0 0,.slice none 0 0,.slice none 0 0] 45)=w1 at M OF ⊢; generalize eB_:w.heap.size=B1 at M ⊢
 have hB_B1:w.heap.size≤B1:=by rw [← eB_]; exact hB_
 clear hB_ eB_
 replace M:Mm w0 ((B1,[.int .i64 (max 1 (min n 1048576)),.int .i64 0,.int .i64 0,.slice none 0 0,.slice none 0 0,.slice none 0 0])::l) w1:=M
 refine xpL (.pointer (some ⟨B1,0,none⟩)) ?_; refine xT ?_
 have hbel:Below w.heap.size w w1:=⟨M.below.os.trans hb0.os.symm,M.below.tape.trans hb0.tape.symm,M.below.output.trans hb0.output.symm,OF.size,fun b hb=>OF.blk b hb (fun h=>by cases h)⟩
 replace M:Mm w0 ((B1,dcs (onew n) none none none 0 0 0)::l) w1:=M
 have HS:=show Hid _ from (And.intro M hbel); clear M OF hbel; go_wp2; go_ret
 exact ⟨B1,rfl,HS.out⟩
section
def RgW (w:World) (l:List (Int × Int)) (v:Value):Prop:=∃ sp cap,v=.slice sp l.length cap∧l.length≤cap∧(sp=none→cap=0)∧∀ j u,(wrc l)[j]?=some u→∃ ad,sp=some ad∧w.cell? (ad.add j)=some u
section
variable {w w':World} {l:List (Int × Int)} {sp:Option Addr} {cap:Nat}
theorem RgW.offB {X:List Nat} (h:RgW w l (.slice sp l.length cap)) (o:Off X w w') (hX:∀ b∈X,l≠[]→b∉ob sp):RgW w' l (.slice sp l.length cap):=by
 obtain ⟨sp',cap',hv,hc,hn,hs⟩:=h
 injection hv with h1 _ h3
 subst h1; subst h3
 refine ⟨sp,cap,rfl,hc,hn,fun j u hu=>?_⟩
 obtain ⟨p,hp,hcell⟩:=hs j u hu
 exact ⟨p,hp,o.cell hcell (by rw [add_block]; exact fun hm=>hX _ hm (fun e=>by rw [e] at hu; cases hu) (by rw [hp]; exact mS))⟩
theorem RgW.below (h:RgW w l (.slice sp l.length cap)) (b:Below w.heap.size w w'):RgW w' l (.slice sp l.length cap):=h.offB (X:=[]) (Off.of_below b) (fun _ hb=>by cases hb)
theorem RgW.at (h:RgW w l (.slice sp l.length cap)) {i:Nat} {p:Int × Int} (hi:l[i]?=some p):∃ ad,sp=some ad∧w.cell? ((ad.add (i*2)).add 0)=some (.int .i64 p.1)∧w.cell? ((ad.add (i*2)).add 1)=some (.int .i64 p.2):=by
 obtain ⟨sp',cap',hv,_,_,hs⟩:=h
 injection hv with h1 _ _
 subst h1
 obtain ⟨g1,g2⟩:=wrc_get l i p hi
 obtain ⟨ad,rfl,c1⟩:=hs _ _ g1
 obtain ⟨ad',e,c2⟩:=hs _ _ g2
 injection e with e
 subst e
 exact ⟨ad,rfl,by rw [Addr.add_add,Nat.add_zero]; exact c1,by rw [Addr.add_add]; exact c2⟩
theorem RgW.rng {ad:Addr} (h:RgW w l (.slice (some ad) l.length cap)) {i:Nat} {p:Int × Int} (hi:l[i]?=some p):∀ j u,[Value.int .i64 p.1,Value.int .i64 p.2][j]?=some u→w.cell? ((ad.add (i*2)).add j)=some u:=by
 obtain ⟨ad',e,h0,h1⟩:=h.at hi
 injection e with e
 subst e; intro j u hu
 rcases j with _ | _ | j
 · obtain rfl:=Option.some.inj hu; exact h0
 · obtain rfl:=Option.some.inj hu; exact h1
 · cases hu
theorem RgW.away (h:RgW w l (.slice sp l.length cap)) {b:Nat} (hb:w.heap.size≤b) (hne:l≠[]):b∉ob sp:=fun hm=>by
 cases l with
 | nil=>exact hne rfl
 | cons p l =>
   obtain ⟨ad,e,h0,_⟩:=RgW.at h (i:=0) (p:=p) rfl
   subst e; have h1:=World.block_lt_of_cell? w _ h0
   rw [add_block,add_block] at h1
   have e3:b=ad.block:=xm1 hm
   omega
end
theorem RgW.ofW {w:World} {base:Nat} {l:List (Int × Int)} {v:Value} (h:NewW w base l v):RgW w l v:=by
 obtain ⟨sp,cap,h1,h2,h3,h4,_⟩:=h
 exact ⟨sp,cap,h1,h2,h3,h4⟩
theorem RgW.nil0 (w:World):RgW w [] (.slice none 0 0):=⟨none,0,rfl,xnR _,fun _=>rfl,fun j u hu=>(by cases hu)⟩
end
end Go.Proofs.Ytpdpfdelglgfnaa
