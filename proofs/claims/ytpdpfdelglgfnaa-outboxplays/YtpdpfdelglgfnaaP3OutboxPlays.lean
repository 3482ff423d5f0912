/- Texts of Nd Ne, joined. -/
import Derived.Test.YtpdpfdelglgfnaaP2OutboxPlays
set_option maxRecDepth 20000
set_option maxHeartbeats 64000000
namespace Go.Proofs.Ytpdpfdelglgfnaa
open Go.RowKit
def olg (o:Obx) (p n:Int) (i:Nat):Nat→Bool:=fun j=>o.ag j || (decide (j<i)&&oin p n j&&!o.he j)
theorem olg_zero (o:Obx) (p n:Int) (j:Nat):olg o p n 0 j=o.ag j:=by
 unfold olg
 rw [decide_eq_false (xnZ j)]
 simp
theorem olg_put {o:Obx} {p n:Int} {i:Nat} (h1:oin p n i=true) (h2:o.he i=false) (j:Nat):bput (olg o p n i) i true j=olg o p n (i+1) j:=by
 by_cases c:j=i
 · subst c
   rw [bput_same]
   unfold olg
   rw [h1,h2,decide_eq_true (show j<j+1 by omega)]
   simp
 · rw [bput_other c]
   unfold olg
   rw [show decide (j<i)=decide (j<i+1) from decide_eq_decide.2 (by omega)]
theorem olg_skip {o:Obx} {p n:Int} {i:Nat} (h:oin p n i=true→o.he i=true) (j:Nat):olg o p n i j=olg o p n (i+1) j:=by
 by_cases c:j=i
 · subst c
   unfold olg
   rw [decide_eq_false (Nat.lt_irrefl j),decide_eq_true (show j<j+1 by omega)]
   cases e:oin p n j
   · simp
   · rw [h e]
     simp
 · unfold olg
   rw [show decide (j<i)=decide (j<i+1) from decide_eq_decide.2 (by omega)]
def okp (p:Int) (L:List (Int × Int)) (k i:Nat):Bool:=decide ((i:Int)<p) || (L.take k).any fun r=>decide (r.1≤i∧(i:Int)<r.2)
theorem okp_zero (p:Int) (L:List (Int × Int)) (i:Nat):okp p L 0 i=decide ((i:Int)<p):=by unfold okp; simp
theorem okp_step {p:Int} {L:List (Int × Int)} {k i:Nat} {r:Int × Int} (hr:L[k]?=some r) (h:okp p L k i=false):okp p L (k+1) i=decide (r.1≤i∧(i:Int)<r.2):=by
 unfold okp at h ⊢
 rw [Bool.or_eq_false_iff] at h
 rw [List.take_add_one,hr,List.any_append,h.1,h.2]
 simp
theorem okp_end (p:Int) (L:List (Int × Int)) (i:Nat):okp p L L.length i=oak p L i:=by unfold okp oak; rw [List.take_length]
theorem okp_hit {p:Int} {L:List (Int × Int)} {k i:Nat} (h:okp p L k i=true):oak p L i=true:=by
 unfold okp at h
 unfold oak
 rw [Bool.or_eq_true] at h ⊢
 rcases h with h | h
 · exact .inl h
 · obtain ⟨r,hr,h⟩:=List.any_eq_true.1 h
   exact .inr (List.any_eq_true.2 ⟨r,List.mem_of_mem_take hr,h⟩)
def oag (o:Obx) (p:Int) (L:List (Int × Int)) (i:Nat):Nat→Bool:=fun j=>o.ag j&&!(decide (j<i)&&oak p L j)
def oah (o:Obx) (p:Int) (L:List (Int × Int)) (i:Nat):Nat→Bool:=fun j=>o.he j || (decide (j<i)&&oak p L j)
theorem oag_zero (o:Obx) (p:Int) (L:List (Int × Int)) (j:Nat):oag o p L 0 j=o.ag j:=by unfold oag; rw [decide_eq_false (xnZ j)]; simp
theorem oah_zero (o:Obx) (p:Int) (L:List (Int × Int)) (j:Nat):oah o p L 0 j=o.he j:=by unfold oah; rw [decide_eq_false (xnZ j)]; simp
theorem oag_put {o:Obx} {p:Int} {L:List (Int × Int)} {i:Nat} (h:oak p L i=true) (j:Nat):bput (oag o p L i) i false j=oag o p L (i+1) j:=by
 by_cases c:j=i
 · subst c
   rw [bput_same]
   unfold oag
   rw [h,decide_eq_true (show j<j+1 by omega)]
   simp
 · rw [bput_other c]
   unfold oag
   rw [show decide (j<i)=decide (j<i+1) from decide_eq_decide.2 (by omega)]
theorem oah_put {o:Obx} {p:Int} {L:List (Int × Int)} {i:Nat} (h:oak p L i=true) (j:Nat):bput (oah o p L i) i true j=oah o p L (i+1) j:=by
 by_cases c:j=i
 · subst c
   rw [bput_same]
   unfold oah
   rw [h,decide_eq_true (show j<j+1 by omega)]
   simp
 · rw [bput_other c]
   unfold oah
   rw [show decide (j<i)=decide (j<i+1) from decide_eq_decide.2 (by omega)]
theorem oag_skip {o:Obx} {p:Int} {L:List (Int × Int)} {i:Nat} (h:oak p L i=false) (j:Nat):oag o p L i j=oag o p L (i+1) j:=by
 by_cases c:j=i
 · subst c
   unfold oag
   rw [h]
   simp
 · unfold oag
   rw [show decide (j<i)=decide (j<i+1) from decide_eq_decide.2 (by omega)]
theorem oah_skip {o:Obx} {p:Int} {L:List (Int × Int)} {i:Nat} (h:oak p L i=false) (j:Nat):oah o p L i j=oah o p L (i+1) j:=by
 by_cases c:j=i
 · subst c
   unfold oah
   rw [h]
   simp
 · unfold oah
   rw [show decide (j<i)=decide (j<i+1) from decide_eq_decide.2 (by omega)]
theorem dlost_any (w0 w:World) (R:Nat) (l:List (Nat × List Value)) (o:Obx) (sb sa sh:Option Addr) (cb ca ch:Nat) (hw:ObxW o) (hln:o.b.length<1000000) (p n:Int) (hp:i64 p) (hn:i64 n) (M:Mm w0 ((R,dcs o sb sa sh cb ca ch)::(obs sb++(obs sa++(obs sh++l)))) w) (V_b:w.ownsRow w0.heap.size 5 1 (.slice sb o.b.length cb) o.b.length (row .u8 o.b.length (bl o.b))) (V_a:w.ownsRow w0.heap.size 4 1 (.slice sa o.b.length ca) o.b.length (brw o.b.length o.ag)) (V_h:w.ownsRow w0.heap.size 4 1 (.slice sh o.b.length ch) o.b.length (brw o.b.length o.he)) :
 Calls Try.prog 16 #[.pointer (some ⟨R,0,none⟩),.int .i64 p,.int .i64 n] w fun e w'=>e=.returned (.tuple #[])∧Mm w0 ((R,dcs (olo o p n) sb sa sh cb ca ch)::(obs sb++(obs sa++(obs sh++l)))) w'∧w'.ownsRow w0.heap.size 5 1 (.slice sb o.b.length cb) o.b.length (row .u8 o.b.length (bl o.b))∧w'.ownsRow w0.heap.size 4 1 (.slice sa o.b.length ca) o.b.length (brw o.b.length (olo o p n).ag)∧w'.ownsRow w0.heap.size 4 1 (.slice sh o.b.length ch) o.b.length (brw o.b.length (olo o p n).he)∧Off (R::(ob sb++(ob sa++ob sh))) w w':=by
 replace M:Mm w0 ((R,[.int .i64 o.size,.int .i64 o.lim,.int .i64 ((o.sent:Nat):Int),.slice sb o.b.length cb,.slice sa o.b.length ca,.slice sh o.b.length ch])::((obs sb)++((obs sa)++((obs sh)++l)))) w:=M
 have hb0:=M.below
 obtain ⟨XS,hXS⟩:∃ X_,X_=(R::(ob sb++(ob sa++ob sh))):=⟨_,rfl⟩
 have hRX:R∈XS:=by rw [hXS]; simp
 have L_b:Lies XS w sb:=fun b_ hb_=>.inl (by rw [hXS]; simp [hb_])
 have L_a:Lies XS w sa:=fun b_ hb_=>.inl (by rw [hXS]; simp [hb_])
 have L_h:Lies XS w sh:=fun b_ hb_=>.inl (by rw [hXS]; simp [hb_])
 have OF:=Off.refl XS w; have hst:=hw.st
 go_enter Try.func16,Try.ntmps16
 unfold i64 at hp hn
 go_upto_region 0 with fail; refine wp_region_list ?_; refine xpL (.int .i64 0) ?_; refine xT ?_
 rw [brw_congr (fun j _=>(olg_zero o p n j).symm)] at V_a
 replace M:Mm w0 ((R,[.int .i64 o.size,.int .i64 o.lim,.int .i64 ((o.sent:Nat):Int),.slice sb o.b.length cb,.slice sa o.b.length ca,.slice sh o.b.length ch])::((obs sb)++((obs sa)++((obs sh)++l)))) w:=M
 have HI:=show Hid _ from (show Mm w0 ((R,[.int .i64 o.size,.int .i64 o.lim,.int .i64 ((o.sent:Nat):Int),.slice sb o.b.length cb,.slice sa o.b.length ca,.slice sh o.b.length ch])::((obs sb)++((obs sa)++((obs sh)++l)))) w∧w.ownsRow w0.heap.size 5 1 (.slice sb o.b.length cb) o.b.length (row .u8 o.b.length (bl o.b))∧w.ownsRow w0.heap.size 4 1 (.slice sa o.b.length ca) o.b.length (brw o.b.length (olg o p n 0))∧w.ownsRow w0.heap.size 4 1 (.slice sh o.b.length ch) o.b.length (brw o.b.length o.he)∧Off XS w w from ⟨M,V_b,V_a,V_h,OF⟩)
 clear M V_b V_a V_h OF; go_wp2
 go_loopw [6] (fun i w'=>∃ i':Nat,i'≤o.sent∧i=.int .i64 (i':Int)∧Mm w0 ((R,[.int .i64 o.size,.int .i64 o.lim,.int .i64 ((o.sent:Nat):Int),.slice sb o.b.length cb,.slice sa o.b.length ca,.slice sh o.b.length ch])::((obs sb)++((obs sa)++((obs sh)++l)))) w'∧w'.ownsRow w0.heap.size 5 1 (.slice sb o.b.length cb) o.b.length (row .u8 o.b.length (bl o.b))∧w'.ownsRow w0.heap.size 4 1 (.slice sa o.b.length ca) o.b.length (brw o.b.length (olg o p n i'))∧w'.ownsRow w0.heap.size 4 1 (.slice sh o.b.length ch) o.b.length (brw o.b.length o.he)∧Off XS w w') (fun i _=>o.sent-(intOf i).toNat)
 case atStart=>exact ⟨0,Nat.zero_le _,rfl,HI.out⟩
 case round =>
  clear HI
  obtain ⟨i,hi,rfl,M,V_b,V_a,V_h,OF⟩:=hrel
  by_cases hil:i<o.sent
  · go_upto_region 1 with fail
    refine wp_region_list ?_; refine xpL (.int .i64 (i:Int)) ?_; refine xpL (.pointer (some ⟨R,0,none⟩)) ?_; refine xpL (.pointer (some ⟨R,0,none⟩)) ?_; refine xpL (.pointer (some ⟨R,2,none⟩)) ?_; refine xaL (.int .i64 ((o.sent:Nat):Int)) (load1 3 _ ⟨R,2,none⟩ _ rfl rfl (fun _=>by kernel_rfl) (M.get mS 2 _ rfl)) ?_
    refine xaL (.bool true) (lssI .i64 _ _ _ _ _ _ rfl rfl rfl true (decide_eq_true (by omega)) _) ?_; refine xT ?_; go_upto_region 3 with fail; refine wp_region_list ?_; refine xpL (.int .i64 (i:Int)) ?_; refine xpL (.int .i64 p) ?_
    obtain ⟨b1,hb1⟩:∃ y_,y_=(decide ((i:Int)≥p)):=⟨_,rfl⟩
    refine xaL (.bool b1) (geqI .i64 _ _ _ _ _ _ rfl rfl rfl b1 hb1.symm _) ?_; refine xpL (.bool b1) ?_
    refine mayL (b1) (.int .i64 n) ((bif b1 then (.int .i64 n) else undef)) (by cases b1 <;> rfl) (by cases b1 <;> rfl) (fun hc=>by cases b1 <;> first | (cases hc; done) | kernel_rfl) ?_
    simp only [aP,lI,l0,lS]
    obtain ⟨b2,hb2⟩:∃ y_,y_=(decide (n>0)):=⟨_,rfl⟩
    refine mayL (b1) (.bool b2) ((bif b1 then (.bool b2) else undef)) (by cases b1 <;> rfl) (by cases b1 <;> rfl) (fun hc=>by cases b1 <;> first | (cases hc; done) | exact (gtrI .i64 _ _ _ _ _ _ rfl rfl rfl b2 hb2.symm _)) ?_
    simp only [aP,lI,l0,lS]
    obtain ⟨b3,hb3⟩:∃ y_,y_=(b1&&b2):=⟨_,rfl⟩
    refine xaL (.bool b3) (by subst hb3; cases b1 <;> rfl) ?_; refine xpL (.bool b3) ?_
    refine mayL (b3) (.int .i64 p) ((bif b3 then (.int .i64 p) else undef)) (by cases b3 <;> rfl) (by cases b3 <;> rfl) (fun hc=>by cases b3 <;> first | (cases hc; done) | kernel_rfl) ?_
    simp only [aP,lI,l0,lS]
    obtain ⟨b4,hb4⟩:∃ y_,y_=(decide (p≥0)):=⟨_,rfl⟩
    refine mayL (b3) (.bool b4) ((bif b3 then (.bool b4) else undef)) (by cases b3 <;> rfl) (by cases b3 <;> rfl) (fun hc=>by cases b3 <;> first | (cases hc; done) | exact (geqI .i64 _ _ _ _ _ _ rfl rfl rfl b4 hb4.symm _)) ?_
    simp only [aP,lI,l0,lS]
    refine mayL (b3) (.bool b4) ((bif b3 then (.bool b4) else undef)) (by cases b3 <;> rfl) (by cases b3 <;> rfl) (fun hc=>by cases b3 <;> first | (cases hc; done) | kernel_rfl) ?_
    simp only [aP,lI,l0,lS]
    refine mayL (b3&&b4) (.int .i64 (i:Int)) ((bif b3 then (bif b4 then (.int .i64 (i:Int)) else undef) else undef)) (by cases b3 <;> cases b4 <;> rfl) (by cases b3 <;> cases b4 <;> rfl) (fun hc=>by cases b3 <;> cases b4 <;> first | (cases hc; done) | kernel_rfl) ?_
    simp only [aP,lI,l0,lS]
    refine mayL (b3&&b4) (.int .i64 p) ((bif b3 then (bif b4 then (.int .i64 p) else undef) else undef)) (by cases b3 <;> cases b4 <;> rfl) (by cases b3 <;> cases b4 <;> rfl) (fun hc=>by cases b3 <;> cases b4 <;> first | (cases hc; done) | kernel_rfl) ?_
    simp only [aP,lI,l0,lS]
    refine mayL (b3&&b4) (.int .i64 (IntKind.i64.wrap ((i:Int)-p))) ((bif b3 then (bif b4 then (.int .i64 (IntKind.i64.wrap ((i:Int)-p))) else undef) else undef)) (by cases b3 <;> cases b4 <;> rfl) (by cases b3 <;> cases b4 <;> rfl) (fun hc=>by cases b3 <;> cases b4 <;> first | (cases hc; done) | exact (subI .i64 _ _ _ _ _ _ _ rfl rfl rfl rfl _)) ?_
    simp only [aP,lI,l0,lS]
    refine mayL (b3&&b4) (.int .i64 n) ((bif b3 then (bif b4 then (.int .i64 n) else undef) else undef)) (by cases b3 <;> cases b4 <;> rfl) (by cases b3 <;> cases b4 <;> rfl) (fun hc=>by cases b3 <;> cases b4 <;> first | (cases hc; done) | kernel_rfl) ?_
    simp only [aP,lI,l0,lS]
    obtain ⟨b5,hb5⟩:∃ y_,y_=(decide ((IntKind.i64.wrap ((i:Int)-p))<n)):=⟨_,rfl⟩
    refine mayL (b3&&b4) (.bool b5) ((bif b3 then (bif b4 then (.bool b5) else undef) else undef)) (by cases b3 <;> cases b4 <;> rfl) (by cases b3 <;> cases b4 <;> rfl) (fun hc=>by cases b3 <;> cases b4 <;> first | (cases hc; done) | exact (lssI .i64 _ _ _ _ _ _ rfl rfl rfl b5 hb5.symm _)) ?_
    simp only [aP,lI,l0,lS]
    obtain ⟨b6,hb6⟩:∃ y_,y_=(b4&&b5):=⟨_,rfl⟩
    refine mayL (b3) (.bool b6) ((bif b3 then (.bool b6) else undef)) (by cases b3 <;> rfl) (by cases b3 <;> rfl) (fun hc=>by cases b3 <;> first | (cases hc; done) | exact (by subst hb6; cases b4 <;> rfl)) ?_
    simp only [aP,lI,l0,lS]
    refine mayL (b3) (.bool b6) ((bif b3 then (.bool b6) else undef)) (by cases b3 <;> rfl) (by cases b3 <;> rfl) (fun hc=>by cases b3 <;> first | (cases hc; done) | kernel_rfl) ?_
    simp only [aP,lI,l0,lS]
    refine mayL (b3&&!b6) (.int .i64 p) ((bif b3 then (bif b6 then undef else (.int .i64 p)) else undef)) (by cases b3 <;> cases b6 <;> rfl) (by cases b3 <;> cases b6 <;> rfl) (fun hc=>by cases b3 <;> cases b6 <;> first | (cases hc; done) | kernel_rfl) ?_
    simp only [aP,lI,l0,lS]
    obtain ⟨b7,hb7⟩:∃ y_,y_=(decide (p<0)):=⟨_,rfl⟩
    refine mayL (b3&&!b6) (.bool b7) ((bif b3 then (bif b6 then undef else (.bool b7)) else undef)) (by cases b3 <;> cases b6 <;> rfl) (by cases b3 <;> cases b6 <;> rfl) (fun hc=>by cases b3 <;> cases b6 <;> first | (cases hc; done) | exact (lssI .i64 _ _ _ _ _ _ rfl rfl rfl b7 hb7.symm _)) ?_
    simp only [aP,lI,l0,lS]
    refine mayL (b3&&!b6) (.bool b7) ((bif b3 then (bif b6 then undef else (.bool b7)) else undef)) (by cases b3 <;> cases b6 <;> rfl) (by cases b3 <;> cases b6 <;> rfl) (fun hc=>by cases b3 <;> cases b6 <;> first | (cases hc; done) | kernel_rfl) ?_
    simp only [aP,lI,l0,lS]
    refine mayL (b3&&!b6&&b7) (.int .i64 (i:Int)) ((bif b3 then (bif b6 then undef else (bif b7 then (.int .i64 (i:Int)) else undef)) else undef)) (by cases b3 <;> cases b6 <;> cases b7 <;> rfl) (by cases b3 <;> cases b6 <;> cases b7 <;> rfl) (fun hc=>by cases b3 <;> cases b6 <;> cases b7 <;> first | (cases hc; done) | kernel_rfl) ?_
    simp only [aP,lI,l0,lS]
    refine mayL (b3&&!b6&&b7) (.int .i64 p) ((bif b3 then (bif b6 then undef else (bif b7 then (.int .i64 p) else undef)) else undef)) (by cases b3 <;> cases b6 <;> cases b7 <;> rfl) (by cases b3 <;> cases b6 <;> cases b7 <;> rfl) (fun hc=>by cases b3 <;> cases b6 <;> cases b7 <;> first | (cases hc; done) | kernel_rfl) ?_
    simp only [aP,lI,l0,lS]
    refine mayL (b3&&!b6&&b7) (.int .i64 n) ((bif b3 then (bif b6 then undef else (bif b7 then (.int .i64 n) else undef)) else undef)) (by cases b3 <;> cases b6 <;> cases b7 <;> rfl) (by cases b3 <;> cases b6 <;> cases b7 <;> rfl) (fun hc=>by cases b3 <;> cases b6 <;> cases b7 <;> first | (cases hc; done) | kernel_rfl) ?_
    simp only [aP,lI,l0,lS]
    refine mayL (b3&&!b6&&b7) (.int .i64 (IntKind.i64.wrap (p+n))) ((bif b3 then (bif b6 then undef else (bif b7 then (.int .i64 (IntKind.i64.wrap (p+n))) else undef)) else undef)) (by cases b3 <;> cases b6 <;> cases b7 <;> rfl) (by cases b3 <;> cases b6 <;> cases b7 <;> rfl) (fun hc=>by cases b3 <;> cases b6 <;> cases b7 <;> first | (cases hc; done) | exact (addI .i64 _ _ _ _ _ _ _ rfl rfl rfl rfl _)) ?_
    simp only [aP,lI,l0,lS]
    obtain ⟨b8,hb8⟩:∃ y_,y_=(decide ((i:Int)<(IntKind.i64.wrap (p+n)))):=⟨_,rfl⟩
    refine mayL (b3&&!b6&&b7) (.bool b8) ((bif b3 then (bif b6 then undef else (bif b7 then (.bool b8) else undef)) else undef)) (by cases b3 <;> cases b6 <;> cases b7 <;> rfl) (by cases b3 <;> cases b6 <;> cases b7 <;> rfl) (fun hc=>by cases b3 <;> cases b6 <;> cases b7 <;> first | (cases hc; done) | exact (lssI .i64 _ _ _ _ _ _ rfl rfl rfl b8 hb8.symm _)) ?_
    simp only [aP,lI,l0,lS]
    obtain ⟨b9,hb9⟩:∃ y_,y_=(b7&&b8):=⟨_,rfl⟩
    refine mayL (b3&&!b6) (.bool b9) ((bif b3 then (bif b6 then undef else (.bool b9)) else undef)) (by cases b3 <;> cases b6 <;> rfl) (by cases b3 <;> cases b6 <;> rfl) (fun hc=>by cases b3 <;> cases b6 <;> first | (cases hc; done) | exact (by subst hb9; cases b7 <;> rfl)) ?_
    simp only [aP,lI,l0,lS]
    obtain ⟨b10,hb10⟩:∃ y_,y_=(b6 || b9):=⟨_,rfl⟩
    refine mayL (b3) (.bool b10) ((bif b3 then (.bool b10) else undef)) (by cases b3 <;> rfl) (by cases b3 <;> rfl) (fun hc=>by cases b3 <;> first | (cases hc; done) | exact (by subst hb10; cases b6 <;> rfl)) ?_
    simp only [aP,lI,l0,lS]
    obtain ⟨b11,hb11⟩:∃ y_,y_=(b3&&b10):=⟨_,rfl⟩
    refine xaL (.bool b11) (by subst hb11; cases b3 <;> rfl) ?_; refine xpL (.bool b11) ?_; refine xT ?_
    cases b11 with
    | true =>
      have hin:oin p n i=true:=by
       unfold oin
       simp only [hb1,hb2,hb3,hb4,hb5,hb6,hb7,hb8,hb9,hb10] at hb11
       rw [xw6,xw6] at hb11
       rw [decide_eq_true_eq]
       simp at hb11
       omega
      try clear hb1
      try clear hb2
      try clear hb3
      try clear hb4
      try clear hb5
      try clear hb6
      try clear hb7
      try clear hb8
      try clear hb9
      try clear hb10
      try clear hb11
      obtain ⟨gh,hg_h⟩:=row_some16 V_h (by omega)
      subst hg_h
      replace M:Mm w0 ((R,[.int .i64 o.size,.int .i64 o.lim,.int .i64 ((o.sent:Nat):Int),.slice sb o.b.length cb,.slice sa o.b.length ca,.slice (some ⟨gh,0,none⟩) o.b.length ch])::((obs sb)++((obs sa)++((obs (some ⟨gh,0,none⟩))++l)))) wr:=M
      obtain ⟨ga,hg_a⟩:=row_some16 V_a (by omega)
      subst hg_a
      replace M:Mm w0 ((R,[.int .i64 o.size,.int .i64 o.lim,.int .i64 ((o.sent:Nat):Int),.slice sb o.b.length cb,.slice (some ⟨ga,0,none⟩) o.b.length ca,.slice (some ⟨gh,0,none⟩) o.b.length ch])::((obs sb)++((obs (some ⟨ga,0,none⟩))++((obs (some ⟨gh,0,none⟩))++l)))) wr:=M
      by_cases hh:o.he i=true
      · go_upto_region 4 with fail
        refine wp_region_list ?_; refine xpL (.bool true) ?_; refine xpL (.bool true) ?_; refine xpL (.pointer (some ⟨R,0,none⟩)) ?_; refine xpL (.pointer (some ⟨R,0,none⟩)) ?_; refine xpL (.pointer (some ⟨R,5,none⟩)) ?_; refine xaL (.slice (some ⟨gh,0,none⟩) o.b.length ch) (load1 43 _ ⟨R,5,none⟩ _ rfl rfl (fun _=>by kernel_rfl) (M.get mS 5 _ rfl)) ?_
        refine xpL (.int .i64 (i:Int)) ?_; refine xaL (.pointer (some ⟨gh,i,none⟩)) (idxRow 43 4 gh _ _ i _ _ Try.underlying43 (fun _=>by kernel_rfl) (xnL hil hst) rfl rfl rfl _) ?_
        refine xaL (.bool true) (load1 4 _ ⟨gh,i,none⟩ _ rfl rfl (fun _=>by kernel_rfl) (rowCell V_h (by rw [brw_get _ (xnL hil hst),hh]))) ?_
        refine xpL (.bool false) ?_; refine xpL (.bool false) ?_; refine xT ?_
        rw [brw_congr (fun j _=>olg_skip (o:=o) (p:=p) (n:=n) (i:=i) (fun _=>hh) j)] at V_a
        replace M:Mm w0 ((R,[.int .i64 o.size,.int .i64 o.lim,.int .i64 ((o.sent:Nat):Int),.slice sb o.b.length cb,.slice (some ⟨ga,0,none⟩) o.b.length ca,.slice (some ⟨gh,0,none⟩) o.b.length ch])::((obs sb)++((obs (some ⟨ga,0,none⟩))++((obs (some ⟨gh,0,none⟩))++l)))) wr:=M
        have HS:=show Hid _ from (show Mm w0 ((R,[.int .i64 o.size,.int .i64 o.lim,.int .i64 ((o.sent:Nat):Int),.slice sb o.b.length cb,.slice (some ⟨ga,0,none⟩) o.b.length ca,.slice (some ⟨gh,0,none⟩) o.b.length ch])::((obs sb)++((obs (some ⟨ga,0,none⟩))++((obs (some ⟨gh,0,none⟩))++l)))) wr∧wr.ownsRow w0.heap.size 5 1 (.slice sb o.b.length cb) o.b.length (row .u8 o.b.length (bl o.b))∧wr.ownsRow w0.heap.size 4 1 (.slice (some ⟨ga,0,none⟩) o.b.length ca) o.b.length (brw o.b.length (olg o p n (i+1)))∧wr.ownsRow w0.heap.size 4 1 (.slice (some ⟨gh,0,none⟩) o.b.length ch) o.b.length (brw o.b.length o.he)∧Off XS w wr from ⟨M,V_b,V_a,V_h,OF⟩)
        clear M V_b V_a V_h OF; go_wp2
        go_roundw
        case rel=>exact ⟨i+1,by omega,by go_num,HS.out⟩
        case measure=>simp [intOf]; omega
      · rw [Bool.not_eq_true] at hh
        go_upto_region 4 with fail; refine wp_region_list ?_; refine xpL (.bool true) ?_; refine xpL (.bool true) ?_; refine xpL (.pointer (some ⟨R,0,none⟩)) ?_; refine xpL (.pointer (some ⟨R,0,none⟩)) ?_; refine xpL (.pointer (some ⟨R,5,none⟩)) ?_; refine xaL (.slice (some ⟨gh,0,none⟩) o.b.length ch) (load1 43 _ ⟨R,5,none⟩ _ rfl rfl (fun _=>by kernel_rfl) (M.get mS 5 _ rfl)) ?_
        refine xpL (.int .i64 (i:Int)) ?_; refine xaL (.pointer (some ⟨gh,i,none⟩)) (idxRow 43 4 gh _ _ i _ _ Try.underlying43 (fun _=>by kernel_rfl) (xnL hil hst) rfl rfl rfl _) ?_
        refine xaL (.bool false) (load1 4 _ ⟨gh,i,none⟩ _ rfl rfl (fun _=>by kernel_rfl) (rowCell V_h (by rw [brw_get _ (xnL hil hst),hh]))) ?_
        refine xpL (.bool true) ?_; refine xpL (.bool true) ?_; refine xT ?_; go_upto_region 5 with fail; refine wp_region_list ?_; refine xpL (.pointer (some ⟨R,0,none⟩)) ?_; refine xpL (.pointer (some ⟨R,0,none⟩)) ?_; refine xpL (.pointer (some ⟨R,4,none⟩)) ?_
        refine xaL (.slice (some ⟨ga,0,none⟩) o.b.length ca) (load1 43 _ ⟨R,4,none⟩ _ rfl rfl (fun _=>by kernel_rfl) (M.get mS 4 _ rfl)) ?_; refine xpL (.int .i64 (i:Int)) ?_; refine xaL (.pointer (some ⟨ga,i,none⟩)) (idxRow 43 4 ga _ _ i _ _ Try.underlying43 (fun _=>by kernel_rfl) (xnL hil hst) rfl rfl rfl _) ?_
        have Mp:=M.perm (pull1 ([(R,[.int .i64 o.size,.int .i64 o.lim,.int .i64 ((o.sent:Nat):Int),.slice sb o.b.length cb,.slice (some ⟨ga,0,none⟩) o.b.length ca,.slice (some ⟨gh,0,none⟩) o.b.length ch])]:List (Nat × List Value)) (obs sb) (obs (some ⟨ga,0,none⟩)) ((obs (some ⟨gh,0,none⟩))++l))
        obtain ⟨hsf,M'⟩:=Mp.setObs V_a (xnR _) i (by rw [brw_length]; exact (xnL hil hst)) (.bool true)
        refine skipOpL rfl (storeAny (.bool true) ga i 4 _ _ rfl rfl rfl rfl rfl hsf.1 hsf.2 (by kernel_rfl)) ?_; simp only [Act.put]; have ho:=(Off.refl [ga] wr).set (b:=ga) mS i (.bool true); replace V_b:=ownsRow_away V_b ho (Mp.awayO (so:=some ⟨ga,0,none⟩) (fun p_ hp_=>by simp [hp_]))
        replace V_h:=ownsRow_away V_h ho (Mp.awayO (so:=some ⟨ga,0,none⟩) (fun p_ hp_=>by simp [hp_])); replace OF:=OF.and1 ho (L_a ga mS); replace V_a:=ownsRow_put V_a i (.bool true)
        rw [brw_set] at V_a
        clear M Mp ho hsf; have M:=M'.perm (pull1 ([(R,[.int .i64 o.size,.int .i64 o.lim,.int .i64 ((o.sent:Nat):Int),.slice sb o.b.length cb,.slice (some ⟨ga,0,none⟩) o.b.length ca,.slice (some ⟨gh,0,none⟩) o.b.length ch])]:List (Nat × List Value)) (obs sb) (obs (some ⟨ga,0,none⟩)) ((obs (some ⟨gh,0,none⟩))++l)).symm; clear M'
        generalize wr.setCell ⟨ga,i,none⟩ (.bool true)=w1 at M V_b V_a V_h OF ⊢
        replace M:Mm w0 ((R,[.int .i64 o.size,.int .i64 o.lim,.int .i64 ((o.sent:Nat):Int),.slice sb o.b.length cb,.slice (some ⟨ga,0,none⟩) o.b.length ca,.slice (some ⟨gh,0,none⟩) o.b.length ch])::((obs sb)++((obs (some ⟨ga,0,none⟩))++((obs (some ⟨gh,0,none⟩))++l)))) w1:=M
        refine xT ?_
        rw [brw_congr (fun j _=>olg_put hin hh j)] at V_a
        replace M:Mm w0 ((R,[.int .i64 o.size,.int .i64 o.lim,.int .i64 ((o.sent:Nat):Int),.slice sb o.b.length cb,.slice (some ⟨ga,0,none⟩) o.b.length ca,.slice (some ⟨gh,0,none⟩) o.b.length ch])::((obs sb)++((obs (some ⟨ga,0,none⟩))++((obs (some ⟨gh,0,none⟩))++l)))) w1:=M
        have HS:=show Hid _ from (show Mm w0 ((R,[.int .i64 o.size,.int .i64 o.lim,.int .i64 ((o.sent:Nat):Int),.slice sb o.b.length cb,.slice (some ⟨ga,0,none⟩) o.b.length ca,.slice (some ⟨gh,0,none⟩) o.b.length ch])::((obs sb)++((obs (some ⟨ga,0,none⟩))++((obs (some ⟨gh,0,none⟩))++l)))) w1∧w1.ownsRow w0.heap.size 5 1 (.slice sb o.b.length cb) o.b.length (row .u8 o.b.length (bl o.b))∧w1.ownsRow w0.heap.size 4 1 (.slice (some ⟨ga,0,none⟩) o.b.length ca) o.b.length (brw o.b.length (olg o p n (i+1)))∧w1.ownsRow w0.heap.size 4 1 (.slice (some ⟨gh,0,none⟩) o.b.length ch) o.b.length (brw o.b.length o.he)∧Off XS w w1 from ⟨M,V_b,V_a,V_h,OF⟩)
        clear M V_b V_a V_h OF; go_wp2
        go_roundw
        case rel=>exact ⟨i+1,by omega,by go_num,HS.out⟩
        case measure=>simp [intOf]; omega
    | false =>
      have hin:oin p n i=false:=by
       unfold oin
       simp only [hb1,hb2,hb3,hb4,hb5,hb6,hb7,hb8,hb9,hb10] at hb11
       rw [xw6,xw6] at hb11
       rw [decide_eq_false_iff_not]
       simp at hb11
       omega
      try clear hb1
      try clear hb2
      try clear hb3
      try clear hb4
      try clear hb5
      try clear hb6
      try clear hb7
      try clear hb8
      try clear hb9
      try clear hb10
      try clear hb11
      go_upto_region 4 with fail; refine wp_region_list ?_; refine xpL (.bool false) ?_; refine xpL (.bool false) ?_
      with_reducible refine skipL ?_ ?_
      · rfl
      simp only [aP,lI,l0,lS]
      with_reducible refine skipL ?_ ?_
      · rfl
      simp only [aP,lI,l0,lS]
      with_reducible refine skipL ?_ ?_
      · rfl
      simp only [aP,lI,l0,lS]
      with_reducible refine skipL ?_ ?_
      · rfl
      simp only [aP,lI,l0,lS]
      with_reducible refine skipL ?_ ?_
      · rfl
      simp only [aP,lI,l0,lS]
      with_reducible refine skipL ?_ ?_
      · rfl
      simp only [aP,lI,l0,lS]
      with_reducible refine skipL ?_ ?_
      · rfl
      simp only [aP,lI,l0,lS]
      with_reducible refine skipL ?_ ?_
      · rfl
      simp only [aP,lI,l0,lS]; refine xpL (.bool false) ?_; refine xT ?_
      rw [brw_congr (fun j _=>olg_skip (o:=o) (p:=p) (n:=n) (i:=i) (fun h_=>by rw [hin] at h_; cases h_) j)] at V_a
      replace M:Mm w0 ((R,[.int .i64 o.size,.int .i64 o.lim,.int .i64 ((o.sent:Nat):Int),.slice sb o.b.length cb,.slice sa o.b.length ca,.slice sh o.b.length ch])::((obs sb)++((obs sa)++((obs sh)++l)))) wr:=M
      have HS:=show Hid _ from (show Mm w0 ((R,[.int .i64 o.size,.int .i64 o.lim,.int .i64 ((o.sent:Nat):Int),.slice sb o.b.length cb,.slice sa o.b.length ca,.slice sh o.b.length ch])::((obs sb)++((obs sa)++((obs sh)++l)))) wr∧wr.ownsRow w0.heap.size 5 1 (.slice sb o.b.length cb) o.b.length (row .u8 o.b.length (bl o.b))∧wr.ownsRow w0.heap.size 4 1 (.slice sa o.b.length ca) o.b.length (brw o.b.length (olg o p n (i+1)))∧wr.ownsRow w0.heap.size 4 1 (.slice sh o.b.length ch) o.b.length (brw o.b.length o.he)∧Off XS w wr from ⟨M,V_b,V_a,V_h,OF⟩)
      clear M V_b V_a V_h OF; go_wp2
      go_roundw
      case rel=>exact ⟨i+1,by omega,by go_num,HS.out⟩
      case measure=>simp [intOf]; omega
  · obtain rfl:i=o.sent:=by omega
    go_upto_region 1 with fail; refine wp_region_list ?_; refine xpL (.int .i64 ((o.sent:Nat):Int)) ?_; refine xpL (.pointer (some ⟨R,0,none⟩)) ?_; refine xpL (.pointer (some ⟨R,0,none⟩)) ?_; refine xpL (.pointer (some ⟨R,2,none⟩)) ?_; refine xaL (.int .i64 ((o.sent:Nat):Int)) (load1 3 _ ⟨R,2,none⟩ _ rfl rfl (fun _=>by kernel_rfl) (M.get mS 2 _ rfl)) ?_
    refine xaL (.bool false) (lssI .i64 _ _ _ _ _ _ rfl rfl rfl false (decide_eq_false (by omega)) _) ?_; refine xT ?_
    rw [hXS] at OF
    have HS:=show Hid _ from (And.intro M (And.intro V_b (And.intro V_a (And.intro V_h OF)))); clear M V_b V_a V_h OF; go_wp2
    exact ⟨rfl,.tuple #[],by kernel_rfl,rfl,HS.out⟩
theorem dack_any (w0 w:World) (R:Nat) (l:List (Nat × List Value)) (o:Obx) (sb sa sh:Option Addr) (cb ca ch:Nat) (hw:ObxW o) (hln:o.b.length<1000000) (p:Int) (L:List (Int × Int)) (sl:Option Addr) (cl:Nat) (hL:L.length<1000000) (hNl:∀ b,(b∈(R::(ob sb++(ob sa++ob sh)))∨w.heap.size≤b)→L≠[]→b∉ob sl) (N_l:RgW w L (.slice sl L.length cl)) (M:Mm w0 ((R,dcs o sb sa sh cb ca ch)::(obs sb++(obs sa++(obs sh++l)))) w) (V_b:w.ownsRow w0.heap.size 5 1 (.slice sb o.b.length cb) o.b.length (row .u8 o.b.length (bl o.b))) (V_a:w.ownsRow w0.heap.size 4 1 (.slice sa o.b.length ca) o.b.length (brw o.b.length o.ag)) (V_h:w.ownsRow w0.heap.size 4 1 (.slice sh o.b.length ch) o.b.length (brw o.b.length o.he)) :
 Calls Try.prog 18 #[.pointer (some ⟨R,0,none⟩),.int .i64 p,.slice sl L.length cl] w fun e w'=>e=.returned (.tuple #[])∧Mm w0 ((R,dcs (oac o p L) sb sa sh cb ca ch)::(obs sb++(obs sa++(obs sh++l)))) w'∧w'.ownsRow w0.heap.size 5 1 (.slice sb o.b.length cb) o.b.length (row .u8 o.b.length (bl o.b))∧w'.ownsRow w0.heap.size 4 1 (.slice sa o.b.length ca) o.b.length (brw o.b.length (oac o p L).ag)∧w'.ownsRow w0.heap.size 4 1 (.slice sh o.b.length ch) o.b.length (brw o.b.length (oac o p L).he)∧Off (R::(ob sb++(ob sa++ob sh))) w w':=by
 replace M:Mm w0 ((R,[.int .i64 o.size,.int .i64 o.lim,.int .i64 ((o.sent:Nat):Int),.slice sb o.b.length cb,.slice sa o.b.length ca,.slice sh o.b.length ch])::((obs sb)++((obs sa)++((obs sh)++l)))) w:=M
 have hb0:=M.below
 obtain ⟨XS,hXS⟩:∃ X_,X_=(R::(ob sb++(ob sa++ob sh))):=⟨_,rfl⟩
 have hRX:R∈XS:=by rw [hXS]; simp
 have L_b:Lies XS w sb:=fun b_ hb_=>.inl (by rw [hXS]; simp [hb_])
 have L_a:Lies XS w sa:=fun b_ hb_=>.inl (by rw [hXS]; simp [hb_])
 have L_h:Lies XS w sh:=fun b_ hb_=>.inl (by rw [hXS]; simp [hb_])
 have OF:=Off.refl XS w; have hst:=hw.st
 go_enter Try.func18,Try.ntmps18
 rw [← hXS] at hNl
 go_upto_region 0 with fail; refine wp_region_list ?_; refine xpL (.int .i64 0) ?_; refine xT ?_
 rw [brw_congr (fun j _=>(oag_zero o p L j).symm)] at V_a
 rw [brw_congr (fun j _=>(oah_zero o p L j).symm)] at V_h
 replace M:Mm w0 ((R,[.int .i64 o.size,.int .i64 o.lim,.int .i64 ((o.sent:Nat):Int),.slice sb o.b.length cb,.slice sa o.b.length ca,.slice sh o.b.length ch])::((obs sb)++((obs sa)++((obs sh)++l)))) w:=M
 replace M:Mm w0 ((R,[.int .i64 o.size,.int .i64 o.lim,.int .i64 ((o.sent:Nat):Int),.slice sb o.b.length cb,.slice sa o.b.length ca,.slice sh o.b.length ch])::((obs sb)++((obs sa)++((obs sh)++l)))) w:=M
 have HI:=show Hid _ from (show Mm w0 ((R,[.int .i64 o.size,.int .i64 o.lim,.int .i64 ((o.sent:Nat):Int),.slice sb o.b.length cb,.slice sa o.b.length ca,.slice sh o.b.length ch])::((obs sb)++((obs sa)++((obs sh)++l)))) w∧w.ownsRow w0.heap.size 5 1 (.slice sb o.b.length cb) o.b.length (row .u8 o.b.length (bl o.b))∧w.ownsRow w0.heap.size 4 1 (.slice sa o.b.length ca) o.b.length (brw o.b.length (oag o p L 0))∧w.ownsRow w0.heap.size 4 1 (.slice sh o.b.length ch) o.b.length (brw o.b.length (oah o p L 0))∧Off XS w w∧RgW w L (.slice sl L.length cl) from ⟨M,V_b,V_a,V_h,OF,N_l⟩)
 clear M V_b V_a V_h OF N_l; go_wp2
 go_loopw [6] (fun i w'=>∃ i':Nat,i'≤o.sent∧i=.int .i64 (i':Int)∧Mm w0 ((R,[.int .i64 o.size,.int .i64 o.lim,.int .i64 ((o.sent:Nat):Int),.slice sb o.b.length cb,.slice sa o.b.length ca,.slice sh o.b.length ch])::((obs sb)++((obs sa)++((obs sh)++l)))) w'∧w'.ownsRow w0.heap.size 5 1 (.slice sb o.b.length cb) o.b.length (row .u8 o.b.length (bl o.b))∧w'.ownsRow w0.heap.size 4 1 (.slice sa o.b.length ca) o.b.length (brw o.b.length (oag o p L i'))∧w'.ownsRow w0.heap.size 4 1 (.slice sh o.b.length ch) o.b.length (brw o.b.length (oah o p L i'))∧Off XS w w'∧RgW w' L (.slice sl L.length cl)) (fun i _=>o.sent-(intOf i).toNat)
 case atStart=>exact ⟨0,Nat.zero_le _,rfl,HI.out⟩
 case round =>
  clear HI
  obtain ⟨i,hi,rfl,M,V_b,V_a,V_h,OF,N_l⟩:=hrel
  by_cases hil:i<o.sent
  · go_upto_region 1 with fail
    refine wp_region_list ?_; refine xpL (.int .i64 (i:Int)) ?_; refine xpL (.pointer (some ⟨R,0,none⟩)) ?_; refine xpL (.pointer (some ⟨R,0,none⟩)) ?_; refine xpL (.pointer (some ⟨R,2,none⟩)) ?_; refine xaL (.int .i64 ((o.sent:Nat):Int)) (load1 3 _ ⟨R,2,none⟩ _ rfl rfl (fun _=>by kernel_rfl) (M.get mS 2 _ rfl)) ?_
    refine xaL (.bool true) (lssI .i64 _ _ _ _ _ _ rfl rfl rfl true (decide_eq_true (by omega)) _) ?_; refine xT ?_; go_upto_region 3 with fail; refine wp_region_list ?_; refine xpL (.int .i64 (i:Int)) ?_; refine xpL (.int .i64 p) ?_; refine xaL (.bool (okp p L 0 i)) (lssI .i64 _ _ _ _ _ _ rfl rfl rfl (okp p L 0 i) ((okp_zero p L i).symm) _) ?_; refine xpL (.bool (okp p L 0 i)) ?_; refine xT ?_
    go_upto_region 4 with fail; refine wp_region_list ?_; refine xpL (.int .i64 0) ?_; refine xT ?_
    have HI:=show Hid _ from (show Mm w0 ((R,[.int .i64 o.size,.int .i64 o.lim,.int .i64 ((o.sent:Nat):Int),.slice sb o.b.length cb,.slice sa o.b.length ca,.slice sh o.b.length ch])::((obs sb)++((obs sa)++((obs sh)++l)))) wr∧wr.ownsRow w0.heap.size 5 1 (.slice sb o.b.length cb) o.b.length (row .u8 o.b.length (bl o.b))∧wr.ownsRow w0.heap.size 4 1 (.slice sa o.b.length ca) o.b.length (brw o.b.length (oag o p L i))∧wr.ownsRow w0.heap.size 4 1 (.slice sh o.b.length ch) o.b.length (brw o.b.length (oah o p L i))∧Off XS w wr∧RgW wr L (.slice sl L.length cl) from ⟨M,V_b,V_a,V_h,OF,N_l⟩)
    clear M V_b V_a V_h OF N_l; go_wp2
    go_loopw [7,8] (fun ok k w'=>∃ k':Nat,k'≤L.length∧ok=.bool (okp p L k' i)∧k=.int .i64 (k':Int)∧Mm w0 ((R,[.int .i64 o.size,.int .i64 o.lim,.int .i64 ((o.sent:Nat):Int),.slice sb o.b.length cb,.slice sa o.b.length ca,.slice sh o.b.length ch])::((obs sb)++((obs sa)++((obs sh)++l)))) w'∧w'.ownsRow w0.heap.size 5 1 (.slice sb o.b.length cb) o.b.length (row .u8 o.b.length (bl o.b))∧w'.ownsRow w0.heap.size 4 1 (.slice sa o.b.length ca) o.b.length (brw o.b.length (oag o p L i))∧w'.ownsRow w0.heap.size 4 1 (.slice sh o.b.length ch) o.b.length (brw o.b.length (oah o p L i))∧Off XS w w'∧RgW w' L (.slice sl L.length cl)) (fun _ k _=>L.length-(intOf k).toNat)
    case atStart=>exact ⟨0,Nat.zero_le _,rfl,rfl,HI.out⟩
    case round =>
     clear HI
     obtain ⟨k,hk,rfl,rfl,M,V_b,V_a,V_h,OF,N_l⟩:=hrel
     by_cases hok:okp p L k i=true
     · have hak:=okp_hit hok
       rw [hok]
       by_cases hkl:k<L.length
       · go_upto_region 5 with fail
         refine wp_region_list ?_; refine xpL (.int .i64 (k:Int)) ?_; refine xpL (.slice sl L.length cl) ?_; refine xaL (.int .i64 ((L.length:Nat):Int)) (lenS _ 29 49 sl L.length cl rfl Try.underlying29 rfl _) ?_; refine xaL (.bool true) (lssI .i64 _ _ _ _ _ _ rfl rfl rfl true (decide_eq_true (by omega)) _) ?_; refine xpL (.bool true) ?_; refine xpL (.bool true) ?_
         refine xpL (.bool false) ?_; refine xpL (.bool false) ?_; refine xT ?_; clear hok; go_upto_region 8 with fail; refine wp_region_list ?_; refine xpL (.bool true) ?_; refine xT ?_
         obtain ⟨gh,hg_h⟩:=row_some16 V_h (by omega)
         subst hg_h
         replace M:Mm w0 ((R,[.int .i64 o.size,.int .i64 o.lim,.int .i64 ((o.sent:Nat):Int),.slice sb o.b.length cb,.slice sa o.b.length ca,.slice (some ⟨gh,0,none⟩) o.b.length ch])::((obs sb)++((obs sa)++((obs (some ⟨gh,0,none⟩))++l)))) wr:=M
         obtain ⟨ga,hg_a⟩:=row_some16 V_a (by omega)
         subst hg_a
         replace M:Mm w0 ((R,[.int .i64 o.size,.int .i64 o.lim,.int .i64 ((o.sent:Nat):Int),.slice sb o.b.length cb,.slice (some ⟨ga,0,none⟩) o.b.length ca,.slice (some ⟨gh,0,none⟩) o.b.length ch])::((obs sb)++((obs (some ⟨ga,0,none⟩))++((obs (some ⟨gh,0,none⟩))++l)))) wr:=M
         go_upto_region 9 with fail; refine wp_region_list ?_; refine xpL (.pointer (some ⟨R,0,none⟩)) ?_; refine xpL (.pointer (some ⟨R,0,none⟩)) ?_; refine xpL (.pointer (some ⟨R,5,none⟩)) ?_; refine xaL (.slice (some ⟨gh,0,none⟩) o.b.length ch) (load1 43 _ ⟨R,5,none⟩ _ rfl rfl (fun _=>by kernel_rfl) (M.get mS 5 _ rfl)) ?_; refine xpL (.int .i64 (i:Int)) ?_
         refine xaL (.pointer (some ⟨gh,i,none⟩)) (idxRow 43 4 gh _ _ i _ _ Try.underlying43 (fun _=>by kernel_rfl) (xnL hil hst) rfl rfl rfl _) ?_
         have Mp:=M.perm (pull2 ([(R,[.int .i64 o.size,.int .i64 o.lim,.int .i64 ((o.sent:Nat):Int),.slice sb o.b.length cb,.slice (some ⟨ga,0,none⟩) o.b.length ca,.slice (some ⟨gh,0,none⟩) o.b.length ch])]:List (Nat × List Value)) (obs sb) (obs (some ⟨ga,0,none⟩)) (obs (some ⟨gh,0,none⟩)) l)
         obtain ⟨hsf,M'⟩:=Mp.setObs V_h (xnR _) i (by rw [brw_length]; exact (xnL hil hst)) (.bool true)
         refine skipOpL rfl (storeAny (.bool true) gh i 4 _ _ rfl rfl rfl rfl rfl hsf.1 hsf.2 (by kernel_rfl)) ?_; simp only [Act.put]; have ho:=(Off.refl [gh] wr).set (b:=gh) mS i (.bool true); replace V_b:=ownsRow_away V_b ho (Mp.awayO (so:=some ⟨gh,0,none⟩) (fun p_ hp_=>by simp [hp_]))
         replace V_a:=ownsRow_away V_a ho (Mp.awayO (so:=some ⟨gh,0,none⟩) (fun p_ hp_=>by simp [hp_])); replace N_l:=RgW.offB N_l ho (fun b_ hb_ hne_=>by obtain rfl:=xm1 hb_; exact hNl _ (L_h _ mS) hne_); replace OF:=OF.and1 ho (L_h gh mS); replace V_h:=ownsRow_put V_h i (.bool true)
         rw [brw_set] at V_h
         clear M Mp ho hsf; have M:=M'.perm (pull2 ([(R,[.int .i64 o.size,.int .i64 o.lim,.int .i64 ((o.sent:Nat):Int),.slice sb o.b.length cb,.slice (some ⟨ga,0,none⟩) o.b.length ca,.slice (some ⟨gh,0,none⟩) o.b.length ch])]:List (Nat × List Value)) (obs sb) (obs (some ⟨ga,0,none⟩)) (obs (some ⟨gh,0,none⟩)) l).symm; clear M'
         generalize wr.setCell ⟨gh,i,none⟩ (.bool true)=w1 at M V_b V_a V_h OF N_l ⊢
         replace M:Mm w0 ((R,[.int .i64 o.size,.int .i64 o.lim,.int .i64 ((o.sent:Nat):Int),.slice sb o.b.length cb,.slice (some ⟨ga,0,none⟩) o.b.length ca,.slice (some ⟨gh,0,none⟩) o.b.length ch])::((obs sb)++((obs (some ⟨ga,0,none⟩))++((obs (some ⟨gh,0,none⟩))++l)))) w1:=M
         refine xT ?_; go_upto_region 10 with fail; refine wp_region_list ?_; refine xpL (.pointer (some ⟨R,0,none⟩)) ?_; refine xpL (.pointer (some ⟨R,0,none⟩)) ?_; refine xpL (.pointer (some ⟨R,4,none⟩)) ?_; refine xaL (.slice (some ⟨ga,0,none⟩) o.b.length ca) (load1 43 _ ⟨R,4,none⟩ _ rfl rfl (fun _=>by kernel_rfl) (M.get mS 4 _ rfl)) ?_; refine xpL (.int .i64 (i:Int)) ?_
         refine xaL (.pointer (some ⟨ga,i,none⟩)) (idxRow 43 4 ga _ _ i _ _ Try.underlying43 (fun _=>by kernel_rfl) (xnL hil hst) rfl rfl rfl _) ?_
         have Mp:=M.perm (pull1 ([(R,[.int .i64 o.size,.int .i64 o.lim,.int .i64 ((o.sent:Nat):Int),.slice sb o.b.length cb,.slice (some ⟨ga,0,none⟩) o.b.length ca,.slice (some ⟨gh,0,none⟩) o.b.length ch])]:List (Nat × List Value)) (obs sb) (obs (some ⟨ga,0,none⟩)) ((obs (some ⟨gh,0,none⟩))++l))
         obtain ⟨hsf,M'⟩:=Mp.setObs V_a (xnR _) i (by rw [brw_length]; exact (xnL hil hst)) (.bool false)
         refine skipOpL rfl (storeAny (.bool false) ga i 4 _ _ rfl rfl rfl rfl rfl hsf.1 hsf.2 (by kernel_rfl)) ?_; simp only [Act.put]; have ho:=(Off.refl [ga] w1).set (b:=ga) mS i (.bool false); replace V_b:=ownsRow_away V_b ho (Mp.awayO (so:=some ⟨ga,0,none⟩) (fun p_ hp_=>by simp [hp_]))
         replace V_h:=ownsRow_away V_h ho (Mp.awayO (so:=some ⟨ga,0,none⟩) (fun p_ hp_=>by simp [hp_])); replace N_l:=RgW.offB N_l ho (fun b_ hb_ hne_=>by obtain rfl:=xm1 hb_; exact hNl _ (L_a _ mS) hne_); replace OF:=OF.and1 ho (L_a ga mS); replace V_a:=ownsRow_put V_a i (.bool false)
         rw [brw_set] at V_a
         clear M Mp ho hsf; have M:=M'.perm (pull1 ([(R,[.int .i64 o.size,.int .i64 o.lim,.int .i64 ((o.sent:Nat):Int),.slice sb o.b.length cb,.slice (some ⟨ga,0,none⟩) o.b.length ca,.slice (some ⟨gh,0,none⟩) o.b.length ch])]:List (Nat × List Value)) (obs sb) (obs (some ⟨ga,0,none⟩)) ((obs (some ⟨gh,0,none⟩))++l)).symm; clear M'
         generalize w1.setCell ⟨ga,i,none⟩ (.bool false)=w2 at M V_b V_a V_h OF N_l ⊢
         replace M:Mm w0 ((R,[.int .i64 o.size,.int .i64 o.lim,.int .i64 ((o.sent:Nat):Int),.slice sb o.b.length cb,.slice (some ⟨ga,0,none⟩) o.b.length ca,.slice (some ⟨gh,0,none⟩) o.b.length ch])::((obs sb)++((obs (some ⟨ga,0,none⟩))++((obs (some ⟨gh,0,none⟩))++l)))) w2:=M
         refine xT ?_
         rw [brw_congr (fun j _=>oag_put hak j)] at V_a
         rw [brw_congr (fun j _=>oah_put hak j)] at V_h
         replace M:Mm w0 ((R,[.int .i64 o.size,.int .i64 o.lim,.int .i64 ((o.sent:Nat):Int),.slice sb o.b.length cb,.slice (some ⟨ga,0,none⟩) o.b.length ca,.slice (some ⟨gh,0,none⟩) o.b.length ch])::((obs sb)++((obs (some ⟨ga,0,none⟩))++((obs (some ⟨gh,0,none⟩))++l)))) w2:=M
         replace M:Mm w0 ((R,[.int .i64 o.size,.int .i64 o.lim,.int .i64 ((o.sent:Nat):Int),.slice sb o.b.length cb,.slice (some ⟨ga,0,none⟩) o.b.length ca,.slice (some ⟨gh,0,none⟩) o.b.length ch])::((obs sb)++((obs (some ⟨ga,0,none⟩))++((obs (some ⟨gh,0,none⟩))++l)))) w2:=M
         have HS:=show Hid _ from (show Mm w0 ((R,[.int .i64 o.size,.int .i64 o.lim,.int .i64 ((o.sent:Nat):Int),.slice sb o.b.length cb,.slice (some ⟨ga,0,none⟩) o.b.length ca,.slice (some ⟨gh,0,none⟩) o.b.length ch])::((obs sb)++((obs (some ⟨ga,0,none⟩))++((obs (some ⟨gh,0,none⟩))++l)))) w2∧w2.ownsRow w0.heap.size 5 1 (.slice sb o.b.length cb) o.b.length (row .u8 o.b.length (bl o.b))∧w2.ownsRow w0.heap.size 4 1 (.slice (some ⟨ga,0,none⟩) o.b.length ca) o.b.length (brw o.b.length (oag o p L (i+1)))∧w2.ownsRow w0.heap.size 4 1 (.slice (some ⟨gh,0,none⟩) o.b.length ch) o.b.length (brw o.b.length (oah o p L (i+1)))∧Off XS w w2∧RgW w2 L (.slice sl L.length cl) from ⟨M,V_b,V_a,V_h,OF,N_l⟩)
         clear M V_b V_a V_h OF N_l hak; go_wp2
         go_roundw
         case rel=>exact ⟨i+1,by omega,by go_num,HS.out⟩
         case measure=>simp [intOf]; omega
       · go_upto_region 5 with fail
         refine wp_region_list ?_; refine xpL (.int .i64 (k:Int)) ?_; refine xpL (.slice sl L.length cl) ?_; refine xaL (.int .i64 ((L.length:Nat):Int)) (lenS _ 29 49 sl L.length cl rfl Try.underlying29 rfl _) ?_; refine xaL (.bool false) (lssI .i64 _ _ _ _ _ _ rfl rfl rfl false (decide_eq_false (by omega)) _) ?_; refine xpL (.bool false) ?_
         with_reducible refine skipL ?_ ?_
         · rfl
         simp only [aP,lI,l0,lS]
         with_reducible refine skipL ?_ ?_
         · rfl
         simp only [aP,lI,l0,lS]; refine xpL (.bool false) ?_; refine xT ?_; clear hok; go_upto_region 8 with fail; refine wp_region_list ?_; refine xpL (.bool true) ?_; refine xT ?_
         obtain ⟨gh,hg_h⟩:=row_some16 V_h (by omega)
         subst hg_h
         replace M:Mm w0 ((R,[.int .i64 o.size,.int .i64 o.lim,.int .i64 ((o.sent:Nat):Int),.slice sb o.b.length cb,.slice sa o.b.length ca,.slice (some ⟨gh,0,none⟩) o.b.length ch])::((obs sb)++((obs sa)++((obs (some ⟨gh,0,none⟩))++l)))) wr:=M
         obtain ⟨ga,hg_a⟩:=row_some16 V_a (by omega)
         subst hg_a
         replace M:Mm w0 ((R,[.int .i64 o.size,.int .i64 o.lim,.int .i64 ((o.sent:Nat):Int),.slice sb o.b.length cb,.slice (some ⟨ga,0,none⟩) o.b.length ca,.slice (some ⟨gh,0,none⟩) o.b.length ch])::((obs sb)++((obs (some ⟨ga,0,none⟩))++((obs (some ⟨gh,0,none⟩))++l)))) wr:=M
         go_upto_region 9 with fail; refine wp_region_list ?_; refine xpL (.pointer (some ⟨R,0,none⟩)) ?_; refine xpL (.pointer (some ⟨R,0,none⟩)) ?_; refine xpL (.pointer (some ⟨R,5,none⟩)) ?_; refine xaL (.slice (some ⟨gh,0,none⟩) o.b.length ch) (load1 43 _ ⟨R,5,none⟩ _ rfl rfl (fun _=>by kernel_rfl) (M.get mS 5 _ rfl)) ?_; refine xpL (.int .i64 (i:Int)) ?_
         refine xaL (.pointer (some ⟨gh,i,none⟩)) (idxRow 43 4 gh _ _ i _ _ Try.underlying43 (fun _=>by kernel_rfl) (xnL hil hst) rfl rfl rfl _) ?_
         have Mp:=M.perm (pull2 ([(R,[.int .i64 o.size,.int .i64 o.lim,.int .i64 ((o.sent:Nat):Int),.slice sb o.b.length cb,.slice (some ⟨ga,0,none⟩) o.b.length ca,.slice (some ⟨gh,0,none⟩) o.b.length ch])]:List (Nat × List Value)) (obs sb) (obs (some ⟨ga,0,none⟩)) (obs (some ⟨gh,0,none⟩)) l)
         obtain ⟨hsf,M'⟩:=Mp.setObs V_h (xnR _) i (by rw [brw_length]; exact (xnL hil hst)) (.bool true)
         refine skipOpL rfl (storeAny (.bool true) gh i 4 _ _ rfl rfl rfl rfl rfl hsf.1 hsf.2 (by kernel_rfl)) ?_; simp only [Act.put]; have ho:=(Off.refl [gh] wr).set (b:=gh) mS i (.bool true); replace V_b:=ownsRow_away V_b ho (Mp.awayO (so:=some ⟨gh,0,none⟩) (fun p_ hp_=>by simp [hp_]))
         replace V_a:=ownsRow_away V_a ho (Mp.awayO (so:=some ⟨gh,0,none⟩) (fun p_ hp_=>by simp [hp_])); replace N_l:=RgW.offB N_l ho (fun b_ hb_ hne_=>by obtain rfl:=xm1 hb_; exact hNl _ (L_h _ mS) hne_); replace OF:=OF.and1 ho (L_h gh mS); replace V_h:=ownsRow_put V_h i (.bool true)
         rw [brw_set] at V_h
         clear M Mp ho hsf; have M:=M'.perm (pull2 ([(R,[.int .i64 o.size,.int .i64 o.lim,.int .i64 ((o.sent:Nat):Int),.slice sb o.b.length cb,.slice (some ⟨ga,0,none⟩) o.b.length ca,.slice (some ⟨gh,0,none⟩) o.b.length ch])]:List (Nat × List Value)) (obs sb) (obs (some ⟨ga,0,none⟩)) (obs (some ⟨gh,0,none⟩)) l).symm; clear M'
         generalize wr.setCell ⟨gh,i,none⟩ (.bool true)=w3 at M V_b V_a V_h OF N_l ⊢
         replace M:Mm w0 ((R,[.int .i64 o.size,.int .i64 o.lim,.int .i64 ((o.sent:Nat):Int),.slice sb o.b.length cb,.slice (some ⟨ga,0,none⟩) o.b.length ca,.slice (some ⟨gh,0,none⟩) o.b.length ch])::((obs sb)++((obs (some ⟨ga,0,none⟩))++((obs (some ⟨gh,0,none⟩))++l)))) w3:=M
         refine xT ?_; go_upto_region 10 with fail; refine wp_region_list ?_; refine xpL (.pointer (some ⟨R,0,none⟩)) ?_; refine xpL (.pointer (some ⟨R,0,none⟩)) ?_; refine xpL (.pointer (some ⟨R,4,none⟩)) ?_; refine xaL (.slice (some ⟨ga,0,none⟩) o.b.length ca) (load1 43 _ ⟨R,4,none⟩ _ rfl rfl (fun _=>by kernel_rfl) (M.get mS 4 _ rfl)) ?_; refine xpL (.int .i64 (i:Int)) ?_
         refine xaL (.pointer (some ⟨ga,i,none⟩)) (idxRow 43 4 ga _ _ i _ _ Try.underlying43 (fun _=>by kernel_rfl) (xnL hil hst) rfl rfl rfl _) ?_
         have Mp:=M.perm (pull1 ([(R,[.int .i64 o.size,.int .i64 o.lim,.int .i64 ((o.sent:Nat):Int),.slice sb o.b.length cb,.slice (some ⟨ga,0,none⟩) o.b.length ca,.slice (some ⟨gh,0,none⟩) o.b.length ch])]:List (Nat × List Value)) (obs sb) (obs (some ⟨ga,0,none⟩)) ((obs (some ⟨gh,0,none⟩))++l))
         obtain ⟨hsf,M'⟩:=Mp.setObs V_a (xnR _) i (by rw [brw_length]; exact (xnL hil hst)) (.bool false)
         refine skipOpL rfl (storeAny (.bool false) ga i 4 _ _ rfl rfl rfl rfl rfl hsf.1 hsf.2 (by kernel_rfl)) ?_; simp only [Act.put]; have ho:=(Off.refl [ga] w3).set (b:=ga) mS i (.bool false); replace V_b:=ownsRow_away V_b ho (Mp.awayO (so:=some ⟨ga,0,none⟩) (fun p_ hp_=>by simp [hp_]))
         replace V_h:=ownsRow_away V_h ho (Mp.awayO (so:=some ⟨ga,0,none⟩) (fun p_ hp_=>by simp [hp_])); replace N_l:=RgW.offB N_l ho (fun b_ hb_ hne_=>by obtain rfl:=xm1 hb_; exact hNl _ (L_a _ mS) hne_); replace OF:=OF.and1 ho (L_a ga mS); replace V_a:=ownsRow_put V_a i (.bool false)
         rw [brw_set] at V_a
         clear M Mp ho hsf; have M:=M'.perm (pull1 ([(R,[.int .i64 o.size,.int .i64 o.lim,.int .i64 ((o.sent:Nat):Int),.slice sb o.b.length cb,.slice (some ⟨ga,0,none⟩) o.b.length ca,.slice (some ⟨gh,0,none⟩) o.b.length ch])]:List (Nat × List Value)) (obs sb) (obs (some ⟨ga,0,none⟩)) ((obs (some ⟨gh,0,none⟩))++l)).symm; clear M'
         generalize w3.setCell ⟨ga,i,none⟩ (.bool false)=w4 at M V_b V_a V_h OF N_l ⊢
         replace M:Mm w0 ((R,[.int .i64 o.size,.int .i64 o.lim,.int .i64 ((o.sent:Nat):Int),.slice sb o.b.length cb,.slice (some ⟨ga,0,none⟩) o.b.length ca,.slice (some ⟨gh,0,none⟩) o.b.length ch])::((obs sb)++((obs (some ⟨ga,0,none⟩))++((obs (some ⟨gh,0,none⟩))++l)))) w4:=M
         refine xT ?_
         rw [brw_congr (fun j _=>oag_put hak j)] at V_a
         rw [brw_congr (fun j _=>oah_put hak j)] at V_h
         replace M:Mm w0 ((R,[.int .i64 o.size,.int .i64 o.lim,.int .i64 ((o.sent:Nat):Int),.slice sb o.b.length cb,.slice (some ⟨ga,0,none⟩) o.b.length ca,.slice (some ⟨gh,0,none⟩) o.b.length ch])::((obs sb)++((obs (some ⟨ga,0,none⟩))++((obs (some ⟨gh,0,none⟩))++l)))) w4:=M
         replace M:Mm w0 ((R,[.int .i64 o.size,.int .i64 o.lim,.int .i64 ((o.sent:Nat):Int),.slice sb o.b.length cb,.slice (some ⟨ga,0,none⟩) o.b.length ca,.slice (some ⟨gh,0,none⟩) o.b.length ch])::((obs sb)++((obs (some ⟨ga,0,none⟩))++((obs (some ⟨gh,0,none⟩))++l)))) w4:=M
         have HS:=show Hid _ from (show Mm w0 ((R,[.int .i64 o.size,.int .i64 o.lim,.int .i64 ((o.sent:Nat):Int),.slice sb o.b.length cb,.slice (some ⟨ga,0,none⟩) o.b.length ca,.slice (some ⟨gh,0,none⟩) o.b.length ch])::((obs sb)++((obs (some ⟨ga,0,none⟩))++((obs (some ⟨gh,0,none⟩))++l)))) w4∧w4.ownsRow w0.heap.size 5 1 (.slice sb o.b.length cb) o.b.length (row .u8 o.b.length (bl o.b))∧w4.ownsRow w0.heap.size 4 1 (.slice (some ⟨ga,0,none⟩) o.b.length ca) o.b.length (brw o.b.length (oag o p L (i+1)))∧w4.ownsRow w0.heap.size 4 1 (.slice (some ⟨gh,0,none⟩) o.b.length ch) o.b.length (brw o.b.length (oah o p L (i+1)))∧Off XS w w4∧RgW w4 L (.slice sl L.length cl) from ⟨M,V_b,V_a,V_h,OF,N_l⟩)
         clear M V_b V_a V_h OF N_l hak; go_wp2
         go_roundw
         case rel=>exact ⟨i+1,by omega,by go_num,HS.out⟩
         case measure=>simp [intOf]; omega
     · by_cases hkl:k<L.length
       · have hokf:okp p L k i=false:=by rw [← Bool.not_eq_true]; exact hok
         rw [hokf]
         go_upto_region 5 with fail; refine wp_region_list ?_; refine xpL (.int .i64 (k:Int)) ?_; refine xpL (.slice sl L.length cl) ?_; refine xaL (.int .i64 ((L.length:Nat):Int)) (lenS _ 29 49 sl L.length cl rfl Try.underlying29 rfl _) ?_; refine xaL (.bool true) (lssI .i64 _ _ _ _ _ _ rfl rfl rfl true (decide_eq_true (by omega)) _) ?_; refine xpL (.bool true) ?_
         refine xpL (.bool false) ?_; refine xpL (.bool true) ?_; refine xpL (.bool true) ?_; refine xT ?_
         obtain ⟨pr,hpr⟩:∃ pr,L[k]?=some pr:=⟨_,List.getElem?_eq_getElem hkl⟩
         obtain ⟨adr,hadr,_,_⟩:=RgW.at N_l hpr
         subst hadr
         by_cases c1:pr.1≤(i:Int)
         · by_cases c2:(i:Int)<pr.2
           · go_upto_region 7 with fail
             refine wp_region_list ?_; refine xpL (.int .i64 (i:Int)) ?_; refine xpL (.slice (some adr) L.length cl) ?_; refine xpL (.int .i64 (k:Int)) ?_; refine readL (.pointer (some (adr.add (k*2)))) rfl (idxR2 adr _ _ k hkl _ _ rfl rfl rfl _) ?_; simp only [aP,lI,l0,lS]; refine xpL (.pointer (some ((adr.add (k*2)).add 0))) ?_
             refine xaL (.int .i64 pr.1) (load1 3 _ ((adr.add (k*2)).add 0) _ rfl rfl (fun _=>by kernel_rfl) (RgW.rng N_l hpr 0 _ rfl)) ?_; refine xaL (.bool true) (geqI .i64 _ _ _ _ _ _ rfl rfl rfl true (decide_eq_true (by omega)) _) ?_; refine xpL (.bool true) ?_; refine xpL (.int .i64 (i:Int)) ?_; refine xpL (.slice (some adr) L.length cl) ?_; refine xpL (.int .i64 (k:Int)) ?_
             refine readL (.pointer (some (adr.add (k*2)))) rfl (idxR2 adr _ _ k hkl _ _ rfl rfl rfl _) ?_; simp only [aP,lI,l0,lS]; refine xpL (.pointer (some ((adr.add (k*2)).add 1))) ?_; refine xaL (.int .i64 pr.2) (load1 3 _ ((adr.add (k*2)).add 1) _ rfl rfl (fun _=>by kernel_rfl) (RgW.rng N_l hpr 1 _ rfl)) ?_
             refine xaL (.bool true) (lssI .i64 _ _ _ _ _ _ rfl rfl rfl true (decide_eq_true (by omega)) _) ?_; refine xpL (.bool true) ?_; refine xpL (.bool true) ?_; refine xT ?_
             have hok1:okp p L (k+1) i=true:=by rw [okp_step hpr hokf]; exact decide_eq_true (by omega)
             have HS:=show Hid _ from (show Mm w0 ((R,[.int .i64 o.size,.int .i64 o.lim,.int .i64 ((o.sent:Nat):Int),.slice sb o.b.length cb,.slice sa o.b.length ca,.slice sh o.b.length ch])::((obs sb)++((obs sa)++((obs sh)++l)))) wr∧wr.ownsRow w0.heap.size 5 1 (.slice sb o.b.length cb) o.b.length (row .u8 o.b.length (bl o.b))∧wr.ownsRow w0.heap.size 4 1 (.slice sa o.b.length ca) o.b.length (brw o.b.length (oag o p L i))∧wr.ownsRow w0.heap.size 4 1 (.slice sh o.b.length ch) o.b.length (brw o.b.length (oah o p L i))∧Off XS w wr∧RgW wr L (.slice (some adr) L.length cl) from ⟨M,V_b,V_a,V_h,OF,N_l⟩)
             replace hok1:=show Hid _ from hok1; clear M V_b V_a V_h OF N_l hokf hok; go_wp2
             go_roundw
             case rel=>exact ⟨k+1,by omega,by rw [hok1.out],by go_num,HS.out⟩
             case measure=>simp [intOf]; omega
           · go_upto_region 7 with fail
             refine wp_region_list ?_; refine xpL (.int .i64 (i:Int)) ?_; refine xpL (.slice (some adr) L.length cl) ?_; refine xpL (.int .i64 (k:Int)) ?_; refine readL (.pointer (some (adr.add (k*2)))) rfl (idxR2 adr _ _ k hkl _ _ rfl rfl rfl _) ?_; simp only [aP,lI,l0,lS]; refine xpL (.pointer (some ((adr.add (k*2)).add 0))) ?_
             refine xaL (.int .i64 pr.1) (load1 3 _ ((adr.add (k*2)).add 0) _ rfl rfl (fun _=>by kernel_rfl) (RgW.rng N_l hpr 0 _ rfl)) ?_; refine xaL (.bool true) (geqI .i64 _ _ _ _ _ _ rfl rfl rfl true (decide_eq_true (by omega)) _) ?_; refine xpL (.bool true) ?_; refine xpL (.int .i64 (i:Int)) ?_; refine xpL (.slice (some adr) L.length cl) ?_; refine xpL (.int .i64 (k:Int)) ?_
             refine readL (.pointer (some (adr.add (k*2)))) rfl (idxR2 adr _ _ k hkl _ _ rfl rfl rfl _) ?_; simp only [aP,lI,l0,lS]; refine xpL (.pointer (some ((adr.add (k*2)).add 1))) ?_; refine xaL (.int .i64 pr.2) (load1 3 _ ((adr.add (k*2)).add 1) _ rfl rfl (fun _=>by kernel_rfl) (RgW.rng N_l hpr 1 _ rfl)) ?_
             refine xaL (.bool false) (lssI .i64 _ _ _ _ _ _ rfl rfl rfl false (decide_eq_false (by omega)) _) ?_; refine xpL (.bool false) ?_; refine xpL (.bool false) ?_; refine xT ?_
             have hok1:okp p L (k+1) i=false:=by rw [okp_step hpr hokf]; exact decide_eq_false (by omega)
             have HS:=show Hid _ from (show Mm w0 ((R,[.int .i64 o.size,.int .i64 o.lim,.int .i64 ((o.sent:Nat):Int),.slice sb o.b.length cb,.slice sa o.b.length ca,.slice sh o.b.length ch])::((obs sb)++((obs sa)++((obs sh)++l)))) wr∧wr.ownsRow w0.heap.size 5 1 (.slice sb o.b.length cb) o.b.length (row .u8 o.b.length (bl o.b))∧wr.ownsRow w0.heap.size 4 1 (.slice sa o.b.length ca) o.b.length (brw o.b.length (oag o p L i))∧wr.ownsRow w0.heap.size 4 1 (.slice sh o.b.length ch) o.b.length (brw o.b.length (oah o p L i))∧Off XS w wr∧RgW wr L (.slice (some adr) L.length cl) from ⟨M,V_b,V_a,V_h,OF,N_l⟩)
             replace hok1:=show Hid _ from hok1; clear M V_b V_a V_h OF N_l hokf hok; go_wp2
             go_roundw
             case rel=>exact ⟨k+1,by omega,by rw [hok1.out],by go_num,HS.out⟩
             case measure=>simp [intOf]; omega
         · go_upto_region 7 with fail
           refine wp_region_list ?_; refine xpL (.int .i64 (i:Int)) ?_; refine xpL (.slice (some adr) L.length cl) ?_; refine xpL (.int .i64 (k:Int)) ?_; refine readL (.pointer (some (adr.add (k*2)))) rfl (idxR2 adr _ _ k hkl _ _ rfl rfl rfl _) ?_; simp only [aP,lI,l0,lS]; refine xpL (.pointer (some ((adr.add (k*2)).add 0))) ?_
           refine xaL (.int .i64 pr.1) (load1 3 _ ((adr.add (k*2)).add 0) _ rfl rfl (fun _=>by kernel_rfl) (RgW.rng N_l hpr 0 _ rfl)) ?_; refine xaL (.bool false) (geqI .i64 _ _ _ _ _ _ rfl rfl rfl false (decide_eq_false (by omega)) _) ?_; refine xpL (.bool false) ?_
           with_reducible refine skipL ?_ ?_
           · rfl
           simp only [aP,lI,l0,lS]
           with_reducible refine skipL ?_ ?_
           · rfl
           simp only [aP,lI,l0,lS]
           with_reducible refine skipL ?_ ?_
           · rfl
           simp only [aP,lI,l0,lS]
           with_reducible refine skipL ?_ ?_
           · rfl
           simp only [aP,lI,l0,lS]
           with_reducible refine skipL ?_ ?_
           · rfl
           simp only [aP,lI,l0,lS]
           with_reducible refine skipL ?_ ?_
           · rfl
           simp only [aP,lI,l0,lS]
           with_reducible refine skipL ?_ ?_
           · rfl
           simp only [aP,lI,l0,lS]; refine xpL (.bool false) ?_; refine xpL (.bool false) ?_; refine xT ?_
           have hok1:okp p L (k+1) i=false:=by rw [okp_step hpr hokf]; exact decide_eq_false (by omega)
           have HS:=show Hid _ from (show Mm w0 ((R,[.int .i64 o.size,.int .i64 o.lim,.int .i64 ((o.sent:Nat):Int),.slice sb o.b.length cb,.slice sa o.b.length ca,.slice sh o.b.length ch])::((obs sb)++((obs sa)++((obs sh)++l)))) wr∧wr.ownsRow w0.heap.size 5 1 (.slice sb o.b.length cb) o.b.length (row .u8 o.b.length (bl o.b))∧wr.ownsRow w0.heap.size 4 1 (.slice sa o.b.length ca) o.b.length (brw o.b.length (oag o p L i))∧wr.ownsRow w0.heap.size 4 1 (.slice sh o.b.length ch) o.b.length (brw o.b.length (oah o p L i))∧Off XS w wr∧RgW wr L (.slice (some adr) L.length cl) from ⟨M,V_b,V_a,V_h,OF,N_l⟩)
           replace hok1:=show Hid _ from hok1; clear M V_b V_a V_h OF N_l hokf hok; go_wp2
           go_roundw
           case rel=>exact ⟨k+1,by omega,by rw [hok1.out],by go_num,HS.out⟩
           case measure=>simp [intOf]; omega
       · obtain rfl:k=L.length:=by omega
         have hak:oak p L i=false:=by rw [← okp_end,← Bool.not_eq_true]; exact hok
         rw [show okp p L L.length i=false by rw [okp_end]; exact hak]
         clear hok; go_upto_region 5 with fail; refine wp_region_list ?_; refine xpL (.int .i64 ((L.length:Nat):Int)) ?_; refine xpL (.slice sl L.length cl) ?_; refine xaL (.int .i64 ((L.length:Nat):Int)) (lenS _ 29 49 sl L.length cl rfl Try.underlying29 rfl _) ?_; refine xaL (.bool false) (lssI .i64 _ _ _ _ _ _ rfl rfl rfl false (decide_eq_false (by omega)) _) ?_
         refine xpL (.bool false) ?_
         with_reducible refine skipL ?_ ?_
         · rfl
         simp only [aP,lI,l0,lS]
         with_reducible refine skipL ?_ ?_
         · rfl
         simp only [aP,lI,l0,lS]; refine xpL (.bool false) ?_; refine xT ?_; go_upto_region 8 with fail; refine wp_region_list ?_; refine xpL (.bool false) ?_; refine xT ?_
         rw [brw_congr (fun j _=>oag_skip hak j)] at V_a
         rw [brw_congr (fun j _=>oah_skip hak j)] at V_h
         replace M:Mm w0 ((R,[.int .i64 o.size,.int .i64 o.lim,.int .i64 ((o.sent:Nat):Int),.slice sb o.b.length cb,.slice sa o.b.length ca,.slice sh o.b.length ch])::((obs sb)++((obs sa)++((obs sh)++l)))) wr:=M
         replace M:Mm w0 ((R,[.int .i64 o.size,.int .i64 o.lim,.int .i64 ((o.sent:Nat):Int),.slice sb o.b.length cb,.slice sa o.b.length ca,.slice sh o.b.length ch])::((obs sb)++((obs sa)++((obs sh)++l)))) wr:=M
         have HS:=show Hid _ from (show Mm w0 ((R,[.int .i64 o.size,.int .i64 o.lim,.int .i64 ((o.sent:Nat):Int),.slice sb o.b.length cb,.slice sa o.b.length ca,.slice sh o.b.length ch])::((obs sb)++((obs sa)++((obs sh)++l)))) wr∧wr.ownsRow w0.heap.size 5 1 (.slice sb o.b.length cb) o.b.length (row .u8 o.b.length (bl o.b))∧wr.ownsRow w0.heap.size 4 1 (.slice sa o.b.length ca) o.b.length (brw o.b.length (oag o p L (i+1)))∧wr.ownsRow w0.heap.size 4 1 (.slice sh o.b.length ch) o.b.length (brw o.b.length (oah o p L (i+1)))∧Off XS w wr∧RgW wr L (.slice sl L.length cl) from ⟨M,V_b,V_a,V_h,OF,N_l⟩)
         clear M V_b V_a V_h OF N_l hak; go_wp2
         go_roundw
         case rel=>exact ⟨i+1,by omega,by go_num,HS.out⟩
         case measure=>simp [intOf]; omega
  · obtain rfl:i=o.sent:=by omega
    go_upto_region 1 with fail; refine wp_region_list ?_; refine xpL (.int .i64 ((o.sent:Nat):Int)) ?_; refine xpL (.pointer (some ⟨R,0,none⟩)) ?_; refine xpL (.pointer (some ⟨R,0,none⟩)) ?_; refine xpL (.pointer (some ⟨R,2,none⟩)) ?_; refine xaL (.int .i64 ((o.sent:Nat):Int)) (load1 3 _ ⟨R,2,none⟩ _ rfl rfl (fun _=>by kernel_rfl) (M.get mS 2 _ rfl)) ?_
    refine xaL (.bool false) (lssI .i64 _ _ _ _ _ _ rfl rfl rfl false (decide_eq_false (by omega)) _) ?_; refine xT ?_
    rw [hXS] at OF
    have HS:=show Hid _ from (And.intro M (And.intro V_b (And.intro V_a (And.intro V_h OF)))); clear M V_b V_a V_h OF N_l; go_wp2
    exact ⟨rfl,.tuple #[],by kernel_rfl,rfl,HS.out⟩
theorem bl_takeN {b:List Int} {k j:Nat} (h:j<k):bl (b.take k) j=bl b j:=by
 unfold bl
 rw [List.getD_eq_getElem?_getD,List.getD_eq_getElem?_getD,List.getElem?_take_of_lt h]
theorem owr_bl (o:Obx) (b:List Int) (j:Nat) (h:j<(owr o b).b.length):app (bl o.b) o.b.length (bl b) j=bl (owr o b).b j:=by
 show _=bl (o.b++b.take (owN o b.length)) j
 rw [owr_len] at h
 rw [bl_app]
 unfold app
 split
 · rfl
 · rw [bl_takeN (by omega)]
theorem ag_more {o:Obx} (h:ObxW o) {n:Nat} (hn:o.b.length≤n) (j:Nat):bput o.ag n false j=o.ag j:=by
 by_cases c:j=n
 · subst c
   rw [bput_same]
   cases e:o.ag j
   · rfl
   · have:=h.a1 j e
     have:=h.st
     omega
 · rw [bput_other c]
theorem he_more {o:Obx} (h:ObxW o) {n:Nat} (hn:o.b.length≤n) (j:Nat):bput o.he n false j=o.he j:=by
 by_cases c:j=n
 · subst c
   rw [bput_same]
   cases e:o.he j
   · rfl
   · have:=h.h1 j e
     have:=h.st
     omega
 · rw [bput_other c]
theorem dwrite_any (w0 w:World) (R:Nat) (l:List (Nat × List Value)) (o:Obx) (sb sa sh:Option Addr) (cb ca ch:Nat) (hw:ObxW o) (hln:o.b.length<1000000) (sp:Option Addr) (cap:Nat) (b:List Int) (hbl:b.length<1000000) (hcap:b.length≤cap) (hnil:sp=none→cap=0) (R_s:Src w sp b.length (bl b)) (M:Mm w0 ((R,dcs o sb sa sh cb ca ch)::(obs sb++(obs sa++(obs sh++l)))) w) (V_b:w.ownsRow w0.heap.size 5 1 (.slice sb o.b.length cb) o.b.length (row .u8 o.b.length (bl o.b))) (V_a:w.ownsRow w0.heap.size 4 1 (.slice sa o.b.length ca) o.b.length (brw o.b.length o.ag)) (V_h:w.ownsRow w0.heap.size 4 1 (.slice sh o.b.length ch) o.b.length (brw o.b.length o.he)) :
 Calls Try.prog 12 #[.pointer (some ⟨R,0,none⟩),.slice sp b.length cap] w fun e w'=>∃ sb' sa' sh' cb' ca' ch',e=.returned (.int .i64 ((owN o b.length:Nat):Int))∧Mm w0 ((R,dcs (owr o b) sb' sa' sh' cb' ca' ch')::(obs sb'++(obs sa'++(obs sh'++l)))) w'∧w'.ownsRow w0.heap.size 5 1 (.slice sb' (owr o b).b.length cb') (owr o b).b.length (row .u8 (owr o b).b.length (bl (owr o b).b))∧w'.ownsRow w0.heap.size 4 1 (.slice sa' (owr o b).b.length ca') (owr o b).b.length (brw (owr o b).b.length (owr o b).ag)∧w'.ownsRow w0.heap.size 4 1 (.slice sh' (owr o b).b.length ch') (owr o b).b.length (brw (owr o b).b.length (owr o b).he)∧Off (R::(ob sb++(ob sa++ob sh))) w w':=by
 replace M:Mm w0 ((R,[.int .i64 o.size,.int .i64 o.lim,.int .i64 ((o.sent:Nat):Int),.slice sb o.b.length cb,.slice sa o.b.length ca,.slice sh o.b.length ch])::((obs sb)++((obs sa)++((obs sh)++l)))) w:=M
 have hb0:=M.below
 obtain ⟨XS,hXS⟩:∃ X_,X_=(R::(ob sb++(ob sa++ob sh))):=⟨_,rfl⟩
 have hRX:R∈XS:=by rw [hXS]; simp
 have L_b:Lies XS w sb:=fun b_ hb_=>.inl (by rw [hXS]; simp [hb_])
 have L_a:Lies XS w sa:=fun b_ hb_=>.inl (by rw [hXS]; simp [hb_])
 have L_h:Lies XS w sh:=fun b_ hb_=>.inl (by rw [hXS]; simp [hb_])
 have OF:=Off.refl XS w; have hst:=hw.st; have hs1:=hw.s1; have hs2:=hw.s2; have hrm:=hw.rm; have hob:=obase_le o; have hnw:=owN_le o b.length
 go_enter Try.func12,Try.ntmps12
 go_upto_region 0 with fail; refine wp_region_list ?_; refine xpL (.int .i64 0) ?_; refine xT ?_; go_upto_region 1 with fail; have hdr:=(Below.refl w.heap.size w).drew; replace M:=M.drew; replace V_b:=ownsRow_bel V_b hdr; replace V_a:=ownsRow_bel V_a hdr; replace V_h:=ownsRow_bel V_h hdr; replace OF:=OF.below hdr; replace R_s:=R_s.below hdr (xnR _); clear hdr
 refine wp_region_held_drew (S:=fun w'=>Mm w0 [(R,[.int .i64 o.size,.int .i64 o.lim,.int .i64 ((o.sent:Nat):Int),.slice sb o.b.length cb,.slice sa o.b.length ca,.slice sh o.b.length ch])] w') (by kernel_rfl) (M.sub _ (List.cons_sublist_cons.2 (List.nil_sublist _))) ?_; intro _; generalize w.drew=w1 at M V_b V_a V_h OF R_s ⊢
 refine xrH 0 7 rfl (.slice sp b.length cap) (fun _ hS=>(by kernel_rfl)) (M.sub _ (List.cons_sublist_cons.2 (List.nil_sublist _))) ?_; refine xrH 1 8 rfl (.int .i64 ((b.length:Nat):Int)) (fun _ hS=>lenS _ 28 5 sp b.length cap rfl Try.underlying28 rfl _) (M.sub _ (List.cons_sublist_cons.2 (List.nil_sublist _))) ?_
 refine xrH 2 9 rfl (.pointer (some ⟨R,0,none⟩)) (fun _ hS=>(by kernel_rfl)) (M.sub _ (List.cons_sublist_cons.2 (List.nil_sublist _))) ?_; refine xrH 3 10 rfl (.pointer (some ⟨R,0,none⟩)) (fun _ hS=>(by kernel_rfl)) (M.sub _ (List.cons_sublist_cons.2 (List.nil_sublist _))) ?_
 refine xrH 4 11 rfl (.pointer (some ⟨R,0,none⟩)) (fun _ hS=>(by kernel_rfl)) (M.sub _ (List.cons_sublist_cons.2 (List.nil_sublist _))) ?_; refine xrH 5 12 rfl (.int .i64 o.size) (fun _ hS=>load1 3 _ ⟨R,0,none⟩ _ rfl rfl (fun _=>by kernel_rfl) (hS.get mS 0 _ rfl)) (M.sub _ (List.cons_sublist_cons.2 (List.nil_sublist _))) ?_
 refine xrH 6 13 rfl (.pointer (some ⟨R,0,none⟩)) (fun _ hS=>(by kernel_rfl)) (M.sub _ (List.cons_sublist_cons.2 (List.nil_sublist _))) ?_; refine xrH 7 14 rfl (.pointer (some ⟨R,0,none⟩)) (fun _ hS=>(by kernel_rfl)) (M.sub _ (List.cons_sublist_cons.2 (List.nil_sublist _))) ?_
 refine xrH 8 15 rfl (.pointer (some ⟨R,3,none⟩)) (fun _ hS=>(by kernel_rfl)) (M.sub _ (List.cons_sublist_cons.2 (List.nil_sublist _))) ?_; refine xrH 9 16 rfl (.slice sb o.b.length cb) (fun _ hS=>load1 28 _ ⟨R,3,none⟩ _ rfl rfl (fun _=>by kernel_rfl) (hS.get mS 3 _ rfl)) (M.sub _ (List.cons_sublist_cons.2 (List.nil_sublist _))) ?_
 refine xrH 10 17 rfl (.int .i64 ((o.b.length:Nat):Int)) (fun _ hS=>lenS _ 28 5 sb o.b.length cb rfl Try.underlying28 rfl _) (M.sub _ (List.cons_sublist_cons.2 (List.nil_sublist _))) ?_; refine xrH 11 18 rfl (.pointer (some ⟨R,0,none⟩)) (fun _ hS=>(by kernel_rfl)) (M.sub _ (List.cons_sublist_cons.2 (List.nil_sublist _))) ?_
 have key:=dbase_any w0 _ R _ o sb sa sh cb ca ch hw hln M V_b V_a V_h; refine callH (i:=12) (some 19) rfl (by kernel_rfl) rfl rfl (fun _=>by kernel_rfl) key ?_; clear key; rintro e w2 ⟨rfl,l_⟩; replace M:=M.call l_; replace V_b:=ownsRow_bel V_b l_; replace V_a:=ownsRow_bel V_a l_; replace V_h:=ownsRow_bel V_h l_; replace OF:=OF.below l_; replace R_s:=R_s.below l_ (xnR _)
 clear l_
 refine ⟨_,rfl,(M.sub _ (List.cons_sublist_cons.2 (List.nil_sublist _))),?_⟩
 simp only [aP,lI,l0,lS]; refine xrH 13 20 rfl (.int .i64 (((o.b.length:Nat):Int)-((obase o:Nat):Int))) (fun _ hS=>subI .i64 _ _ _ _ _ _ _ rfl rfl rfl (by rw [xw6]; omega) _) (M.sub _ (List.cons_sublist_cons.2 (List.nil_sublist _))) ?_
 refine xrH 14 21 rfl (.int .i64 (o.size-(((o.b.length:Nat):Int)-((obase o:Nat):Int)))) (fun _ hS=>subI .i64 _ _ _ _ _ _ _ rfl rfl rfl (by rw [xw6]; omega) _) (M.sub _ (List.cons_sublist_cons.2 (List.nil_sublist _))) ?_
 refine xrH 15 22 rfl (.int .i64 ((owN o b.length:Nat):Int)) (fun _ hS=>minI .i64 .i64 _ _ _ _ _ _ _ rfl rfl rfl (by unfold owN; split <;> omega) _) (M.sub _ (List.cons_sublist_cons.2 (List.nil_sublist _))) ?_; refine xrH 16 5 rfl (.int .i64 ((owN o b.length:Nat):Int)) (fun _ hS=>(by kernel_rfl)) (M.sub _ (List.cons_sublist_cons.2 (List.nil_sublist _))) ?_
 refine wpAnyH_done (by kernel_rfl) ?_ _
 first | show Exit.then _ _ _ _ _ | show Exit.inBlock _ _ _ _ _
 obtain ⟨spc,hcut,hsrc,hnil2⟩:=cut_hiN (P:=Try.prog) (t:=28) Try.underlying28 (fun w=>by kernel_rfl) sp b.length cap (owN o b.length) hnw hcap hnil
 go_upto_region 2 with fail; have hdr:=(Below.refl w2.heap.size w2).drew; replace M:=M.drew; replace V_b:=ownsRow_bel V_b hdr; replace V_a:=ownsRow_bel V_a hdr; replace V_h:=ownsRow_bel V_h hdr; replace OF:=OF.below hdr; replace R_s:=R_s.below hdr (xnR _); clear hdr
 refine wp_region_C (S:=fun w'=>Mm w0 [(R,[.int .i64 o.size,.int .i64 o.lim,.int .i64 ((o.sent:Nat):Int),.slice sb o.b.length cb,.slice sa o.b.length ca,.slice sh o.b.length ch])] w') 11 (by kernel_rfl) (M.sub _ (List.cons_sublist_cons.2 (List.nil_sublist _))) ?_; intro _; generalize w2.drew=w3 at M V_b V_a V_h OF R_s ⊢
 refine readC (i:=0) (some 23) rfl (.pointer (some ⟨R,0,none⟩)) rfl rfl (by kernel_rfl) rfl (fun _ hS=>(by kernel_rfl)) (by kernel_rfl) (by kernel_rfl) (by kernel_rfl) (by kernel_rfl) (fun _ _ _ h=>h) (M.sub _ (List.cons_sublist_cons.2 (List.nil_sublist _))) ?_; simp only [aP,lI,l0,lS]
 refine readC (i:=1) (some 24) rfl (.pointer (some ⟨R,0,none⟩)) rfl rfl (by kernel_rfl) rfl (fun _ hS=>(by kernel_rfl)) (by kernel_rfl) (by kernel_rfl) (by kernel_rfl) (by kernel_rfl) (fun _ _ _ h=>h) (M.sub _ (List.cons_sublist_cons.2 (List.nil_sublist _))) ?_; simp only [aP,lI,l0,lS]
 refine readC (i:=2) (some 25) rfl (.pointer (some ⟨R,0,none⟩)) rfl rfl (by kernel_rfl) rfl (fun _ hS=>(by kernel_rfl)) (by kernel_rfl) (by kernel_rfl) (by kernel_rfl) (by kernel_rfl) (fun _ _ _ h=>h) (M.sub _ (List.cons_sublist_cons.2 (List.nil_sublist _))) ?_; simp only [aP,lI,l0,lS]
 refine readC (i:=3) (some 26) rfl (.pointer (some ⟨R,3,none⟩)) rfl rfl (by kernel_rfl) rfl (fun _ hS=>(by kernel_rfl)) (by kernel_rfl) (by kernel_rfl) (by kernel_rfl) (by kernel_rfl) (fun _ _ _ h=>h) (M.sub _ (List.cons_sublist_cons.2 (List.nil_sublist _))) ?_; simp only [aP,lI,l0,lS]
 refine readC (i:=4) (some 27) rfl (.slice sb o.b.length cb) rfl rfl (by kernel_rfl) rfl (fun _ hS=>load1 28 _ ⟨R,3,none⟩ _ rfl rfl (fun _=>by kernel_rfl) (hS.get mS 3 _ rfl)) (by kernel_rfl) (by kernel_rfl) (by kernel_rfl) (by kernel_rfl) (fun _ _ _ h=>h) (M.sub _ (List.cons_sublist_cons.2 (List.nil_sublist _))) ?_; simp only [aP,lI,l0,lS]
 refine readC (i:=5) (some 28) rfl (.slice sp b.length cap) rfl rfl (by kernel_rfl) rfl (fun _ hS=>(by kernel_rfl)) (by kernel_rfl) (by kernel_rfl) (by kernel_rfl) (by kernel_rfl) (fun _ _ _ h=>h) (M.sub _ (List.cons_sublist_cons.2 (List.nil_sublist _))) ?_; simp only [aP,lI,l0,lS]
 refine readC (i:=6) (some 29) rfl (.int .i64 ((owN o b.length:Nat):Int)) rfl rfl (by kernel_rfl) rfl (fun _ hS=>(by kernel_rfl)) (by kernel_rfl) (by kernel_rfl) (by kernel_rfl) (by kernel_rfl) (fun _ _ _ h=>h) (M.sub _ (List.cons_sublist_cons.2 (List.nil_sublist _))) ?_; simp only [aP,lI,l0,lS]
 refine readC (i:=7) (some 30) rfl (.slice spc (owN o b.length) cap) rfl rfl (by kernel_rfl) rfl (fun _ hS=>cutHi 28 _ _ _ _ _ rfl rfl rfl (hcut _)) (by kernel_rfl) (by kernel_rfl) (by kernel_rfl) (by kernel_rfl) (fun _ _ _ h=>h) (M.sub _ (List.cons_sublist_cons.2 (List.nil_sublist _))) ?_; simp only [aP,lI,l0,lS]
 obtain ⟨v2,w4,hr,V2,hgr,hg2⟩:=run_append_Own (P:=Try.prog) (ty:=28) Try.underlying28 one8 V_b spc (owN o b.length) cap (bl b) (hsrc _ _ R_s) hnil2 (by unfold maxLen; omega) (by omega) (xnT hb0.size OF.size)
 have Mp:=M.perm (pull0 ([(R,[.int .i64 o.size,.int .i64 o.lim,.int .i64 ((o.sent:Nat):Int),.slice sb o.b.length cb,.slice sa o.b.length ca,.slice sh o.b.length ch])]:List (Nat × List Value)) (obs sb) ((obs sa)++((obs sh)++l))); have ho:=Off.grown (Off.refl (ob sb) w3) hgr (fun b_ hb_=>.inl ((ob_own _ _ _ b_).1 hb_))
 replace V_a:=ownsRow_away V_a ho (Mp.awayO (fun p_ hp_=>by simp [hp_])); replace V_h:=ownsRow_away V_h ho (Mp.awayO (fun p_ hp_=>by simp [hp_]))
 obtain ⟨sv4,cv4,rfl,_,_⟩:=row_form16 V2
 have L2:=L_b.grown hg2 OF.size; replace OF:=OF.grown hgr (fun b_ hb_=>L_b b_ ((ob_own _ _ _ b_).1 hb_))
 have M':=Mp.rowApp V_b hgr V2 hg2 (xnR _)
 clear M Mp ho hgr hg2 V_b L_b; have L_b:=L2; clear L2
 have M:Mm w0 ((R,[.int .i64 o.size,.int .i64 o.lim,.int .i64 ((o.sent:Nat):Int),.slice sb o.b.length cb,.slice sa o.b.length ca,.slice sh o.b.length ch])::((obs sv4)++((obs sa)++((obs sh)++l)))) w4:=M'.perm (pull0 ([(R,[.int .i64 o.size,.int .i64 o.lim,.int .i64 ((o.sent:Nat):Int),.slice sb o.b.length cb,.slice sa o.b.length ca,.slice sh o.b.length ch])]:List (Nat × List Value)) (obs sv4) ((obs sa)++((obs sh)++l))).symm
 clear M'; refine onlyC (i:=8) (some 31) rfl (_) (by kernel_rfl) rfl rfl (appendOp _ _ 28 _ _ _ rfl rfl rfl hr) (M.sub _ (List.cons_sublist_cons.2 (List.nil_sublist _))) ?_; simp only [aP,lI,l0,lS]; clear hr
 rw [show o.b.length+owN o b.length=(owr o b).b.length from (owr_len o b).symm] at V2 ⊢
 replace V2:=Own.congr V2 (fun j hj=>owr_bl o b j hj); clear R_s
 replace V2:w4.ownsRow w0.heap.size 5 1 (.slice sv4 ((owr o b).b.length) cv4) ((owr o b).b.length) (row .u8 (owr o b).b.length (bl (owr o b).b)):=V2
 have V_b:=V2; clear V2; refine xqC 9 32 rfl (.pointer (some ⟨R,0,none⟩)) (fun _=>(by kernel_rfl)) (M.sub _ (List.cons_sublist_cons.2 (List.nil_sublist _))) ?_
 refine readC (i:=10) (some 33) rfl (.pointer (some ⟨R,3,none⟩)) rfl rfl (by kernel_rfl) rfl (fun _ hS=>(by kernel_rfl)) (by kernel_rfl) (by kernel_rfl) (by kernel_rfl) (by kernel_rfl) (fun _ _ _ h=>h) (M.sub _ (List.cons_sublist_cons.2 (List.nil_sublist _))) ?_; simp only [aP,lI,l0,lS]
 refine skipC (S2:=fun _=>True) none rfl (by kernel_rfl) rfl rfl (storeAny (.slice sv4 ((owr o b).b.length) cv4) R 3 28 _ _ rfl rfl rfl rfl rfl (M.isSome mS 3 (by simp)) (M.free mS 3 (by simp)) (by kernel_rfl)) (by kernel_rfl) ?_; simp only [Act.put]; replace M:=M.set 3 (by simp) (.slice sv4 ((owr o b).b.length) cv4)
 replace V_b:=ownsRow_away V_b ((Off.refl [R] _).set (b:=R) mS 3 (.slice sv4 ((owr o b).b.length) cv4)) (fun b_ hb_=>by obtain rfl:=xm1 hb_; exact M.awayB (fun p_ hp_=>by simp [hp_])); replace V_a:=ownsRow_away V_a ((Off.refl [R] _).set (b:=R) mS 3 (.slice sv4 ((owr o b).b.length) cv4)) (fun b_ hb_=>by obtain rfl:=xm1 hb_; exact M.awayB (fun p_ hp_=>by simp [hp_]))
 replace V_h:=ownsRow_away V_h ((Off.refl [R] _).set (b:=R) mS 3 (.slice sv4 ((owr o b).b.length) cv4)) (fun b_ hb_=>by obtain rfl:=xm1 hb_; exact M.awayB (fun p_ hp_=>by simp [hp_])); replace OF:=OF.and1 ((Off.refl [R] _).set (b:=R) mS 3 (.slice sv4 ((owr o b).b.length) cv4)) (.inl hRX)
 generalize w4.setCell ⟨R,3,none⟩ (.slice sv4 ((owr o b).b.length) cv4)=w5 at M V_b V_a V_h OF ⊢
 replace M:Mm w0 ((R,[.int .i64 o.size,.int .i64 o.lim,.int .i64 ((o.sent:Nat):Int),.slice sv4 ((owr o b).b.length) cv4,.slice sa o.b.length ca,.slice sh o.b.length ch])::((obs sv4)++((obs sa)++((obs sh)++l)))) w5:=M
 refine wpAnyH_done (by kernel_rfl) ?_ _
 first | show Exit.then _ _ _ _ _ | show Exit.inBlock _ _ _ _ _
 clear hcut hsrc; go_upto_region 3 with fail; refine wp_region_list ?_; refine xpL (.int .i64 0) ?_; refine xT ?_
 replace M:Mm w0 ((R,[.int .i64 o.size,.int .i64 o.lim,.int .i64 ((o.sent:Nat):Int),.slice sv4 ((owr o b).b.length) cv4,.slice sa (o.b.length+0) ca,.slice sh o.b.length ch])::((obs sv4)++((obs sa)++((obs sh)++l)))) w5:=M
 replace M:Mm w0 ((R,[.int .i64 o.size,.int .i64 o.lim,.int .i64 ((o.sent:Nat):Int),.slice sv4 ((owr o b).b.length) cv4,.slice sa (o.b.length+0) ca,.slice sh (o.b.length+0) ch])::((obs sv4)++((obs sa)++((obs sh)++l)))) w5:=M
 have HI:=show Hid _ from (show Mm w0 ((R,[.int .i64 o.size,.int .i64 o.lim,.int .i64 ((o.sent:Nat):Int),.slice sv4 ((owr o b).b.length) cv4,.slice sa (o.b.length+0) ca,.slice sh (o.b.length+0) ch])::((obs sv4)++((obs sa)++((obs sh)++l)))) w5∧w5.ownsRow w0.heap.size 5 1 (.slice sv4 ((owr o b).b.length) cv4) ((owr o b).b.length) (row .u8 (owr o b).b.length (bl (owr o b).b))∧w5.ownsRow w0.heap.size 4 1 (.slice sa (o.b.length+0) ca) (o.b.length+0) (brw (o.b.length+0) o.ag)∧w5.ownsRow w0.heap.size 4 1 (.slice sh (o.b.length+0) ch) (o.b.length+0) (brw (o.b.length+0) o.he)∧Lies XS w sa∧Lies XS w sh∧Off XS w w5 from ⟨M,V_b,V_a,V_h,L_a,L_h,OF⟩)
 clear M V_b V_a V_h L_a L_h OF; go_wp2
 go_loopw [6] (fun i w'=>∃ (i':Nat) (sa sh:Option Addr) (ca ch:Nat),i'≤owN o b.length∧i=.int .i64 (i':Int)∧Mm w0 ((R,[.int .i64 o.size,.int .i64 o.lim,.int .i64 ((o.sent:Nat):Int),.slice sv4 ((owr o b).b.length) cv4,.slice sa (o.b.length+i') ca,.slice sh (o.b.length+i') ch])::((obs sv4)++((obs sa)++((obs sh)++l)))) w'∧w'.ownsRow w0.heap.size 5 1 (.slice sv4 ((owr o b).b.length) cv4) ((owr o b).b.length) (row .u8 (owr o b).b.length (bl (owr o b).b))∧w'.ownsRow w0.heap.size 4 1 (.slice sa (o.b.length+i') ca) (o.b.length+i') (brw (o.b.length+i') o.ag)∧w'.ownsRow w0.heap.size 4 1 (.slice sh (o.b.length+i') ch) (o.b.length+i') (brw (o.b.length+i') o.he)∧Lies XS w sa∧Lies XS w sh∧Off XS w w') (fun i _=>owN o b.length-(intOf i).toNat)
 case atStart=>exact ⟨0,_,_,_,_,Nat.zero_le _,rfl,HI.out⟩
 case round =>
  clear HI
  obtain ⟨i,sa',sh',ca',ch',hi,rfl,M,V_b,V_a,V_h,L_a,L_h,OF⟩:=hrel
  by_cases hil:i<owN o b.length
  · go_upto_region 4 with fail
    refine wp_region_list ?_; refine xpL (.int .i64 (i:Int)) ?_; refine xpL (.int .i64 ((owN o b.length:Nat):Int)) ?_; refine xaL (.bool true) (lssI .i64 _ _ _ _ _ _ rfl rfl rfl true (decide_eq_true (by omega)) _) ?_; refine xT ?_; go_upto_region 6 with fail; refine wp_region_list ?_; refine xpL (.pointer (some ⟨R,0,none⟩)) ?_; refine xpL (.pointer (some ⟨R,0,none⟩)) ?_
    refine xpL (.pointer (some ⟨R,0,none⟩)) ?_; refine xpL (.pointer (some ⟨R,4,none⟩)) ?_; refine xaL (.slice sa' (o.b.length+i) ca') (load1 43 _ ⟨R,4,none⟩ _ rfl rfl (fun _=>by kernel_rfl) (M.get mS 4 _ rfl)) ?_; have hlb:=(Below.refl wr.heap.size wr).alloc (xnR _) (.cells #[.bool false] 4)
    have T_6:=World.ownsRow.cells (World.ownsRow_lit (base:=wr.heap.size) (e:=4) (size:=1) wr #[.bool false] 1 (xnR _) (by unfold maxLen; omega) rfl) (g:=wr.heap.size) rfl; replace V_b:=ownsRow_bel V_b hlb; replace V_a:=ownsRow_bel V_a hlb; replace V_h:=ownsRow_bel V_h hlb; replace OF:=OF.below hlb; replace M:=M.call hlb; clear hlb
    refine actL (w':=wr.alloc (.cells #[.bool false] 4)) (.slice (some ⟨wr.heap.size,0,none⟩) 1 1) rfl (by kernel_rfl) ?_; simp only [aP,lI,l0,lS]; generalize wr.alloc (.cells #[.bool false] 4)=w6 at M T_6 V_b V_a V_h OF ⊢; generalize wr.heap.size=bz6 at T_6 ⊢
    obtain ⟨v2,w7,hr,V2,hgr,hg2⟩:=run_append_OwnV (P:=Try.prog) (ty:=43) Try.underlying43 manyB rfl (by decide) V_a ⟨bz6,0,none⟩ 1 1 [.bool false] rfl T_6 (by intro u hu; obtain rfl:=xm1 hu; rfl) (by unfold maxLen; skip; omega) (by skip; omega) (xnT hb0.size OF.size)
    have Mp:=M.perm (pull1 ([(R,[.int .i64 o.size,.int .i64 o.lim,.int .i64 ((o.sent:Nat):Int),.slice sv4 ((owr o b).b.length) cv4,.slice sa' (o.b.length+i) ca',.slice sh' (o.b.length+i) ch'])]:List (Nat × List Value)) (obs sv4) (obs sa') ((obs sh')++l)); have ho:=Off.grown (Off.refl (ob sa') w6) hgr (fun b_ hb_=>.inl ((ob_own _ _ _ b_).1 hb_))
    replace V_b:=ownsRow_away V_b ho (Mp.awayO (fun p_ hp_=>by simp [hp_])); replace V_h:=ownsRow_away V_h ho (Mp.awayO (fun p_ hp_=>by simp [hp_]))
    obtain ⟨sv7,cv7,rfl,_,_⟩:=row_form16 V2
    have L2:=L_a.grown hg2 OF.size; replace OF:=OF.grown hgr (fun b_ hb_=>L_a b_ ((ob_own _ _ _ b_).1 hb_))
    have M':=Mp.rowApp V_a hgr V2 hg2 (xnR _)
    clear M Mp ho hgr hg2 V_a L_a; have L_a:=L2; clear L2
    have M:Mm w0 ((R,[.int .i64 o.size,.int .i64 o.lim,.int .i64 ((o.sent:Nat):Int),.slice sv4 ((owr o b).b.length) cv4,.slice sa' (o.b.length+i) ca',.slice sh' (o.b.length+i) ch'])::((obs sv4)++((obs sv7)++((obs sh')++l)))) w7:=M'.perm (pull1 ([(R,[.int .i64 o.size,.int .i64 o.lim,.int .i64 ((o.sent:Nat):Int),.slice sv4 ((owr o b).b.length) cv4,.slice sa' (o.b.length+i) ca',.slice sh' (o.b.length+i) ch'])]:List (Nat × List Value)) (obs sv4) (obs sv7) ((obs sh')++l)).symm
    clear M'; refine xaL (_) (appendOp _ _ 43 _ _ _ rfl rfl rfl hr) ?_; clear hr
    rw [brw_snoc] at V2
    replace V2:w7.ownsRow w0.heap.size 4 1 (.slice sv7 ((o.b.length+i)+1) cv7) ((o.b.length+i)+1) (brw ((o.b.length+i)+1) (bput o.ag (o.b.length+i) false)):=V2
    have V_a:=V2; clear V2; clear T_6; refine xpL (.pointer (some ⟨R,0,none⟩)) ?_; refine xpL (.pointer (some ⟨R,4,none⟩)) ?_; refine skipOpL rfl (storeAny (.slice sv7 ((o.b.length+i)+1) cv7) R 4 43 _ _ rfl rfl rfl rfl rfl (M.isSome mS 4 (by simp)) (M.free mS 4 (by simp)) (by kernel_rfl)) ?_; simp only [Act.put]; replace M:=M.set 4 (by simp) (.slice sv7 ((o.b.length+i)+1) cv7)
    replace V_b:=ownsRow_away V_b ((Off.refl [R] _).set (b:=R) mS 4 (.slice sv7 ((o.b.length+i)+1) cv7)) (fun b_ hb_=>by obtain rfl:=xm1 hb_; exact M.awayB (fun p_ hp_=>by simp [hp_])); replace V_a:=ownsRow_away V_a ((Off.refl [R] _).set (b:=R) mS 4 (.slice sv7 ((o.b.length+i)+1) cv7)) (fun b_ hb_=>by obtain rfl:=xm1 hb_; exact M.awayB (fun p_ hp_=>by simp [hp_]))
    replace V_h:=ownsRow_away V_h ((Off.refl [R] _).set (b:=R) mS 4 (.slice sv7 ((o.b.length+i)+1) cv7)) (fun b_ hb_=>by obtain rfl:=xm1 hb_; exact M.awayB (fun p_ hp_=>by simp [hp_])); replace OF:=OF.and1 ((Off.refl [R] _).set (b:=R) mS 4 (.slice sv7 ((o.b.length+i)+1) cv7)) (.inl hRX)
    generalize w7.setCell ⟨R,4,none⟩ (.slice sv7 ((o.b.length+i)+1) cv7)=w8 at M V_b V_a V_h OF L_b L_a L_h ⊢
    replace M:Mm w0 ((R,[.int .i64 o.size,.int .i64 o.lim,.int .i64 ((o.sent:Nat):Int),.slice sv4 ((owr o b).b.length) cv4,.slice sv7 ((o.b.length+i)+1) cv7,.slice sh' (o.b.length+i) ch'])::((obs sv4)++((obs sv7)++((obs sh')++l)))) w8:=M
    refine xT ?_
    rw [brw_congr (fun j _=>ag_more hw (show o.b.length≤o.b.length+i by omega) j)] at V_a
    replace M:Mm w0 ((R,[.int .i64 o.size,.int .i64 o.lim,.int .i64 ((o.sent:Nat):Int),.slice sv4 ((owr o b).b.length) cv4,.slice sv7 (o.b.length+(i+1)) cv7,.slice sh' (o.b.length+i) ch'])::((obs sv4)++((obs sv7)++((obs sh')++l)))) w8:=M
    go_upto_region 7 with fail; refine wp_region_list ?_; refine xpL (.pointer (some ⟨R,0,none⟩)) ?_; refine xpL (.pointer (some ⟨R,0,none⟩)) ?_; refine xpL (.pointer (some ⟨R,0,none⟩)) ?_; refine xpL (.pointer (some ⟨R,5,none⟩)) ?_; refine xaL (.slice sh' (o.b.length+i) ch') (load1 43 _ ⟨R,5,none⟩ _ rfl rfl (fun _=>by kernel_rfl) (M.get mS 5 _ rfl)) ?_
    have hlb:=(Below.refl w8.heap.size w8).alloc (xnR _) (.cells #[.bool false] 4); have T_9:=World.ownsRow.cells (World.ownsRow_lit (base:=w8.heap.size) (e:=4) (size:=1) w8 #[.bool false] 1 (xnR _) (by unfold maxLen; omega) rfl) (g:=w8.heap.size) rfl; replace V_b:=ownsRow_bel V_b hlb; replace V_a:=ownsRow_bel V_a hlb; replace V_h:=ownsRow_bel V_h hlb; replace OF:=OF.below hlb
    replace M:=M.call hlb; clear hlb; refine actL (w':=w8.alloc (.cells #[.bool false] 4)) (.slice (some ⟨w8.heap.size,0,none⟩) 1 1) rfl (by kernel_rfl) ?_; simp only [aP,lI,l0,lS]; generalize w8.alloc (.cells #[.bool false] 4)=w9 at M T_9 V_b V_a V_h OF ⊢; generalize w8.heap.size=bz9 at T_9 ⊢
    obtain ⟨v2,w10,hr,V2,hgr,hg2⟩:=run_append_OwnV (P:=Try.prog) (ty:=43) Try.underlying43 manyB rfl (by decide) V_h ⟨bz9,0,none⟩ 1 1 [.bool false] rfl T_9 (by intro u hu; obtain rfl:=xm1 hu; rfl) (by unfold maxLen; skip; omega) (by skip; omega) (xnT hb0.size OF.size)
    have Mp:=M.perm (pull2 ([(R,[.int .i64 o.size,.int .i64 o.lim,.int .i64 ((o.sent:Nat):Int),.slice sv4 ((owr o b).b.length) cv4,.slice sv7 (o.b.length+(i+1)) cv7,.slice sh' (o.b.length+i) ch'])]:List (Nat × List Value)) (obs sv4) (obs sv7) (obs sh') l); have ho:=Off.grown (Off.refl (ob sh') w9) hgr (fun b_ hb_=>.inl ((ob_own _ _ _ b_).1 hb_))
    replace V_b:=ownsRow_away V_b ho (Mp.awayO (fun p_ hp_=>by simp [hp_])); replace V_a:=ownsRow_away V_a ho (Mp.awayO (fun p_ hp_=>by simp [hp_]))
    obtain ⟨sv10,cv10,rfl,_,_⟩:=row_form16 V2
    have L2:=L_h.grown hg2 OF.size; replace OF:=OF.grown hgr (fun b_ hb_=>L_h b_ ((ob_own _ _ _ b_).1 hb_))
    have M':=Mp.rowApp V_h hgr V2 hg2 (xnR _)
    clear M Mp ho hgr hg2 V_h L_h; have L_h:=L2; clear L2
    have M:Mm w0 ((R,[.int .i64 o.size,.int .i64 o.lim,.int .i64 ((o.sent:Nat):Int),.slice sv4 ((owr o b).b.length) cv4,.slice sv7 (o.b.length+(i+1)) cv7,.slice sh' (o.b.length+i) ch'])::((obs sv4)++((obs sv7)++((obs sv10)++l)))) w10:=M'.perm (pull2 ([(R,[.int .i64 o.size,.int .i64 o.lim,.int .i64 ((o.sent:Nat):Int),.slice sv4 ((owr o b).b.length) cv4,.slice sv7 (o.b.length+(i+1)) cv7,.slice sh' (o.b.length+i) ch'])]:List (Nat × List Value)) (obs sv4) (obs sv7) (obs sv10) l).symm
    clear M'; refine xaL (_) (appendOp _ _ 43 _ _ _ rfl rfl rfl hr) ?_; clear hr
    rw [brw_snoc] at V2
    replace V2:w10.ownsRow w0.heap.size 4 1 (.slice sv10 ((o.b.length+i)+1) cv10) ((o.b.length+i)+1) (brw ((o.b.length+i)+1) (bput o.he (o.b.length+i) false)):=V2
    have V_h:=V2; clear V2; clear T_9; refine xpL (.pointer (some ⟨R,0,none⟩)) ?_; refine xpL (.pointer (some ⟨R,5,none⟩)) ?_; refine skipOpL rfl (storeAny (.slice sv10 ((o.b.length+i)+1) cv10) R 5 43 _ _ rfl rfl rfl rfl rfl (M.isSome mS 5 (by simp)) (M.free mS 5 (by simp)) (by kernel_rfl)) ?_; simp only [Act.put]; replace M:=M.set 5 (by simp) (.slice sv10 ((o.b.length+i)+1) cv10)
    replace V_b:=ownsRow_away V_b ((Off.refl [R] _).set (b:=R) mS 5 (.slice sv10 ((o.b.length+i)+1) cv10)) (fun b_ hb_=>by obtain rfl:=xm1 hb_; exact M.awayB (fun p_ hp_=>by simp [hp_])); replace V_a:=ownsRow_away V_a ((Off.refl [R] _).set (b:=R) mS 5 (.slice sv10 ((o.b.length+i)+1) cv10)) (fun b_ hb_=>by obtain rfl:=xm1 hb_; exact M.awayB (fun p_ hp_=>by simp [hp_]))
    replace V_h:=ownsRow_away V_h ((Off.refl [R] _).set (b:=R) mS 5 (.slice sv10 ((o.b.length+i)+1) cv10)) (fun b_ hb_=>by obtain rfl:=xm1 hb_; exact M.awayB (fun p_ hp_=>by simp [hp_])); replace OF:=OF.and1 ((Off.refl [R] _).set (b:=R) mS 5 (.slice sv10 ((o.b.length+i)+1) cv10)) (.inl hRX)
    generalize w10.setCell ⟨R,5,none⟩ (.slice sv10 ((o.b.length+i)+1) cv10)=w11 at M V_b V_a V_h OF L_b L_a L_h ⊢
    replace M:Mm w0 ((R,[.int .i64 o.size,.int .i64 o.lim,.int .i64 ((o.sent:Nat):Int),.slice sv4 ((owr o b).b.length) cv4,.slice sv7 (o.b.length+(i+1)) cv7,.slice sv10 ((o.b.length+i)+1) cv10])::((obs sv4)++((obs sv7)++((obs sv10)++l)))) w11:=M
    refine xT ?_
    rw [brw_congr (fun j _=>he_more hw (show o.b.length≤o.b.length+i by omega) j)] at V_h
    replace M:Mm w0 ((R,[.int .i64 o.size,.int .i64 o.lim,.int .i64 ((o.sent:Nat):Int),.slice sv4 ((owr o b).b.length) cv4,.slice sv7 (o.b.length+(i+1)) cv7,.slice sv10 (o.b.length+(i+1)) cv10])::((obs sv4)++((obs sv7)++((obs sv10)++l)))) w11:=M
    have HS:=show Hid _ from (show Mm w0 ((R,[.int .i64 o.size,.int .i64 o.lim,.int .i64 ((o.sent:Nat):Int),.slice sv4 ((owr o b).b.length) cv4,.slice sv7 (o.b.length+(i+1)) cv7,.slice sv10 (o.b.length+(i+1)) cv10])::((obs sv4)++((obs sv7)++((obs sv10)++l)))) w11∧w11.ownsRow w0.heap.size 5 1 (.slice sv4 ((owr o b).b.length) cv4) ((owr o b).b.length) (row .u8 (owr o b).b.length (bl (owr o b).b))∧w11.ownsRow w0.heap.size 4 1 (.slice sv7 (o.b.length+(i+1)) cv7) (o.b.length+(i+1)) (brw (o.b.length+(i+1)) o.ag)∧w11.ownsRow w0.heap.size 4 1 (.slice sv10 (o.b.length+(i+1)) cv10) (o.b.length+(i+1)) (brw (o.b.length+(i+1)) o.he)∧Lies XS w sv7∧Lies XS w sv10∧Off XS w w11 from ⟨M,V_b,V_a,V_h,L_a,L_h,OF⟩)
    clear M V_b V_a V_h L_a L_h OF; go_wp2
    go_roundw
    case rel=>exact ⟨i+1,_,_,_,_,by omega,by go_num,HS.out⟩
    case measure=>simp [intOf]; omega
  · obtain rfl:i=owN o b.length:=by omega
    go_upto_region 4 with fail; refine wp_region_list ?_; refine xpL (.int .i64 ((owN o b.length:Nat):Int)) ?_; refine xpL (.int .i64 ((owN o b.length:Nat):Int)) ?_; refine xaL (.bool false) (lssI .i64 _ _ _ _ _ _ rfl rfl rfl false (decide_eq_false (by omega)) _) ?_; refine xT ?_; go_upto_region 8 with fail; refine wp_region_list ?_
    refine xpL (.int .i64 ((owN o b.length:Nat):Int)) ?_; refine xpL (.int .i64 ((owN o b.length:Nat):Int)) ?_; refine xT ?_
    rw [show o.b.length+owN o b.length=(owr o b).b.length from (owr_len o b).symm] at M V_a V_h
    rw [hXS] at OF
    have HS:=show Hid _ from (And.intro M (And.intro V_b (And.intro V_a (And.intro V_h OF)))); clear M V_b V_a V_h OF; go_wp2; go_ret
    first | exact ⟨_,_,_,_,_,_,rfl,HS.out⟩ | exact ⟨rfl,_,_,_,_,_,_,HS.out⟩
end Go.Proofs.Ytpdpfdelglgfnaa
