/- Texts of Tq Tr Tk Ts, joined. -/
import Derived.Test.YtcjahbdlaojnoaaP5InboxPlays
set_option maxRecDepth 20000
set_option maxHeartbeats 64000000
namespace Go.Proofs.Ytcjahbdlaojnoaa
open Go.RowKit
section
section
variable {P:Program} {o:Oper} {a:Act}
theorem copyOp17 {w w':World} (s x:Operand) (t u:TypeId) (v y r:Value) (ho:o.op=.call { callee:=.builtin .copy,args:=#[s,x],argTypes:=#[t,u] }) (hs:a.eval s=v) (hx:a.eval x=y) {ty:TypeId} (hr:(Builtin.copy_ #[t,u] ty #[v,y]).run P w=.ok r w') :
 (execOp a.eval o).run P w=.ok (.value r) w':=by
 have hr':(Builtin.copy_ #[t,u] o.type #[v,y]).run P w=.ok r w':=hr
 unfold execOp
 simp only [ho,resolve,invoke,builtin,Sem.run_bind,Sem.run_pure,Result.andThen_ok,List.map_toArray,List.map_cons,List.map_nil,hs,hx,hr']
theorem clearOp17 {w w':World} (s:Operand) (t:TypeId) (v r:Value) (ho:o.op=.call { callee:=.builtin .clear,args:=#[s],argTypes:=#[t] }) (hs:a.eval s=v) {ty:TypeId} (hr:(Builtin.clear_ #[t] ty #[v]).run P w=.ok r w') :
 (execOp a.eval o).run P w=.ok (.value r) w':=by
 have hr':(Builtin.clear_ #[t] o.type #[v]).run P w=.ok r w':=hr
 unfold execOp
 simp only [ho,resolve,invoke,builtin,Sem.run_bind,Sem.run_pure,Result.andThen_ok,List.map_toArray,List.map_cons,List.map_nil,hs,hr']
theorem appN17 {w w':World} (s x:Operand) (t u:TypeId) (v y r:Value) (ho:o.op=.call { callee:=.builtin .append,args:=#[s,x],argTypes:=#[t,u] }) (hs:a.eval s=v) (hx:a.eval x=y) {ty:TypeId} (hr:(Builtin.append_ #[t,u] ty #[v,y]).run P w=.ok r w') :
 (execOp a.eval o).run P w=.ok (.value r) w':=by
 have hr':(Builtin.append_ #[t,u] o.type #[v,y]).run P w=.ok r w':=hr
 unfold execOp
 simp only [ho,resolve,invoke,builtin,Sem.run_bind,Sem.run_pure,Result.andThen_ok,List.map_toArray,List.map_cons,List.map_nil,hs,hx,hr']
theorem capS17 (x:Operand) (t e:TypeId) (sp:Option Addr) (n c:Nat) (ho:o.op=.call { callee:=.builtin .cap,args:=#[x],argTypes:=#[t] }) (ht:P.underlying t=some (.slice e)) (hx:a.eval x=.slice sp n c) (w:World):(execOp a.eval o).run P w=.ok (.value (.int .i64 (c:Int))) w:=by
 simp [execOp,ho,resolve,invoke,builtin,hx,Builtin.cap_,run_underlying ht,goInt]
theorem sl_h0 {t:TypeId} (ht:P.underlying t=some (.slice (P.elem t))) (hsz:∀ w,(sizeOf (P.elem t)).run P w=.ok 2 w) (g n cap h:Nat) (hh:h≤cap) (w:World):(Instr.sliceAt t (.slice (some ⟨g,0,none⟩) n cap) none (some (.int .i64 (h:Int))) none).run P w=.ok (.slice (some ⟨g,0,none⟩) h cap) w:=by
 rw [sl_h ht hsz (some ⟨g,0,none⟩) n cap h hh w,slp_0]
end
theorem callX17 {o:Oper} {a:Act} {w:World} (f:FuncId) (x y:Operand) (p q r:Value) (ts:Array TypeId) (ho:o.op=.call { callee:=.value (.func f),args:=#[x,y],argTypes:=ts }) (hx:a.eval x=p) (hy:a.eval y=q) (hf:f=50:=by rfl) (hr:(Extern.SlicesOverlaps.overlaps #[39,39] #[4] #[p,q]).run Try.prog w=.ok r w) :
 (execOp a.eval o).run Try.prog w=.ok (.value r) w:=by
 subst hf
 have hc:(callFunc 50 #[p,q]).run Try.prog w=.ok (.value r) w:=by
  rw [run_callFunc_extern Try.func50 (by kernel_rfl) (by kernel_rfl) (by kernel_rfl) (e:=Extern.SlicesOverlaps.overlaps #[39,39] #[4]) (by kernel_rfl),hr]
  rfl
 have he:a.eval (.func 50)=.func (.func 50) #[] #[]:=rfl
 unfold execOp
 simp only [ho,resolve,invoke,Deferred.ofValue,Sem.run_bind,Sem.run_pure,Result.andThen_ok,List.map_toArray,List.map_cons,List.map_nil,hx,hy,he]
 exact hc
def Rep17 (w:World) (sp:Option Addr) (R:Rgs17) (e:Ending) (w':World):Prop:=∃ sq cq,e=.returned (.slice sq R.length cq)∧w'.ownsRow 0 44 2 (.slice sq R.length cq) R.length (wrc R)∧w.grownBy w' (sp.map (·.block))∧∀ b∈ob sq,b∈ob sp∨w.heap.size≤b
theorem Rep17.of {w w':World} {sp:Option Addr} {g cap:Nat} {cs:List Value} {R:Rgs17} (h:Blk w' 44 g cap cs) (hp:wrc R <+: cs) {k:Nat} (hk:k=R.length) (hc:R.length≤cap) (hg:w.grownBy w' (some g)) (hs:sp=some ⟨g,0,none⟩:=by rfl):Rep17 w sp R (.returned (.slice (some ⟨g,0,none⟩) k cap)) w':=by
 subst hk hs
 exact ⟨_,_,rfl,h.owns hp (wrc_len R) hc,hg,fun b hb=>.inl hb⟩
theorem Rep17.new {w w':World} {sp:Option Addr} {g g2 cap:Nat} {cs:List Value} {R:Rgs17} (h:Blk w' 44 g2 cap cs) (hp:wrc R <+: cs) {k:Nat} (hk:k=R.length) (hc:R.length≤cap) (hg:w.grownBy w' (some g)) (h2:w.heap.size≤g2) (hs:sp=some ⟨g,0,none⟩:=by rfl):Rep17 w sp R (.returned (.slice (some ⟨g2,0,none⟩) k cap)) w':=by
 subst hk hs
 exact ⟨_,_,rfl,h.owns hp (wrc_len R) hc,hg,fun b hb=>.inr (by obtain rfl:=xm1 hb; exact h2)⟩
theorem wrc_cell {w:World} {e:TypeId} {g cap:Nat} {cs:List Value} (h:Blk w e g cap cs) {vs:List Value} {o:Nat} (hv:∀ j u,vs[j]?=some u→cs[o+j]?=some u):∀ j u,vs[j]?=some u→w.cell? ((⟨g,o,none⟩:Addr).add j)=some u:=fun j u hu=>by
 rw [Addr.add_mid]
 exact h.cell (hv j u hu)
theorem get_left {a b:List Value} {k:Nat} {u:Value} (h:a[k]?=some u):(a++b)[k]?=some u:=by
 rw [List.getElem?_append_left (List.getElem?_eq_some_iff.1 h).1]
 exact h
theorem dp_read {L:Rgs17} {j:Nat} {ys:List Value} (hj:j≤L.length):∀ k u,(wrc (L.drop j))[k]?=some u→(wrc L++ys)[j*2+k]?=some u:=fun k u hu=>by
 rw [dp_get hj,Nat.add_comm] at hu
 exact get_left hu
theorem vins_end (w:World) (L V:Rgs17) (sp:Option Addr) (cap vb vc:Nat) (hln:L.length<1000000) (hv:V.length≤2) (hv0:0<V.length) (O_:w.ownsRow 0 44 2 (.slice sp L.length cap) L.length (wrc L)) (V_:w.ownsRow 0 44 2 (.slice (some ⟨vb,0,none⟩) V.length vc) V.length (wrc V)) :
 Calls Try.prog 49 #[.slice sp L.length cap,.int .i64 ((L.length:Nat):Int),.slice (some ⟨vb,0,none⟩) V.length vc] w fun e w'=>Rep17 w sp (L.take L.length++(V++L.drop L.length)) e w':=by
 go_enter Try.func49,Try.ntmps49
 go_upto_region 0 with fail; refine wp_region_list ?_; refine xpL (.slice none 0 0) ?_; refine xT ?_; go_upto_region 1 with fail; refine wp_region_list ?_; refine xpL (.slice sp L.length cap) ?_; refine xpL (.int .i64 ((L.length:Nat):Int)) ?_
 refine xaL (.slice (slp sp cap L.length) (L.length-L.length) (cap-L.length)) (cutOp _ _ _ _ _ _ rfl rfl rfl (sl_l (P:=Try.prog) (t:=39) (by kernel_rfl) (fun _=>by kernel_rfl) sp L.length cap L.length (by omega) _)) ?_; refine xT ?_; go_upto_region 2 with fail; refine wp_region_list ?_; refine xpL (.slice (some ⟨vb,0,none⟩) V.length vc) ?_
 refine xaL (.int .i64 ((V.length:Nat):Int)) (lenS _ 39 44 (some ⟨vb,0,none⟩) V.length vc rfl Try.underlying39 rfl _) ?_; refine xpL (.int .i64 ((V.length:Nat):Int)) ?_; refine xT ?_; go_upto_region 3 with fail; refine wp_region_list ?_; refine xpL (.int .i64 ((V.length:Nat):Int)) ?_
 refine xaL (.bool false) (eqlI .i64 _ _ _ _ _ _ rfl rfl rfl false (by rw [beq_eq_false_iff_ne]; omega) _) ?_; refine xT ?_; go_upto_region 5 with fail; refine wp_region_list ?_; refine xpL (.slice sp L.length cap) ?_; refine xaL (.int .i64 ((L.length:Nat):Int)) (lenS _ 39 44 sp L.length cap rfl Try.underlying39 rfl _) ?_; refine xpL (.int .i64 ((L.length:Nat):Int)) ?_; refine xT ?_
 go_upto_region 6 with fail; refine wp_region_list ?_; refine xpL (.int .i64 ((L.length:Nat):Int)) ?_; refine xpL (.int .i64 ((L.length:Nat):Int)) ?_; refine xaL (.bool true) (eqlI .i64 _ _ _ _ _ _ rfl rfl rfl true (beq_self_eq_true _) _) ?_; refine xT ?_; go_upto_region 7 with fail; refine wp_region_list ?_; refine xpL (.slice sp L.length cap) ?_
 refine xpL (.slice (some ⟨vb,0,none⟩) V.length vc) ?_
 obtain ⟨v2,w2,hr,V2,hgr,hg2⟩:=run_append_OwnV (P:=Try.prog) (ty:=39) Try.underlying39 manyW rfl (by decide) O_ ⟨vb,0,none⟩ V.length vc (wrc V) (wrc_len V) (World.ownsRow.cells V_ (g:=vb) rfl) (wrc_one V) (by unfold maxLen; omega) (by omega) (Nat.zero_le _)
 obtain ⟨sv,cv,rfl,_,_⟩:=row_form16 V2
 refine xaL _ (appendOp _ _ 39 _ _ _ rfl rfl rfl hr) ?_; clear hr; refine xpL (.slice sv (L.length+V.length) cv) ?_; refine xT ?_
 have HS:Hid (Rep17 w sp (L.take L.length++(V++L.drop L.length)) (.returned (.slice sv (L.length+V.length) cv)) w2):=by
  rw [List.take_length,List.drop_length,List.append_nil]
  refine show Hid _ from ⟨sv,cv,by rw [List.length_append],?_,?_,fun b hb=>?_⟩
  · rw [wrc_app,List.length_append]
    exact V2
  · cases sp <;> exact hgr
  · rcases hg2 b ((ob_own sv _ cv b).2 hb) with h | h
    · exact .inl ((ob_own sp _ cap b).1 h)
    · exact .inr (Nat.le_of_eq h.symm)
 clear V2 hgr hg2; go_wp2; go_ret
 exact HS.out
theorem vins_mid (w:World) (L V:Rgs17) (i g cap vb vc:Nat) (ys vs:List Value) (hi:i<L.length) (hln:L.length<1000000) (hv:V.length≤2) (hv0:0<V.length) (B_:Blk w 44 g cap (wrc L++ys)) (V_:Blk w 44 vb vc (wrc V++vs)) (hne:vb≠g) (hcap:L.length≤cap) :
 Calls Try.prog 49 #[.slice (some ⟨g,0,none⟩) L.length cap,.int .i64 ((i:Nat):Int),.slice (some ⟨vb,0,none⟩) V.length vc] w fun e w'=>Rep17 w (some ⟨g,0,none⟩) (L.take i++(V++L.drop i)) e w':=by
 have hbl:=B_.len; have hvl:=wrc_len V; have hll:=wrc_len L; have GR:=grown_refl' w (some g)
 go_enter Try.func49,Try.ntmps49
 go_upto_region 0 with fail; refine wp_region_list ?_; refine xpL (.slice none 0 0) ?_; refine xT ?_; go_upto_region 1 with fail; refine wp_region_list ?_; refine xpL (.slice (some ⟨g,0,none⟩) L.length cap) ?_; refine xpL (.int .i64 ((i:Nat):Int)) ?_
 refine xaL (.slice (slp (some ⟨g,0,none⟩) cap i) (L.length-i) (cap-i)) (cutOp _ _ _ _ _ _ rfl rfl rfl (sl_l (P:=Try.prog) (t:=39) (by kernel_rfl) (fun _=>by kernel_rfl) (some ⟨g,0,none⟩) L.length cap i (by omega) _)) ?_; refine xT ?_; go_upto_region 2 with fail; refine wp_region_list ?_; refine xpL (.slice (some ⟨vb,0,none⟩) V.length vc) ?_
 refine xaL (.int .i64 ((V.length:Nat):Int)) (lenS _ 39 44 (some ⟨vb,0,none⟩) V.length vc rfl Try.underlying39 rfl _) ?_; refine xpL (.int .i64 ((V.length:Nat):Int)) ?_; refine xT ?_; go_upto_region 3 with fail; refine wp_region_list ?_; refine xpL (.int .i64 ((V.length:Nat):Int)) ?_
 refine xaL (.bool false) (eqlI .i64 _ _ _ _ _ _ rfl rfl rfl false (by rw [beq_eq_false_iff_ne]; omega) _) ?_; refine xT ?_; go_upto_region 5 with fail; refine wp_region_list ?_; refine xpL (.slice (some ⟨g,0,none⟩) L.length cap) ?_; refine xaL (.int .i64 ((L.length:Nat):Int)) (lenS _ 39 44 (some ⟨g,0,none⟩) L.length cap rfl Try.underlying39 rfl _) ?_
 refine xpL (.int .i64 ((L.length:Nat):Int)) ?_; refine xT ?_; go_upto_region 6 with fail; refine wp_region_list ?_; refine xpL (.int .i64 ((i:Nat):Int)) ?_; refine xpL (.int .i64 ((L.length:Nat):Int)) ?_; refine xaL (.bool false) (eqlI .i64 _ _ _ _ _ _ rfl rfl rfl false (by rw [beq_eq_false_iff_ne]; omega) _) ?_; refine xT ?_
 by_cases hrm:cap<L.length+V.length
 · go_upto_region 8 with fail
   refine wp_region_list ?_; refine xpL (.int .i64 ((L.length:Nat):Int)) ?_; refine xpL (.int .i64 ((V.length:Nat):Int)) ?_; refine xaL (.int .i64 ((L.length+V.length:Nat):Int)) (addI .i64 _ _ _ _ _ _ _ rfl rfl rfl (by rw [xw6]; omega) _) ?_; refine xpL (.slice (some ⟨g,0,none⟩) L.length cap) ?_
   refine xaL (.int .i64 ((cap:Nat):Int)) (capS17 _ 39 44 (some ⟨g,0,none⟩) L.length cap rfl Try.underlying39 rfl _) ?_; refine xaL (.bool true) (gtrI .i64 _ _ _ _ _ _ rfl rfl rfl true (decide_eq_true (by omega)) _) ?_; refine xT ?_; go_upto_region 9 with fail; refine wp_region_list ?_; refine xpL (.slice (some ⟨g,0,none⟩) L.length cap) ?_; refine xpL (.int .i64 ((i:Nat):Int)) ?_
   refine xaL (.slice (some ⟨g,0,none⟩) i cap) (cutHi _ _ _ _ _ _ rfl rfl rfl (sl_h0 (P:=Try.prog) (t:=39) (by kernel_rfl) (fun _=>by kernel_rfl) g L.length cap i (by omega) _)) ?_; refine xpL (.int .i64 ((L.length:Nat):Int)) ?_; refine xpL (.int .i64 ((V.length:Nat):Int)) ?_
   refine xaL (.int .i64 ((L.length+V.length:Nat):Int)) (addI .i64 _ _ _ _ _ _ _ rfl rfl rfl (by rw [xw6]; omega) _) ?_; refine xpL (.int .i64 ((i:Nat):Int)) ?_; refine xaL (.int .i64 ((L.length+V.length-i:Nat):Int)) (subI .i64 _ _ _ _ _ _ _ rfl rfl rfl (by rw [xw6]; omega) _) ?_
   have hti:(wrc (L.take i)).length=i*2:=by rw [wrc_len,List.length_take]; omega
   have hsplit:wrc L++ys=wrc (L.take i)++(wrc (L.drop i)++ys):=by rw [← List.append_assoc,← wrc_app,List.take_append_drop]
   have hz:=B_
   rw [hsplit] at hz
   obtain ⟨c2,zs,hrn,hc2,D_⟩:=hz.noughts (P:=Try.prog) (t:=39) (u:=3) (ty:=0) Try.underlying39 Try.underlying3 manyW i ((L.length+V.length)-i) hti (by omega) (by omega) (by omega)
   clear hz hsplit; refine xaL _ (appN17 _ _ 39 3 _ _ _ rfl rfl rfl hrn) ?_
   have hg2:w.heap.size≤w.heap.size:=GR.size
   have hgl:=B_.lt; have hvl2:=V_.lt; replace B_:=B_.keep (w':=w.drew.alloc (.cells (wrc (L.take i)++zs).toArray 44)) (heap_alloc_old w.drew _ hgl); replace V_:=V_.keep (w':=w.drew.alloc (.cells (wrc (L.take i)++zs).toArray 44)) (heap_alloc_old w.drew _ hvl2); replace GR:=grown_alloc (grown_trans GR (grown_drew' _ _)) (.cells (wrc (L.take i)++zs).toArray 44); clear hrn
   generalize w.drew.alloc (.cells (wrc (L.take i)++zs).toArray 44)=w1 at B_ V_ D_ GR ⊢
   obtain ⟨g2,hge⟩:∃ g2,g2=w.heap.size:=⟨_,rfl⟩
   rw [← hge] at D_ ⊢
   replace hg2:w.heap.size≤g2:=by omega
   replace hgl:g<g2:=by omega
   replace hvl2:vb<g2:=by omega
   clear hge; have hdl:=D_.len
   rw [show i+((L.length+V.length)-i)=(L.length+V.length) by omega] at hc2 ⊢
   refine xpL (.slice (some ⟨g2,0,none⟩) (L.length+V.length) c2) ?_; refine xT ?_; go_upto_region 10 with fail; refine wp_region_list ?_; refine xpL (.slice (some ⟨g2,0,none⟩) (L.length+V.length) c2) ?_; refine xpL (.int .i64 ((i:Nat):Int)) ?_
   refine readL (.slice (slp (some ⟨g2,0,none⟩) c2 i) (((L.length+V.length))-i) (c2-i)) rfl (cutOp _ _ _ _ _ _ rfl rfl rfl (sl_l (P:=Try.prog) (t:=39) (by kernel_rfl) (fun _=>by kernel_rfl) (some ⟨g2,0,none⟩) (L.length+V.length) c2 i (by omega) _)) ?_; simp only [aP,lI,l0,lS]; refine xpL (.slice (some ⟨vb,0,none⟩) V.length vc) ?_
   have hlp:i*2+(wrc V).length≤(wrc (L.take i)++zs).length:=by rw [wrc_len]; omega
   have hrn:=D_.copies (P:=Try.prog) (dT:=39) (sT:=39) (ty:=3) Try.underlying39 (fun _=>by kernel_rfl) (slp (some ⟨g2,0,none⟩) c2 i) (some ⟨vb,0,none⟩) (((L.length+V.length))-i) (c2-i) V.length vc V.length (i*2) (by simp only [Nat.min_def]; split <;> omega) (wrc V) (wrc_len _) (fun _=>slp_g (by omega)) (fun _=>⟨_,rfl,wrc_cell V_ fun j_ u_ hu_=>by rw [Nat.zero_add]; exact get_left hu_⟩) hlp (wrc_one _)
   refine xaL _ (copyOp17 _ _ 39 39 _ _ _ rfl rfl rfl hrn) ?_; clear hrn; replace B_:=B_.apart (g:=g2) (by omega) (ov (wrc (L.take i)++zs) (i*2) (wrc V)).toArray; replace V_:=V_.apart (g:=g2) (by omega) (ov (wrc (L.take i)++zs) (i*2) (wrc V)).toArray; replace D_:=D_.put hlp; replace GR:=grown_new GR hg2 (ov (wrc (L.take i)++zs) (i*2) (wrc V)).toArray
   generalize w1.setRow g2 (ov (wrc (L.take i)++zs) (i*2) (wrc V)).toArray=w2 at B_ V_ D_ GR ⊢; clear hlp; refine xT ?_; go_upto_region 11 with fail; refine wp_region_held_drew (S:=fun _=>True) (by kernel_rfl) trivial ?_; intro _; replace B_:=B_.drew; replace V_:=V_.drew; replace D_:=D_.drew; replace GR:=grown_trans GR (grown_drew' _ _); generalize w2.drew=w3 at B_ V_ D_ GR ⊢
   refine xrH 0 46 rfl (.slice (some ⟨g2,0,none⟩) (L.length+V.length) c2) (fun _ _=>(by kernel_rfl)) trivial ?_; refine xrH 1 47 rfl (.int .i64 ((i:Nat):Int)) (fun _ _=>(by kernel_rfl)) trivial ?_; refine xrH 2 48 rfl (.int .i64 ((V.length:Nat):Int)) (fun _ _=>(by kernel_rfl)) trivial ?_
   refine xrH 3 49 rfl (.int .i64 ((i+V.length:Nat):Int)) (fun _ _=>addI .i64 _ _ _ _ _ _ _ rfl rfl rfl (by rw [xw6]; omega) _) trivial ?_
   refine xrH 4 50 rfl (.slice (slp (some ⟨g2,0,none⟩) c2 (i+V.length)) (((L.length+V.length))-(i+V.length)) (c2-(i+V.length))) (fun _ _=>cutOp _ _ _ _ _ _ rfl rfl rfl (sl_l (P:=Try.prog) (t:=39) (by kernel_rfl) (fun _=>by kernel_rfl) (some ⟨g2,0,none⟩) (L.length+V.length) c2 (i+V.length) (by omega) _)) trivial ?_
   refine xrH 5 51 rfl (.slice (some ⟨g,0,none⟩) L.length cap) (fun _ _=>(by kernel_rfl)) trivial ?_; refine xrH 6 52 rfl (.int .i64 ((i:Nat):Int)) (fun _ _=>(by kernel_rfl)) trivial ?_
   refine xrH 7 53 rfl (.slice (slp (some ⟨g,0,none⟩) cap i) (L.length-i) (cap-i)) (fun _ _=>cutOp _ _ _ _ _ _ rfl rfl rfl (sl_l (P:=Try.prog) (t:=39) (by kernel_rfl) (fun _=>by kernel_rfl) (some ⟨g,0,none⟩) L.length cap i (by omega) _)) trivial ?_
   have hlp:(i+V.length)*2+(wrc (L.drop i)).length≤(ov (wrc (L.take i)++zs) (i*2) (wrc V)).length:=by rw [dp_len (by omega)]; rw [ov_len (by rw [hvl]; omega)]; omega
   have hrn:=D_.copies (P:=Try.prog) (dT:=39) (sT:=39) (ty:=3) Try.underlying39 (fun _=>by kernel_rfl) (slp (some ⟨g2,0,none⟩) c2 (i+V.length)) (slp (some ⟨g,0,none⟩) cap i) (((L.length+V.length))-(i+V.length)) (c2-(i+V.length)) (L.length-i) (cap-i) (L.length-i) ((i+V.length)*2) (by simp only [Nat.min_def]; split <;> omega) (wrc (L.drop i)) (dp_len (by omega)) (fun _=>slp_g (by omega)) (fun h0_=>⟨_,slp_g (by omega),wrc_cell B_ (dp_read (by omega))⟩) hlp (wrc_one _)
   refine onlyH (i:=8) (some 54) rfl _ (by kernel_rfl) rfl rfl (copyOp17 _ _ 39 39 _ _ _ rfl rfl rfl hrn) trivial ?_; simp only [aP,lI,l0,lS]; clear hrn; replace B_:=B_.apart (g:=g2) (by omega) (ov (ov (wrc (L.take i)++zs) (i*2) (wrc V)) ((i+V.length)*2) (wrc (L.drop i))).toArray
   replace V_:=V_.apart (g:=g2) (by omega) (ov (ov (wrc (L.take i)++zs) (i*2) (wrc V)) ((i+V.length)*2) (wrc (L.drop i))).toArray; replace D_:=D_.put hlp; replace GR:=grown_new GR hg2 (ov (ov (wrc (L.take i)++zs) (i*2) (wrc V)) ((i+V.length)*2) (wrc (L.drop i))).toArray
   generalize w3.setRow g2 (ov (ov (wrc (L.take i)++zs) (i*2) (wrc V)) ((i+V.length)*2) (wrc (L.drop i))).toArray=w4 at B_ V_ D_ GR ⊢; clear hlp
   refine wpAnyH_done (by kernel_rfl) ?_ _
   first | show Exit.then _ _ _ _ _ | show Exit.inBlock _ _ _ _ _
   go_upto_region 12 with fail; refine wp_region_list ?_; refine xpL (.slice (some ⟨g2,0,none⟩) (L.length+V.length) c2) ?_; refine xpL (.slice (some ⟨g2,0,none⟩) (L.length+V.length) c2) ?_; refine xT ?_; have hpr:=fin_new (L:=L) (V:=V) (i:=i) (j:=i) (zs:=zs) (xnR _) (by omega) (by omega)
   have HS:=show Hid _ from (Rep17.new (w:=w) (sp:=some ⟨g,0,none⟩) D_ hpr (k:=(L.length+V.length)) (by simp only [List.length_append,List.length_take,List.length_drop]; omega) (by simp only [List.length_append,List.length_take,List.length_drop]; omega) GR hg2); clear B_ V_ D_ GR; go_wp2; go_ret
   exact HS.out
 · go_upto_region 8 with fail
   refine wp_region_list ?_; refine xpL (.int .i64 ((L.length:Nat):Int)) ?_; refine xpL (.int .i64 ((V.length:Nat):Int)) ?_; refine xaL (.int .i64 ((L.length+V.length:Nat):Int)) (addI .i64 _ _ _ _ _ _ _ rfl rfl rfl (by rw [xw6]; omega) _) ?_; refine xpL (.slice (some ⟨g,0,none⟩) L.length cap) ?_
   refine xaL (.int .i64 ((cap:Nat):Int)) (capS17 _ 39 44 (some ⟨g,0,none⟩) L.length cap rfl Try.underlying39 rfl _) ?_; refine xaL (.bool false) (gtrI .i64 _ _ _ _ _ _ rfl rfl rfl false (decide_eq_false (by omega)) _) ?_; refine xT ?_; go_upto_region 13 with fail; refine wp_region_list ?_; refine xpL (.slice (some ⟨g,0,none⟩) L.length cap) ?_
   refine xpL (.int .i64 ((L.length:Nat):Int)) ?_; refine xpL (.int .i64 ((V.length:Nat):Int)) ?_; refine xaL (.int .i64 ((L.length+V.length:Nat):Int)) (addI .i64 _ _ _ _ _ _ _ rfl rfl rfl (by rw [xw6]; omega) _) ?_
   refine xaL (.slice (some ⟨g,0,none⟩) (L.length+V.length) cap) (cutHi _ _ _ _ _ _ rfl rfl rfl (sl_h0 (P:=Try.prog) (t:=39) (by kernel_rfl) (fun _=>by kernel_rfl) g L.length cap (L.length+V.length) (by omega) _)) ?_; refine xpL (.slice (some ⟨g,0,none⟩) (L.length+V.length) cap) ?_; refine xT ?_; go_upto_region 14 with fail; refine wp_region_list ?_
   refine xpL (.slice (some ⟨vb,0,none⟩) V.length vc) ?_; refine xpL (.slice (some ⟨g,0,none⟩) (L.length+V.length) cap) ?_; refine xpL (.int .i64 ((i:Nat):Int)) ?_; refine xpL (.int .i64 ((V.length:Nat):Int)) ?_; refine xaL (.int .i64 ((i+V.length:Nat):Int)) (addI .i64 _ _ _ _ _ _ _ rfl rfl rfl (by rw [xw6]; omega) _) ?_
   refine xaL (.slice (slp (some ⟨g,0,none⟩) cap (i+V.length)) ((L.length+V.length)-(i+V.length)) (cap-(i+V.length))) (cutOp _ _ _ _ _ _ rfl rfl rfl (sl_l (P:=Try.prog) (t:=39) (by kernel_rfl) (fun _=>by kernel_rfl) (some ⟨g,0,none⟩) (L.length+V.length) cap (i+V.length) (by omega) _)) ?_
   rw [slp_g (show cap≠i+V.length by omega)]
   refine xaL (.bool false) (callX17 50 _ _ _ _ _ _ rfl rfl rfl (hr:=V_.overlaps Try.underlying39 (fun _=>by kernel_rfl) B_ (by omega) (by omega) (0) ((i+V.length)*2) V.length vc ((L.length+V.length)-(i+V.length)) (cap-(i+V.length)))) ?_; refine xpL (.bool true) ?_; refine xT ?_; go_upto_region 15 with fail
   refine wp_region_held_drew (S:=fun _=>True) (by kernel_rfl) trivial ?_; intro _; replace B_:=B_.drew; replace V_:=V_.drew; replace GR:=grown_trans GR (grown_drew' _ _); generalize w.drew=w5 at B_ V_ GR ⊢; refine xrH 0 69 rfl (.slice (some ⟨g,0,none⟩) (L.length+V.length) cap) (fun _ _=>(by kernel_rfl)) trivial ?_
   refine xrH 1 70 rfl (.int .i64 ((i:Nat):Int)) (fun _ _=>(by kernel_rfl)) trivial ?_; refine xrH 2 71 rfl (.int .i64 ((V.length:Nat):Int)) (fun _ _=>(by kernel_rfl)) trivial ?_; refine xrH 3 72 rfl (.int .i64 ((i+V.length:Nat):Int)) (fun _ _=>addI .i64 _ _ _ _ _ _ _ rfl rfl rfl (by rw [xw6]; omega) _) trivial ?_
   refine xrH 4 73 rfl (.slice (slp (some ⟨g,0,none⟩) cap (i+V.length)) ((L.length+V.length)-(i+V.length)) (cap-(i+V.length))) (fun _ _=>cutOp _ _ _ _ _ _ rfl rfl rfl (sl_l (P:=Try.prog) (t:=39) (by kernel_rfl) (fun _=>by kernel_rfl) (some ⟨g,0,none⟩) (L.length+V.length) cap (i+V.length) (by omega) _)) trivial ?_
   refine xrH 5 74 rfl (.slice (some ⟨g,0,none⟩) (L.length+V.length) cap) (fun _ _=>(by kernel_rfl)) trivial ?_; refine xrH 6 75 rfl (.int .i64 ((i:Nat):Int)) (fun _ _=>(by kernel_rfl)) trivial ?_
   refine xrH 7 76 rfl (.slice (slp (some ⟨g,0,none⟩) cap i) ((L.length+V.length)-i) (cap-i)) (fun _ _=>cutOp _ _ _ _ _ _ rfl rfl rfl (sl_l (P:=Try.prog) (t:=39) (by kernel_rfl) (fun _=>by kernel_rfl) (some ⟨g,0,none⟩) (L.length+V.length) cap i (by omega) _)) trivial ?_
   have hlp:(i+V.length)*2+(wrc (L.drop i)).length≤(wrc L++ys).length:=by rw [dp_len (by omega)]; omega
   have hrn:=B_.copies (P:=Try.prog) (dT:=39) (sT:=39) (ty:=3) Try.underlying39 (fun _=>by kernel_rfl) (slp (some ⟨g,0,none⟩) cap (i+V.length)) (slp (some ⟨g,0,none⟩) cap i) ((L.length+V.length)-(i+V.length)) (cap-(i+V.length)) ((L.length+V.length)-i) (cap-i) (L.length-i) ((i+V.length)*2) (by simp only [Nat.min_def]; split <;> omega) (wrc (L.drop i)) (dp_len (by omega)) (fun _=>slp_g (by omega)) (fun h0_=>⟨_,slp_g (by omega),wrc_cell B_ (dp_read (by omega))⟩) hlp (wrc_one _)
   refine onlyH (i:=8) (some 77) rfl _ (by kernel_rfl) rfl rfl (copyOp17 _ _ 39 39 _ _ _ rfl rfl rfl hrn) trivial ?_; simp only [aP,lI,l0,lS]; clear hrn; replace B_:=B_.put hlp; replace V_:=V_.apart (g:=g) (by omega) (ov (wrc L++ys) ((i+V.length)*2) (wrc (L.drop i))).toArray
   replace GR:=grown_trans GR (grown_set _ g (ov (wrc L++ys) ((i+V.length)*2) (wrc (L.drop i))).toArray); generalize w5.setRow g (ov (wrc L++ys) ((i+V.length)*2) (wrc (L.drop i))).toArray=w6 at B_ V_ GR ⊢; clear hlp
   refine wpAnyH_done (by kernel_rfl) ?_ _
   first | show Exit.then _ _ _ _ _ | show Exit.inBlock _ _ _ _ _
   go_upto_region 16 with fail; refine wp_region_list ?_; refine xpL (.slice (some ⟨g,0,none⟩) (L.length+V.length) cap) ?_; refine xpL (.int .i64 ((i:Nat):Int)) ?_
   refine xaL (.slice (slp (some ⟨g,0,none⟩) cap i) ((L.length+V.length)-i) (cap-i)) (cutOp _ _ _ _ _ _ rfl rfl rfl (sl_l (P:=Try.prog) (t:=39) (by kernel_rfl) (fun _=>by kernel_rfl) (some ⟨g,0,none⟩) (L.length+V.length) cap i (by omega) _)) ?_; refine xpL (.slice (some ⟨vb,0,none⟩) V.length vc) ?_
   have hlp:i*2+(wrc V).length≤(ov (wrc L++ys) ((i+V.length)*2) (wrc (L.drop i))).length:=by rw [wrc_len]; rw [ov_len (by rw [dp_len (by omega)]; omega)]; omega
   have hrn:=B_.copies (P:=Try.prog) (dT:=39) (sT:=39) (ty:=3) Try.underlying39 (fun _=>by kernel_rfl) (slp (some ⟨g,0,none⟩) cap i) (some ⟨vb,0,none⟩) ((L.length+V.length)-i) (cap-i) V.length vc V.length (i*2) (by simp only [Nat.min_def]; split <;> omega) (wrc V) (wrc_len _) (fun _=>slp_g (by omega)) (fun _=>⟨_,rfl,wrc_cell V_ fun j_ u_ hu_=>by rw [Nat.zero_add]; exact get_left hu_⟩) hlp (wrc_one _)
   refine xaL _ (copyOp17 _ _ 39 39 _ _ _ rfl rfl rfl hrn) ?_; clear hrn; replace B_:=B_.put hlp; replace V_:=V_.apart (g:=g) (by omega) (ov (ov (wrc L++ys) ((i+V.length)*2) (wrc (L.drop i))) (i*2) (wrc V)).toArray; replace GR:=grown_trans GR (grown_set _ g (ov (ov (wrc L++ys) ((i+V.length)*2) (wrc (L.drop i))) (i*2) (wrc V)).toArray)
   generalize w6.setRow g (ov (ov (wrc L++ys) ((i+V.length)*2) (wrc (L.drop i))) (i*2) (wrc V)).toArray=w7 at B_ V_ GR ⊢; clear hlp; refine xT ?_; go_upto_region 17 with fail; refine wp_region_list ?_; refine xpL (.slice (some ⟨g,0,none⟩) (L.length+V.length) cap) ?_; refine xpL (.slice (some ⟨g,0,none⟩) (L.length+V.length) cap) ?_; refine xT ?_
   have hpr:=fin_hard (L:=L) (V:=V) (i:=i) (j:=i) (ys:=ys) (xnR _) (by omega) (by omega); have HS:=show Hid _ from (Rep17.of (w:=w) (sp:=some ⟨g,0,none⟩) B_ hpr (k:=(L.length+V.length)) (by simp only [List.length_append,List.length_take,List.length_drop]; omega) (by simp only [List.length_append,List.length_take,List.length_drop]; omega) GR); clear B_ V_ GR; go_wp2
   go_ret
   exact HS.out
end
theorem vins_any (w:World) (L V:Rgs17) (sp:Option Addr) (i cap vb vc:Nat) (hi:i≤L.length) (hln:L.length<1000000) (hv:V.length≤2) (hv0:0<V.length) (O_:w.ownsRow 0 44 2 (.slice sp L.length cap) L.length (wrc L)) (V_:w.ownsRow 0 44 2 (.slice (some ⟨vb,0,none⟩) V.length vc) V.length (wrc V)) (hne:vb∉ob sp) :
 Calls Try.prog 49 #[.slice sp L.length cap,.int .i64 ((i:Nat):Int),.slice (some ⟨vb,0,none⟩) V.length vc] w fun e w'=>Rep17 w sp (L.take i++(V++L.drop i)) e w':=by
 rcases Nat.lt_or_ge i L.length with h | h
 · obtain ⟨g,rfl⟩:=row_some16 O_ (by omega)
   obtain ⟨ys,B,hcap,_⟩:=Blk.of O_
   obtain ⟨vs,BV,_,_⟩:=Blk.of V_
   exact vins_mid w L V i g cap vb vc ys vs h hln hv hv0 B BV (fun e=>hne (by rw [e]; exact mS)) hcap
 · obtain rfl:i=L.length:=by omega
   exact vins_end w L V sp cap vb vc hln hv hv0 O_ V_
theorem vrep_eq (w:World) (L V:Rgs17) (sp:Option Addr) (i cap vb vc:Nat) (hi:i≤L.length) (hcap:L.length≤cap) (hln:L.length<1000000) (hv:V.length≤2) (hv0:0<V.length) (O_:w.ownsRow 0 44 2 (.slice sp L.length cap) L.length (wrc L)) (V_:w.ownsRow 0 44 2 (.slice (some ⟨vb,0,none⟩) V.length vc) V.length (wrc V)) (hne:vb∉ob sp) :
 Calls Try.prog 47 #[.slice sp L.length cap,.int .i64 ((i:Nat):Int),.int .i64 ((i:Nat):Int),.slice (some ⟨vb,0,none⟩) V.length vc] w fun e w'=>Rep17 w sp (L.take i++(V++L.drop i)) e w':=by
 go_enter Try.func47,Try.ntmps47
 go_upto_region 0 with fail; refine wp_region_list ?_; refine xpL (.slice none 0 0) ?_; refine xT ?_; go_upto_region 1 with fail; refine wp_region_list ?_; refine xpL (.slice sp L.length cap) ?_; refine xpL (.int .i64 ((i:Nat):Int)) ?_; refine xpL (.int .i64 ((i:Nat):Int)) ?_
 refine xaL (.slice (slp sp cap i) (i-i) (cap-i)) (cutLHop _ _ _ _ _ _ _ _ rfl rfl rfl rfl (sl_lh (P:=Try.prog) (t:=39) (by kernel_rfl) (fun _=>by kernel_rfl) sp L.length cap i i (by omega) (by omega) _)) ?_; refine xT ?_; go_upto_region 2 with fail; refine wp_region_list ?_; refine xpL (.int .i64 ((i:Nat):Int)) ?_; refine xpL (.int .i64 ((i:Nat):Int)) ?_
 refine xaL (.bool true) (eqlI .i64 _ _ _ _ _ _ rfl rfl rfl true (beq_self_eq_true _) _) ?_; refine xT ?_; go_upto_region 3 with fail; refine wp_region_list ?_; refine xpL (.slice sp L.length cap) ?_; refine xpL (.int .i64 ((i:Nat):Int)) ?_; refine xpL (.slice (some ⟨vb,0,none⟩) V.length vc) ?_; refine xcL (vins_any w L V sp i cap vb vc hi hln hv hv0 O_ V_ hne) ?_
 rintro e w1 ⟨sq,cq,rfl,HR⟩; refine xeL ?_; refine xpL (.slice sq ((L.take i++(V++L.drop i)).length) cq) ?_; refine xT ?_; have HS:=show Hid _ from HR; clear HR; go_wp2; go_ret
 exact ⟨sq,cq,rfl,HS.out⟩
theorem vrep_lt (w:World) (L V:Rgs17) (i j g cap vb vc:Nat) (ys vs:List Value) (hij:i<j) (hj:j≤L.length) (hln:L.length<1000000) (hv:V.length≤2) (B_:Blk w 44 g cap (wrc L++ys)) (V_:Blk w 44 vb vc (wrc V++vs)) (hne:vb≠g) (hcap:L.length≤cap) (hvc:V.length≤vc) :
 Calls Try.prog 47 #[.slice (some ⟨g,0,none⟩) L.length cap,.int .i64 ((i:Nat):Int),.int .i64 ((j:Nat):Int),.slice (some ⟨vb,0,none⟩) V.length vc] w fun e w'=>Rep17 w (some ⟨g,0,none⟩) (L.take i++(V++L.drop j)) e w':=by
 have hbl:=B_.len; have hvl:=wrc_len V; have hll:=wrc_len L; have GR:=grown_refl' w (some g)
 go_enter Try.func47,Try.ntmps47
 go_upto_region 0 with fail; refine wp_region_list ?_; refine xpL (.slice none 0 0) ?_; refine xT ?_; go_upto_region 1 with fail; refine wp_region_list ?_; refine xpL (.slice (some ⟨g,0,none⟩) L.length cap) ?_; refine xpL (.int .i64 ((i:Nat):Int)) ?_; refine xpL (.int .i64 ((j:Nat):Int)) ?_
 refine xaL (.slice (slp (some ⟨g,0,none⟩) cap i) (j-i) (cap-i)) (cutLHop _ _ _ _ _ _ _ _ rfl rfl rfl rfl (sl_lh (P:=Try.prog) (t:=39) (by kernel_rfl) (fun _=>by kernel_rfl) (some ⟨g,0,none⟩) L.length cap i j (by omega) (by omega) _)) ?_; refine xT ?_; go_upto_region 2 with fail; refine wp_region_list ?_; refine xpL (.int .i64 ((i:Nat):Int)) ?_
 refine xpL (.int .i64 ((j:Nat):Int)) ?_; refine xaL (.bool false) (eqlI .i64 _ _ _ _ _ _ rfl rfl rfl false (by rw [beq_eq_false_iff_ne]; omega) _) ?_; refine xT ?_
 by_cases hje:j=L.length
 · subst hje
   go_upto_region 4 with fail; refine wp_region_list ?_; refine xpL (.int .i64 ((L.length:Nat):Int)) ?_; refine xpL (.slice (some ⟨g,0,none⟩) L.length cap) ?_; refine xaL (.int .i64 ((L.length:Nat):Int)) (lenS _ 39 44 (some ⟨g,0,none⟩) L.length cap rfl Try.underlying39 rfl _) ?_; refine xaL (.bool true) (eqlI .i64 _ _ _ _ _ _ rfl rfl rfl true (beq_self_eq_true _) _) ?_; refine xT ?_
   by_cases hrm:i+V.length≤cap
   · go_upto_region 5 with fail
     refine wp_region_list ?_; refine xpL (.slice (some ⟨g,0,none⟩) L.length cap) ?_; refine xpL (.int .i64 ((i:Nat):Int)) ?_; refine xaL (.slice (some ⟨g,0,none⟩) i cap) (cutHi _ _ _ _ _ _ rfl rfl rfl (sl_h0 (P:=Try.prog) (t:=39) (by kernel_rfl) (fun _=>by kernel_rfl) g L.length cap i (by omega) _)) ?_; refine xpL (.slice (some ⟨vb,0,none⟩) V.length vc) ?_
     have hlp:i*2+(wrc V).length≤(wrc L++ys).length:=by omega
     have hrn:=B_.room (P:=Try.prog) (t:=39) (ty:=0) Try.underlying39 manyW i V.length vc ⟨vb,0,none⟩ (wrc V) (wrc_len V) (wrc_cell V_ fun j_ u_ hu_=>by rw [Nat.zero_add]; exact get_left hu_) (wrc_one V) hrm; refine xaL _ (appN17 _ _ 39 39 _ _ _ rfl rfl rfl hrn) ?_; clear hrn; have hpr:=fin_end (L:=L) (V:=V) (i:=i) (ys:=ys) (by omega) (by omega); replace B_:=B_.put hlp
     replace V_:=V_.apart (g:=g) (by omega) (ov (wrc L++ys) (i*2) (wrc V)).toArray; replace GR:=grown_trans GR (grown_set _ g (ov (wrc L++ys) (i*2) (wrc V)).toArray); generalize w.setRow g (ov (wrc L++ys) (i*2) (wrc V)).toArray=w1 at B_ V_ GR ⊢; have hol:=ov_len hlp; clear hlp; refine xpL (.slice (some ⟨g,0,none⟩) (i+V.length) cap) ?_; refine xT ?_
     by_cases hsh:i+V.length<L.length
     · go_upto_region 6 with fail
       refine wp_region_list ?_; refine xpL (.slice (some ⟨g,0,none⟩) (i+V.length) cap) ?_; refine xaL (.int .i64 ((i+V.length:Nat):Int)) (lenS _ 39 44 (some ⟨g,0,none⟩) (i+V.length) cap rfl Try.underlying39 rfl _) ?_; refine xpL (.slice (some ⟨g,0,none⟩) L.length cap) ?_
       refine xaL (.int .i64 ((L.length:Nat):Int)) (lenS _ 39 44 (some ⟨g,0,none⟩) L.length cap rfl Try.underlying39 rfl _) ?_; refine xaL (.bool true) (lssI .i64 _ _ _ _ _ _ rfl rfl rfl true (decide_eq_true (by omega)) _) ?_; refine xT ?_; go_upto_region 7 with fail; refine wp_region_list ?_; refine xpL (.slice (some ⟨g,0,none⟩) L.length cap) ?_
       refine xpL (.slice (some ⟨g,0,none⟩) (i+V.length) cap) ?_; refine xaL (.int .i64 ((i+V.length:Nat):Int)) (lenS _ 39 44 (some ⟨g,0,none⟩) (i+V.length) cap rfl Try.underlying39 rfl _) ?_
       refine xaL (.slice (slp (some ⟨g,0,none⟩) cap (i+V.length)) (L.length-(i+V.length)) (cap-(i+V.length))) (cutOp _ _ _ _ _ _ rfl rfl rfl (sl_l (P:=Try.prog) (t:=39) (by kernel_rfl) (fun _=>by kernel_rfl) (some ⟨g,0,none⟩) L.length cap (i+V.length) (by omega) _)) ?_
       obtain ⟨vz,hvz,hrn⟩:=B_.clears (P:=Try.prog) (t:=39) (ty:=0) Try.underlying39 (fun _=>by kernel_rfl) (slp (some ⟨g,0,none⟩) cap (i+V.length)) (L.length-(i+V.length)) (cap-(i+V.length)) ((i+V.length)*2) (fun _=>slp_g (by omega)) ((by rw [hol]; omega))
       have hlp:(i+V.length)*2+vz.length≤(ov (wrc L++ys) (i*2) (wrc V)).length:=by rw [hvz]; exact (by rw [hol]; omega)
       refine actL _ rfl (clearOp17 _ 39 _ _ rfl rfl hrn) ?_; simp only [Act.put]; clear hrn; have hpr:=pre_ov hpr hlp (by rw [wrc_len]; simp only [List.length_append,List.length_take,List.length_drop]; omega); replace B_:=B_.put hlp; replace V_:=V_.apart (g:=g) (by omega) (ov (ov (wrc L++ys) (i*2) (wrc V)) ((i+V.length)*2) vz).toArray
       replace GR:=grown_trans GR (grown_set _ g (ov (ov (wrc L++ys) (i*2) (wrc V)) ((i+V.length)*2) vz).toArray); generalize w1.setRow g (ov (ov (wrc L++ys) (i*2) (wrc V)) ((i+V.length)*2) vz).toArray=w2 at B_ V_ GR ⊢; clear hlp; refine xT ?_; go_upto_region 8 with fail; refine wp_region_list ?_; refine xpL (.slice (some ⟨g,0,none⟩) (i+V.length) cap) ?_
       refine xpL (.slice (some ⟨g,0,none⟩) (i+V.length) cap) ?_; refine xT ?_; have HS:=show Hid _ from (Rep17.of (w:=w) (sp:=some ⟨g,0,none⟩) B_ hpr (k:=(i+V.length)) (by simp only [List.length_append,List.length_take,List.length_drop]; omega) (by simp only [List.length_append,List.length_take,List.length_drop]; omega) GR); clear B_ V_ GR; go_wp2; go_ret
       exact HS.out
     · go_upto_region 6 with fail
       refine wp_region_list ?_; refine xpL (.slice (some ⟨g,0,none⟩) (i+V.length) cap) ?_; refine xaL (.int .i64 ((i+V.length:Nat):Int)) (lenS _ 39 44 (some ⟨g,0,none⟩) (i+V.length) cap rfl Try.underlying39 rfl _) ?_; refine xpL (.slice (some ⟨g,0,none⟩) L.length cap) ?_
       refine xaL (.int .i64 ((L.length:Nat):Int)) (lenS _ 39 44 (some ⟨g,0,none⟩) L.length cap rfl Try.underlying39 rfl _) ?_; refine xaL (.bool false) (lssI .i64 _ _ _ _ _ _ rfl rfl rfl false (decide_eq_false (by omega)) _) ?_; refine xT ?_; go_upto_region 8 with fail; refine wp_region_list ?_; refine xpL (.slice (some ⟨g,0,none⟩) (i+V.length) cap) ?_
       refine xpL (.slice (some ⟨g,0,none⟩) (i+V.length) cap) ?_; refine xT ?_; have HS:=show Hid _ from (Rep17.of (w:=w) (sp:=some ⟨g,0,none⟩) B_ hpr (k:=(i+V.length)) (by simp only [List.length_append,List.length_take,List.length_drop]; omega) (by simp only [List.length_append,List.length_take,List.length_drop]; omega) GR); clear B_ V_ GR; go_wp2; go_ret
       exact HS.out
   · go_upto_region 5 with fail
     refine wp_region_list ?_; refine xpL (.slice (some ⟨g,0,none⟩) L.length cap) ?_; refine xpL (.int .i64 ((i:Nat):Int)) ?_; refine xaL (.slice (some ⟨g,0,none⟩) i cap) (cutHi _ _ _ _ _ _ rfl rfl rfl (sl_h0 (P:=Try.prog) (t:=39) (by kernel_rfl) (fun _=>by kernel_rfl) g L.length cap i (by omega) _)) ?_; refine xpL (.slice (some ⟨vb,0,none⟩) V.length vc) ?_
     have hti:(wrc (L.take i)).length=i*2:=by rw [wrc_len,List.length_take]; omega
     have hsplit:wrc L++ys=wrc (L.take i)++(wrc (L.drop i)++ys):=by rw [← List.append_assoc,← wrc_app,List.take_append_drop]
     have hO:w.ownsRow 0 44 2 (.slice (some ⟨g,0,none⟩) i cap) i (wrc (L.take i)):=B_.owns (by rw [hsplit]; exact List.prefix_append _ _) hti (by omega)
     obtain ⟨v2,w2,hr,V2,hgr,hg2⟩:=run_append_OwnV (P:=Try.prog) (ty:=39) Try.underlying39 manyW rfl (by decide) hO ⟨vb,0,none⟩ V.length vc (wrc V) (wrc_len V) (wrc_cell V_ fun j_ u_ hu_=>by rw [Nat.zero_add]; exact get_left hu_) (wrc_one V) (by unfold maxLen; omega) (by omega) (Nat.zero_le _)
     obtain ⟨sv,cv,rfl,_,_⟩:=row_form16 V2
     refine xaL _ (appendOp _ _ 39 _ _ _ rfl rfl rfl hr) ?_; clear hr; refine xpL (.slice sv (i+V.length) cv) ?_; refine xT ?_; go_upto_region 6 with fail; refine wp_region_list ?_; refine xpL (.slice sv (i+V.length) cv) ?_; refine xaL (.int .i64 ((i+V.length:Nat):Int)) (lenS _ 39 44 sv (i+V.length) cv rfl Try.underlying39 rfl _) ?_
     refine xpL (.slice (some ⟨g,0,none⟩) L.length cap) ?_; refine xaL (.int .i64 ((L.length:Nat):Int)) (lenS _ 39 44 (some ⟨g,0,none⟩) L.length cap rfl Try.underlying39 rfl _) ?_; refine xaL (.bool false) (lssI .i64 _ _ _ _ _ _ rfl rfl rfl false (decide_eq_false (by omega)) _) ?_; refine xT ?_; go_upto_region 8 with fail; refine wp_region_list ?_
     refine xpL (.slice sv (i+V.length) cv) ?_; refine xpL (.slice sv (i+V.length) cv) ?_; refine xT ?_
     have hRl:(L.take i++(V++L.drop L.length)).length=i+V.length:=by rw [List.drop_length,List.append_nil,List.length_append,List.length_take]; omega
     have HS:Hid (Rep17 w (some ⟨g,0,none⟩) (L.take i++(V++L.drop L.length)) (.returned (.slice sv (i+V.length) cv)) w2):=by
      refine show Hid _ from ⟨sv,cv,by rw [hRl],?_,hgr,fun b hb=>?_⟩
      · rw [hRl,List.drop_length,List.append_nil,wrc_app]
        exact V2
      · rcases hg2 b ((ob_own sv _ cv b).2 hb) with h | h
        · exact .inl ((ob_own (some ⟨g,0,none⟩) _ cap b).1 h)
        · exact .inr (Nat.le_of_eq h.symm)
     clear V2 hgr hg2 B_ V_ GR; go_wp2; go_ret
     exact HS.out
 · go_upto_region 4 with fail
   refine wp_region_list ?_; refine xpL (.int .i64 ((j:Nat):Int)) ?_; refine xpL (.slice (some ⟨g,0,none⟩) L.length cap) ?_; refine xaL (.int .i64 ((L.length:Nat):Int)) (lenS _ 39 44 (some ⟨g,0,none⟩) L.length cap rfl Try.underlying39 rfl _) ?_; refine xaL (.bool false) (eqlI .i64 _ _ _ _ _ _ rfl rfl rfl false (by rw [beq_eq_false_iff_ne]; omega) _) ?_; refine xT ?_
   go_upto_region 9 with fail; refine wp_region_held_drew (S:=fun _=>True) (by kernel_rfl) trivial ?_; intro _; replace B_:=B_.drew; replace V_:=V_.drew; replace GR:=grown_trans GR (grown_drew' _ _); generalize w.drew=w3 at B_ V_ GR ⊢; refine xrH 0 45 rfl (.slice (some ⟨g,0,none⟩) L.length cap) (fun _ _=>(by kernel_rfl)) trivial ?_
   refine xrH 1 46 rfl (.int .i64 ((i:Nat):Int)) (fun _ _=>(by kernel_rfl)) trivial ?_; refine xrH 2 47 rfl (.slice (some ⟨g,0,none⟩) i cap) (fun _ _=>cutHi _ _ _ _ _ _ rfl rfl rfl (sl_h0 (P:=Try.prog) (t:=39) (by kernel_rfl) (fun _=>by kernel_rfl) g L.length cap i (by omega) _)) trivial ?_
   refine xrH 3 48 rfl (.int .i64 ((i:Nat):Int)) (fun _ _=>lenS _ 39 44 (some ⟨g,0,none⟩) i cap rfl Try.underlying39 rfl _) trivial ?_; refine xrH 4 49 rfl (.slice (some ⟨vb,0,none⟩) V.length vc) (fun _ _=>(by kernel_rfl)) trivial ?_; refine xrH 5 50 rfl (.int .i64 ((V.length:Nat):Int)) (fun _ _=>lenS _ 39 44 (some ⟨vb,0,none⟩) V.length vc rfl Try.underlying39 rfl _) trivial ?_
   refine xrH 6 51 rfl (.int .i64 ((i+V.length:Nat):Int)) (fun _ _=>addI .i64 _ _ _ _ _ _ _ rfl rfl rfl (by rw [xw6]; omega) _) trivial ?_; refine xrH 7 52 rfl (.slice (some ⟨g,0,none⟩) L.length cap) (fun _ _=>(by kernel_rfl)) trivial ?_; refine xrH 8 53 rfl (.int .i64 ((j:Nat):Int)) (fun _ _=>(by kernel_rfl)) trivial ?_
   refine xrH 9 54 rfl (.slice (slp (some ⟨g,0,none⟩) cap j) (L.length-j) (cap-j)) (fun _ _=>cutOp _ _ _ _ _ _ rfl rfl rfl (sl_l (P:=Try.prog) (t:=39) (by kernel_rfl) (fun _=>by kernel_rfl) (some ⟨g,0,none⟩) L.length cap j (by omega) _)) trivial ?_
   refine xrH 10 55 rfl (.int .i64 ((L.length-j:Nat):Int)) (fun _ _=>lenS _ 39 44 (slp (some ⟨g,0,none⟩) cap j) (L.length-j) (cap-j) rfl Try.underlying39 rfl _) trivial ?_; refine xrH 11 56 rfl (.int .i64 ((i+V.length+(L.length-j):Nat):Int)) (fun _ _=>addI .i64 _ _ _ _ _ _ _ rfl rfl rfl (by rw [xw6]; omega) _) trivial ?_
   refine xrH 12 10 rfl (.int .i64 ((i+V.length+(L.length-j):Nat):Int)) (fun _ _=>(by kernel_rfl)) trivial ?_
   refine wpAnyH_done (by kernel_rfl) ?_ _
   first | show Exit.then _ _ _ _ _ | show Exit.inBlock _ _ _ _ _
   by_cases hrm:cap<(i+V.length+(L.length-j))
   · go_upto_region 10 with fail
     refine wp_region_list ?_; refine xpL (.int .i64 ((i+V.length+(L.length-j):Nat):Int)) ?_; refine xpL (.slice (some ⟨g,0,none⟩) L.length cap) ?_; refine xaL (.int .i64 ((cap:Nat):Int)) (capS17 _ 39 44 (some ⟨g,0,none⟩) L.length cap rfl Try.underlying39 rfl _) ?_; refine xaL (.bool true) (gtrI .i64 _ _ _ _ _ _ rfl rfl rfl true (decide_eq_true (by omega)) _) ?_; refine xT ?_
     go_upto_region 11 with fail; refine wp_region_list ?_; refine xpL (.slice (some ⟨g,0,none⟩) L.length cap) ?_; refine xpL (.int .i64 ((i:Nat):Int)) ?_; refine xaL (.slice (some ⟨g,0,none⟩) i cap) (cutHi _ _ _ _ _ _ rfl rfl rfl (sl_h0 (P:=Try.prog) (t:=39) (by kernel_rfl) (fun _=>by kernel_rfl) g L.length cap i (by omega) _)) ?_
     refine xpL (.int .i64 ((i+V.length+(L.length-j):Nat):Int)) ?_; refine xpL (.int .i64 ((i:Nat):Int)) ?_; refine readL (.int .i64 (((i+V.length+(L.length-j))-i:Nat):Int)) rfl (subI .i64 _ _ _ _ _ _ _ rfl rfl rfl (by rw [xw6]; omega) _) ?_; simp only [aP,lI,l0,lS]
     have hti:(wrc (L.take i)).length=i*2:=by rw [wrc_len,List.length_take]; omega
     have hsplit:wrc L++ys=wrc (L.take i)++(wrc (L.drop i)++ys):=by rw [← List.append_assoc,← wrc_app,List.take_append_drop]
     have hz:=B_
     rw [hsplit] at hz
     obtain ⟨c2,zs,hrn,hc2,D_⟩:=hz.noughts (P:=Try.prog) (t:=39) (u:=3) (ty:=0) Try.underlying39 Try.underlying3 manyW i ((i+V.length+(L.length-j))-i) hti (by omega) (by omega) (by omega)
     clear hz hsplit; refine xaL _ (appN17 _ _ 39 3 _ _ _ rfl rfl rfl hrn) ?_
     have hg2:w.heap.size≤w3.heap.size:=GR.size
     have hgl:=B_.lt; have hvl2:=V_.lt; replace B_:=B_.keep (w':=w3.drew.alloc (.cells (wrc (L.take i)++zs).toArray 44)) (heap_alloc_old w3.drew _ hgl); replace V_:=V_.keep (w':=w3.drew.alloc (.cells (wrc (L.take i)++zs).toArray 44)) (heap_alloc_old w3.drew _ hvl2); replace GR:=grown_alloc (grown_trans GR (grown_drew' _ _)) (.cells (wrc (L.take i)++zs).toArray 44); clear hrn
     generalize w3.drew.alloc (.cells (wrc (L.take i)++zs).toArray 44)=w4 at B_ V_ D_ GR ⊢
     obtain ⟨g2,hge⟩:∃ g2,g2=w3.heap.size:=⟨_,rfl⟩
     rw [← hge] at D_ ⊢
     replace hg2:w.heap.size≤g2:=by omega
     replace hgl:g<g2:=by omega
     replace hvl2:vb<g2:=by omega
     clear hge; have hdl:=D_.len
     rw [show i+((i+V.length+(L.length-j))-i)=(i+V.length+(L.length-j)) by omega] at hc2 ⊢
     refine xpL (.slice (some ⟨g2,0,none⟩) (i+V.length+(L.length-j)) c2) ?_; refine xT ?_; go_upto_region 12 with fail; refine wp_region_list ?_; refine xpL (.slice (some ⟨g2,0,none⟩) (i+V.length+(L.length-j)) c2) ?_; refine xpL (.int .i64 ((i:Nat):Int)) ?_
     refine readL (.slice (slp (some ⟨g2,0,none⟩) c2 i) (((i+V.length+(L.length-j)))-i) (c2-i)) rfl (cutOp _ _ _ _ _ _ rfl rfl rfl (sl_l (P:=Try.prog) (t:=39) (by kernel_rfl) (fun _=>by kernel_rfl) (some ⟨g2,0,none⟩) (i+V.length+(L.length-j)) c2 i (by omega) _)) ?_; simp only [aP,lI,l0,lS]; refine xpL (.slice (some ⟨vb,0,none⟩) V.length vc) ?_
     have hlp:i*2+(wrc V).length≤(wrc (L.take i)++zs).length:=by rw [wrc_len]; omega
     have hrn:=D_.copies (P:=Try.prog) (dT:=39) (sT:=39) (ty:=3) Try.underlying39 (fun _=>by kernel_rfl) (slp (some ⟨g2,0,none⟩) c2 i) (some ⟨vb,0,none⟩) (((i+V.length+(L.length-j)))-i) (c2-i) V.length vc V.length (i*2) (by simp only [Nat.min_def]; split <;> omega) (wrc V) (wrc_len _) (fun _=>slp_g (by omega)) (fun _=>⟨_,rfl,wrc_cell V_ fun j_ u_ hu_=>by rw [Nat.zero_add]; exact get_left hu_⟩) hlp (wrc_one _)
     refine xaL _ (copyOp17 _ _ 39 39 _ _ _ rfl rfl rfl hrn) ?_; clear hrn; replace B_:=B_.apart (g:=g2) (by omega) (ov (wrc (L.take i)++zs) (i*2) (wrc V)).toArray; replace V_:=V_.apart (g:=g2) (by omega) (ov (wrc (L.take i)++zs) (i*2) (wrc V)).toArray; replace D_:=D_.put hlp; replace GR:=grown_new GR hg2 (ov (wrc (L.take i)++zs) (i*2) (wrc V)).toArray
     generalize w4.setRow g2 (ov (wrc (L.take i)++zs) (i*2) (wrc V)).toArray=w5 at B_ V_ D_ GR ⊢; clear hlp; refine xT ?_; go_upto_region 13 with fail; refine wp_region_held_drew (S:=fun _=>True) (by kernel_rfl) trivial ?_; intro _; replace B_:=B_.drew; replace V_:=V_.drew; replace D_:=D_.drew; replace GR:=grown_trans GR (grown_drew' _ _); generalize w5.drew=w6 at B_ V_ D_ GR ⊢
     refine xrH 0 73 rfl (.slice (some ⟨g2,0,none⟩) (i+V.length+(L.length-j)) c2) (fun _ _=>(by kernel_rfl)) trivial ?_; refine xrH 1 74 rfl (.int .i64 ((i:Nat):Int)) (fun _ _=>(by kernel_rfl)) trivial ?_; refine xrH 2 75 rfl (.slice (some ⟨vb,0,none⟩) V.length vc) (fun _ _=>(by kernel_rfl)) trivial ?_
     refine xrH 3 76 rfl (.int .i64 ((V.length:Nat):Int)) (fun _ _=>lenS _ 39 44 (some ⟨vb,0,none⟩) V.length vc rfl Try.underlying39 rfl _) trivial ?_; refine xrH 4 77 rfl (.int .i64 ((i+V.length:Nat):Int)) (fun _ _=>addI .i64 _ _ _ _ _ _ _ rfl rfl rfl (by rw [xw6]; omega) _) trivial ?_
     refine xrH 5 78 rfl (.slice (slp (some ⟨g2,0,none⟩) c2 (i+V.length)) (((i+V.length+(L.length-j)))-(i+V.length)) (c2-(i+V.length))) (fun _ _=>cutOp _ _ _ _ _ _ rfl rfl rfl (sl_l (P:=Try.prog) (t:=39) (by kernel_rfl) (fun _=>by kernel_rfl) (some ⟨g2,0,none⟩) (i+V.length+(L.length-j)) c2 (i+V.length) (by omega) _)) trivial ?_
     refine xrH 6 79 rfl (.slice (some ⟨g,0,none⟩) L.length cap) (fun _ _=>(by kernel_rfl)) trivial ?_; refine xrH 7 80 rfl (.int .i64 ((j:Nat):Int)) (fun _ _=>(by kernel_rfl)) trivial ?_
     refine xrH 8 81 rfl (.slice (slp (some ⟨g,0,none⟩) cap j) (L.length-j) (cap-j)) (fun _ _=>cutOp _ _ _ _ _ _ rfl rfl rfl (sl_l (P:=Try.prog) (t:=39) (by kernel_rfl) (fun _=>by kernel_rfl) (some ⟨g,0,none⟩) L.length cap j (by omega) _)) trivial ?_
     have hlp:(i+V.length)*2+(wrc (L.drop j)).length≤(ov (wrc (L.take i)++zs) (i*2) (wrc V)).length:=by rw [dp_len (by omega)]; rw [ov_len (by rw [hvl]; omega)]; omega
     have hrn:=D_.copies (P:=Try.prog) (dT:=39) (sT:=39) (ty:=3) Try.underlying39 (fun _=>by kernel_rfl) (slp (some ⟨g2,0,none⟩) c2 (i+V.length)) (slp (some ⟨g,0,none⟩) cap j) (((i+V.length+(L.length-j)))-(i+V.length)) (c2-(i+V.length)) (L.length-j) (cap-j) (L.length-j) ((i+V.length)*2) (by simp only [Nat.min_def]; split <;> omega) (wrc (L.drop j)) (dp_len (by omega)) (fun _=>slp_g (by omega)) (fun h0_=>⟨_,slp_g (by omega),wrc_cell B_ (dp_read (by omega))⟩) hlp (wrc_one _)
     refine onlyH (i:=9) (some 82) rfl _ (by kernel_rfl) rfl rfl (copyOp17 _ _ 39 39 _ _ _ rfl rfl rfl hrn) trivial ?_; simp only [aP,lI,l0,lS]; clear hrn; replace B_:=B_.apart (g:=g2) (by omega) (ov (ov (wrc (L.take i)++zs) (i*2) (wrc V)) ((i+V.length)*2) (wrc (L.drop j))).toArray
     replace V_:=V_.apart (g:=g2) (by omega) (ov (ov (wrc (L.take i)++zs) (i*2) (wrc V)) ((i+V.length)*2) (wrc (L.drop j))).toArray; replace D_:=D_.put hlp; replace GR:=grown_new GR hg2 (ov (ov (wrc (L.take i)++zs) (i*2) (wrc V)) ((i+V.length)*2) (wrc (L.drop j))).toArray
     generalize w6.setRow g2 (ov (ov (wrc (L.take i)++zs) (i*2) (wrc V)) ((i+V.length)*2) (wrc (L.drop j))).toArray=w7 at B_ V_ D_ GR ⊢; clear hlp
     refine wpAnyH_done (by kernel_rfl) ?_ _
     first | show Exit.then _ _ _ _ _ | show Exit.inBlock _ _ _ _ _
     go_upto_region 14 with fail; refine wp_region_list ?_; refine xpL (.slice (some ⟨g2,0,none⟩) (i+V.length+(L.length-j)) c2) ?_; refine xpL (.slice (some ⟨g2,0,none⟩) (i+V.length+(L.length-j)) c2) ?_; refine xT ?_; have hpr:=fin_new (L:=L) (V:=V) (i:=i) (j:=j) (zs:=zs) (by omega) (by omega) (by omega)
     have HS:=show Hid _ from (Rep17.new (w:=w) (sp:=some ⟨g,0,none⟩) D_ hpr (k:=(i+V.length+(L.length-j))) (by simp only [List.length_append,List.length_take,List.length_drop]; omega) (by simp only [List.length_append,List.length_take,List.length_drop]; omega) GR hg2); clear B_ V_ D_ GR; go_wp2; go_ret
     exact HS.out
   · go_upto_region 10 with fail
     refine wp_region_list ?_; refine xpL (.int .i64 ((i+V.length+(L.length-j):Nat):Int)) ?_; refine xpL (.slice (some ⟨g,0,none⟩) L.length cap) ?_; refine xaL (.int .i64 ((cap:Nat):Int)) (capS17 _ 39 44 (some ⟨g,0,none⟩) L.length cap rfl Try.underlying39 rfl _) ?_; refine xaL (.bool false) (gtrI .i64 _ _ _ _ _ _ rfl rfl rfl false (decide_eq_false (by omega)) _) ?_; refine xT ?_
     go_upto_region 15 with fail; refine wp_region_list ?_; refine xpL (.slice (some ⟨g,0,none⟩) L.length cap) ?_; refine xpL (.int .i64 ((i+V.length+(L.length-j):Nat):Int)) ?_
     refine xaL (.slice (some ⟨g,0,none⟩) (i+V.length+(L.length-j)) cap) (cutHi _ _ _ _ _ _ rfl rfl rfl (sl_h0 (P:=Try.prog) (t:=39) (by kernel_rfl) (fun _=>by kernel_rfl) g L.length cap (i+V.length+(L.length-j)) (by omega) _)) ?_; refine xpL (.slice (some ⟨g,0,none⟩) (i+V.length+(L.length-j)) cap) ?_; refine xT ?_
     by_cases hfit:i+V.length≤j
     · go_upto_region 16 with fail
       refine wp_region_list ?_; refine xpL (.int .i64 ((i:Nat):Int)) ?_; refine xpL (.slice (some ⟨vb,0,none⟩) V.length vc) ?_; refine xaL (.int .i64 ((V.length:Nat):Int)) (lenS _ 39 44 (some ⟨vb,0,none⟩) V.length vc rfl Try.underlying39 rfl _) ?_; refine xaL (.int .i64 ((i+V.length:Nat):Int)) (addI .i64 _ _ _ _ _ _ _ rfl rfl rfl (by rw [xw6]; omega) _) ?_
       refine xpL (.int .i64 ((j:Nat):Int)) ?_; refine xaL (.bool true) (leqI .i64 _ _ _ _ _ _ rfl rfl rfl true (decide_eq_true (by omega)) _) ?_; refine xT ?_; go_upto_region 17 with fail; refine wp_region_list ?_; refine xpL (.slice (some ⟨g,0,none⟩) (i+V.length+(L.length-j)) cap) ?_; refine xpL (.int .i64 ((i:Nat):Int)) ?_
       refine readL (.slice (slp (some ⟨g,0,none⟩) cap i) ((i+V.length+(L.length-j))-i) (cap-i)) rfl (cutOp _ _ _ _ _ _ rfl rfl rfl (sl_l (P:=Try.prog) (t:=39) (by kernel_rfl) (fun _=>by kernel_rfl) (some ⟨g,0,none⟩) (i+V.length+(L.length-j)) cap i (by omega) _)) ?_; simp only [aP,lI,l0,lS]; refine xpL (.slice (some ⟨vb,0,none⟩) V.length vc) ?_
       have hlp:i*2+(wrc V).length≤(wrc L++ys).length:=by rw [wrc_len]; omega
       have hrn:=B_.copies (P:=Try.prog) (dT:=39) (sT:=39) (ty:=3) Try.underlying39 (fun _=>by kernel_rfl) (slp (some ⟨g,0,none⟩) cap i) (some ⟨vb,0,none⟩) ((i+V.length+(L.length-j))-i) (cap-i) V.length vc V.length (i*2) (by simp only [Nat.min_def]; split <;> omega) (wrc V) (wrc_len _) (fun _=>slp_g (by omega)) (fun _=>⟨_,rfl,wrc_cell V_ fun j_ u_ hu_=>by rw [Nat.zero_add]; exact get_left hu_⟩) hlp (wrc_one _)
       refine xaL _ (copyOp17 _ _ 39 39 _ _ _ rfl rfl rfl hrn) ?_; clear hrn; replace B_:=B_.put hlp; replace V_:=V_.apart (g:=g) (by omega) (ov (wrc L++ys) (i*2) (wrc V)).toArray; replace GR:=grown_trans GR (grown_set _ g (ov (wrc L++ys) (i*2) (wrc V)).toArray); generalize w3.setRow g (ov (wrc L++ys) (i*2) (wrc V)).toArray=w8 at B_ V_ GR ⊢; clear hlp; refine xT ?_
       go_upto_region 18 with fail; refine wp_region_held_drew (S:=fun _=>True) (by kernel_rfl) trivial ?_; intro _; replace B_:=B_.drew; replace V_:=V_.drew; replace GR:=grown_trans GR (grown_drew' _ _); generalize w8.drew=w9 at B_ V_ GR ⊢; refine xrH 0 98 rfl (.slice (some ⟨g,0,none⟩) (i+V.length+(L.length-j)) cap) (fun _ _=>(by kernel_rfl)) trivial ?_
       refine xrH 1 99 rfl (.int .i64 ((i:Nat):Int)) (fun _ _=>(by kernel_rfl)) trivial ?_; refine xrH 2 100 rfl (.slice (some ⟨vb,0,none⟩) V.length vc) (fun _ _=>(by kernel_rfl)) trivial ?_; refine xrH 3 101 rfl (.int .i64 ((V.length:Nat):Int)) (fun _ _=>lenS _ 39 44 (some ⟨vb,0,none⟩) V.length vc rfl Try.underlying39 rfl _) trivial ?_
       refine xrH 4 102 rfl (.int .i64 ((i+V.length:Nat):Int)) (fun _ _=>addI .i64 _ _ _ _ _ _ _ rfl rfl rfl (by rw [xw6]; omega) _) trivial ?_
       refine xrH 5 103 rfl (.slice (slp (some ⟨g,0,none⟩) cap (i+V.length)) ((i+V.length+(L.length-j))-(i+V.length)) (cap-(i+V.length))) (fun _ _=>cutOp _ _ _ _ _ _ rfl rfl rfl (sl_l (P:=Try.prog) (t:=39) (by kernel_rfl) (fun _=>by kernel_rfl) (some ⟨g,0,none⟩) (i+V.length+(L.length-j)) cap (i+V.length) (by omega) _)) trivial ?_
       refine xrH 6 104 rfl (.slice (some ⟨g,0,none⟩) L.length cap) (fun _ _=>(by kernel_rfl)) trivial ?_; refine xrH 7 105 rfl (.int .i64 ((j:Nat):Int)) (fun _ _=>(by kernel_rfl)) trivial ?_
       refine xrH 8 106 rfl (.slice (slp (some ⟨g,0,none⟩) cap j) (L.length-j) (cap-j)) (fun _ _=>cutOp _ _ _ _ _ _ rfl rfl rfl (sl_l (P:=Try.prog) (t:=39) (by kernel_rfl) (fun _=>by kernel_rfl) (some ⟨g,0,none⟩) L.length cap j (by omega) _)) trivial ?_
       have hlp:(i+V.length)*2+(wrc (L.drop j)).length≤(ov (wrc L++ys) (i*2) (wrc V)).length:=by rw [dp_len (by omega)]; rw [ov_len (by rw [hvl]; omega)]; omega
       have hrn:=B_.copies (P:=Try.prog) (dT:=39) (sT:=39) (ty:=3) Try.underlying39 (fun _=>by kernel_rfl) (slp (some ⟨g,0,none⟩) cap (i+V.length)) (slp (some ⟨g,0,none⟩) cap j) ((i+V.length+(L.length-j))-(i+V.length)) (cap-(i+V.length)) (L.length-j) (cap-j) (L.length-j) ((i+V.length)*2) (by simp only [Nat.min_def]; split <;> omega) (wrc (L.drop j)) (dp_len (by omega)) (fun _=>slp_g (by omega)) (fun h0_=>⟨_,slp_g (by omega),wrc_cell B_ (fun k_ u_ hu_=>by rw [ov_get (by omega),if_neg (by omega),if_neg (by omega)]; exact dp_read (by omega) k_ u_ hu_)⟩) hlp (wrc_one _)
       refine onlyH (i:=9) (some 107) rfl _ (by kernel_rfl) rfl rfl (copyOp17 _ _ 39 39 _ _ _ rfl rfl rfl hrn) trivial ?_; simp only [aP,lI,l0,lS]; clear hrn; replace B_:=B_.put hlp; replace V_:=V_.apart (g:=g) (by omega) (ov (ov (wrc L++ys) (i*2) (wrc V)) ((i+V.length)*2) (wrc (L.drop j))).toArray
       replace GR:=grown_trans GR (grown_set _ g (ov (ov (wrc L++ys) (i*2) (wrc V)) ((i+V.length)*2) (wrc (L.drop j))).toArray); generalize w9.setRow g (ov (ov (wrc L++ys) (i*2) (wrc V)) ((i+V.length)*2) (wrc (L.drop j))).toArray=w10 at B_ V_ GR ⊢; clear hlp
       refine wpAnyH_done (by kernel_rfl) ?_ _
       first | show Exit.then _ _ _ _ _ | show Exit.inBlock _ _ _ _ _
       have hol:=ov_len (cs:=ov (wrc L++ys) (i*2) (wrc V)) (o:=(i+V.length)*2) (vs:=wrc (L.drop j)) (by rw [ov_len (by rw [hvl]; omega),dp_len hj]; omega)
       rw [ov_len (cs:=wrc L++ys) (by rw [hvl]; omega)] at hol
       have hpr:=fin_easy (L:=L) (V:=V) (i:=i) (j:=j) (ys:=ys) (by omega) (by omega) (by omega); go_upto_region 19 with fail; refine wp_region_list ?_; refine xpL (.slice (some ⟨g,0,none⟩) L.length cap) ?_; refine xpL (.int .i64 ((i+V.length+(L.length-j):Nat):Int)) ?_
       refine readL (.slice (slp (some ⟨g,0,none⟩) cap (i+V.length+(L.length-j))) (L.length-(i+V.length+(L.length-j))) (cap-(i+V.length+(L.length-j)))) rfl (cutOp _ _ _ _ _ _ rfl rfl rfl (sl_l (P:=Try.prog) (t:=39) (by kernel_rfl) (fun _=>by kernel_rfl) (some ⟨g,0,none⟩) L.length cap (i+V.length+(L.length-j)) (by omega) _)) ?_; simp only [aP,lI,l0,lS]
       obtain ⟨vz,hvz,hrn⟩:=B_.clears (P:=Try.prog) (t:=39) (ty:=0) Try.underlying39 (fun _=>by kernel_rfl) (slp (some ⟨g,0,none⟩) cap (i+V.length+(L.length-j))) (L.length-(i+V.length+(L.length-j))) (cap-(i+V.length+(L.length-j))) ((i+V.length+(L.length-j))*2) (fun _=>slp_g (by omega)) ((by rw [hol]; omega))
       have hlp:(i+V.length+(L.length-j))*2+vz.length≤(ov (ov (wrc L++ys) (i*2) (wrc V)) ((i+V.length)*2) (wrc (L.drop j))).length:=by rw [hvz]; exact (by rw [hol]; omega)
       refine actL _ rfl (clearOp17 _ 39 _ _ rfl rfl hrn) ?_; simp only [Act.put]; clear hrn; have hpr:=pre_ov hpr hlp (by rw [wrc_len]; simp only [List.length_append,List.length_take,List.length_drop]; omega); replace B_:=B_.put hlp
       replace V_:=V_.apart (g:=g) (by omega) (ov (ov (ov (wrc L++ys) (i*2) (wrc V)) ((i+V.length)*2) (wrc (L.drop j))) ((i+V.length+(L.length-j))*2) vz).toArray; replace GR:=grown_trans GR (grown_set _ g (ov (ov (ov (wrc L++ys) (i*2) (wrc V)) ((i+V.length)*2) (wrc (L.drop j))) ((i+V.length+(L.length-j))*2) vz).toArray)
       generalize w10.setRow g (ov (ov (ov (wrc L++ys) (i*2) (wrc V)) ((i+V.length)*2) (wrc (L.drop j))) ((i+V.length+(L.length-j))*2) vz).toArray=w11 at B_ V_ GR ⊢; clear hlp; refine xT ?_; go_upto_region 20 with fail; refine wp_region_list ?_; refine xpL (.slice (some ⟨g,0,none⟩) (i+V.length+(L.length-j)) cap) ?_
       refine xpL (.slice (some ⟨g,0,none⟩) (i+V.length+(L.length-j)) cap) ?_; refine xT ?_; have HS:=show Hid _ from (Rep17.of (w:=w) (sp:=some ⟨g,0,none⟩) B_ hpr (k:=(i+V.length+(L.length-j))) (by simp only [List.length_append,List.length_take,List.length_drop]; omega) (by simp only [List.length_append,List.length_take,List.length_drop]; omega) GR); clear B_ V_ GR
       go_wp2; go_ret
       exact HS.out
     · go_upto_region 16 with fail
       refine wp_region_list ?_; refine xpL (.int .i64 ((i:Nat):Int)) ?_; refine xpL (.slice (some ⟨vb,0,none⟩) V.length vc) ?_; refine xaL (.int .i64 ((V.length:Nat):Int)) (lenS _ 39 44 (some ⟨vb,0,none⟩) V.length vc rfl Try.underlying39 rfl _) ?_; refine xaL (.int .i64 ((i+V.length:Nat):Int)) (addI .i64 _ _ _ _ _ _ _ rfl rfl rfl (by rw [xw6]; omega) _) ?_
       refine xpL (.int .i64 ((j:Nat):Int)) ?_; refine xaL (.bool false) (leqI .i64 _ _ _ _ _ _ rfl rfl rfl false (decide_eq_false (by omega)) _) ?_; refine xT ?_; go_upto_region 21 with fail; refine wp_region_list ?_; refine xpL (.slice (some ⟨g,0,none⟩) (i+V.length+(L.length-j)) cap) ?_; refine xpL (.int .i64 ((i:Nat):Int)) ?_
       refine xpL (.slice (some ⟨vb,0,none⟩) V.length vc) ?_; refine xaL (.int .i64 ((V.length:Nat):Int)) (lenS _ 39 44 (some ⟨vb,0,none⟩) V.length vc rfl Try.underlying39 rfl _) ?_; refine xaL (.int .i64 ((i+V.length:Nat):Int)) (addI .i64 _ _ _ _ _ _ _ rfl rfl rfl (by rw [xw6]; omega) _) ?_
       refine readL (.slice (slp (some ⟨g,0,none⟩) cap (i+V.length)) ((i+V.length+(L.length-j))-(i+V.length)) (cap-(i+V.length))) rfl (cutOp _ _ _ _ _ _ rfl rfl rfl (sl_l (P:=Try.prog) (t:=39) (by kernel_rfl) (fun _=>by kernel_rfl) (some ⟨g,0,none⟩) (i+V.length+(L.length-j)) cap (i+V.length) (by omega) _)) ?_; simp only [aP,lI,l0,lS]
       refine xpL (.slice (some ⟨vb,0,none⟩) V.length vc) ?_
       rw [slp_g (show cap≠i+V.length by omega)]
       refine xaL (.bool false) (callX17 50 _ _ _ _ _ _ rfl rfl rfl (hr:=B_.overlaps Try.underlying39 (fun _=>by kernel_rfl) V_ (by omega) (by omega) ((i+V.length)*2) (0) ((i+V.length+(L.length-j))-(i+V.length)) (cap-(i+V.length)) V.length vc)) ?_; refine xpL (.bool true) ?_; refine xT ?_; go_upto_region 22 with fail
       refine wp_region_held_drew (S:=fun _=>True) (by kernel_rfl) trivial ?_; intro _; replace B_:=B_.drew; replace V_:=V_.drew; replace GR:=grown_trans GR (grown_drew' _ _); generalize w3.drew=w12 at B_ V_ GR ⊢; refine xrH 0 121 rfl (.slice (some ⟨g,0,none⟩) (i+V.length+(L.length-j)) cap) (fun _ _=>(by kernel_rfl)) trivial ?_
       refine xrH 1 122 rfl (.int .i64 ((i:Nat):Int)) (fun _ _=>(by kernel_rfl)) trivial ?_; refine xrH 2 123 rfl (.slice (some ⟨vb,0,none⟩) V.length vc) (fun _ _=>(by kernel_rfl)) trivial ?_; refine xrH 3 124 rfl (.int .i64 ((V.length:Nat):Int)) (fun _ _=>lenS _ 39 44 (some ⟨vb,0,none⟩) V.length vc rfl Try.underlying39 rfl _) trivial ?_
       refine xrH 4 125 rfl (.int .i64 ((i+V.length:Nat):Int)) (fun _ _=>addI .i64 _ _ _ _ _ _ _ rfl rfl rfl (by rw [xw6]; omega) _) trivial ?_
       refine xrH 5 126 rfl (.slice (slp (some ⟨g,0,none⟩) cap (i+V.length)) ((i+V.length+(L.length-j))-(i+V.length)) (cap-(i+V.length))) (fun _ _=>cutOp _ _ _ _ _ _ rfl rfl rfl (sl_l (P:=Try.prog) (t:=39) (by kernel_rfl) (fun _=>by kernel_rfl) (some ⟨g,0,none⟩) (i+V.length+(L.length-j)) cap (i+V.length) (by omega) _)) trivial ?_
       refine xrH 6 127 rfl (.slice (some ⟨g,0,none⟩) L.length cap) (fun _ _=>(by kernel_rfl)) trivial ?_; refine xrH 7 128 rfl (.int .i64 ((j:Nat):Int)) (fun _ _=>(by kernel_rfl)) trivial ?_
       refine xrH 8 129 rfl (.slice (slp (some ⟨g,0,none⟩) cap j) (L.length-j) (cap-j)) (fun _ _=>cutOp _ _ _ _ _ _ rfl rfl rfl (sl_l (P:=Try.prog) (t:=39) (by kernel_rfl) (fun _=>by kernel_rfl) (some ⟨g,0,none⟩) L.length cap j (by omega) _)) trivial ?_
       have hlp:(i+V.length)*2+(wrc (L.drop j)).length≤(wrc L++ys).length:=by rw [dp_len (by omega)]; omega
       have hrn:=B_.copies (P:=Try.prog) (dT:=39) (sT:=39) (ty:=3) Try.underlying39 (fun _=>by kernel_rfl) (slp (some ⟨g,0,none⟩) cap (i+V.length)) (slp (some ⟨g,0,none⟩) cap j) ((i+V.length+(L.length-j))-(i+V.length)) (cap-(i+V.length)) (L.length-j) (cap-j) (L.length-j) ((i+V.length)*2) (by simp only [Nat.min_def]; split <;> omega) (wrc (L.drop j)) (dp_len (by omega)) (fun _=>slp_g (by omega)) (fun h0_=>⟨_,slp_g (by omega),wrc_cell B_ (dp_read (by omega))⟩) hlp (wrc_one _)
       refine onlyH (i:=9) (some 130) rfl _ (by kernel_rfl) rfl rfl (copyOp17 _ _ 39 39 _ _ _ rfl rfl rfl hrn) trivial ?_; simp only [aP,lI,l0,lS]; clear hrn; replace B_:=B_.put hlp; replace V_:=V_.apart (g:=g) (by omega) (ov (wrc L++ys) ((i+V.length)*2) (wrc (L.drop j))).toArray
       replace GR:=grown_trans GR (grown_set _ g (ov (wrc L++ys) ((i+V.length)*2) (wrc (L.drop j))).toArray); generalize w12.setRow g (ov (wrc L++ys) ((i+V.length)*2) (wrc (L.drop j))).toArray=w13 at B_ V_ GR ⊢; clear hlp
       refine wpAnyH_done (by kernel_rfl) ?_ _
       first | show Exit.then _ _ _ _ _ | show Exit.inBlock _ _ _ _ _
       go_upto_region 23 with fail; refine wp_region_list ?_; refine xpL (.slice (some ⟨g,0,none⟩) (i+V.length+(L.length-j)) cap) ?_; refine xpL (.int .i64 ((i:Nat):Int)) ?_
       refine readL (.slice (slp (some ⟨g,0,none⟩) cap i) ((i+V.length+(L.length-j))-i) (cap-i)) rfl (cutOp _ _ _ _ _ _ rfl rfl rfl (sl_l (P:=Try.prog) (t:=39) (by kernel_rfl) (fun _=>by kernel_rfl) (some ⟨g,0,none⟩) (i+V.length+(L.length-j)) cap i (by omega) _)) ?_; simp only [aP,lI,l0,lS]; refine xpL (.slice (some ⟨vb,0,none⟩) V.length vc) ?_
       have hlp:i*2+(wrc V).length≤(ov (wrc L++ys) ((i+V.length)*2) (wrc (L.drop j))).length:=by rw [wrc_len]; rw [ov_len (by rw [dp_len (by omega)]; omega)]; omega
       have hrn:=B_.copies (P:=Try.prog) (dT:=39) (sT:=39) (ty:=3) Try.underlying39 (fun _=>by kernel_rfl) (slp (some ⟨g,0,none⟩) cap i) (some ⟨vb,0,none⟩) ((i+V.length+(L.length-j))-i) (cap-i) V.length vc V.length (i*2) (by simp only [Nat.min_def]; split <;> omega) (wrc V) (wrc_len _) (fun _=>slp_g (by omega)) (fun _=>⟨_,rfl,wrc_cell V_ fun j_ u_ hu_=>by rw [Nat.zero_add]; exact get_left hu_⟩) hlp (wrc_one _)
       refine xaL _ (copyOp17 _ _ 39 39 _ _ _ rfl rfl rfl hrn) ?_; clear hrn; replace B_:=B_.put hlp; replace V_:=V_.apart (g:=g) (by omega) (ov (ov (wrc L++ys) ((i+V.length)*2) (wrc (L.drop j))) (i*2) (wrc V)).toArray; replace GR:=grown_trans GR (grown_set _ g (ov (ov (wrc L++ys) ((i+V.length)*2) (wrc (L.drop j))) (i*2) (wrc V)).toArray)
       generalize w13.setRow g (ov (ov (wrc L++ys) ((i+V.length)*2) (wrc (L.drop j))) (i*2) (wrc V)).toArray=w14 at B_ V_ GR ⊢; clear hlp; refine xT ?_; go_upto_region 24 with fail; refine wp_region_list ?_; refine xpL (.slice (some ⟨g,0,none⟩) (i+V.length+(L.length-j)) cap) ?_; refine xpL (.slice (some ⟨g,0,none⟩) (i+V.length+(L.length-j)) cap) ?_; refine xT ?_
       have hpr:=fin_hard (L:=L) (V:=V) (i:=i) (j:=j) (ys:=ys) (by omega) (by omega) (by omega); have HS:=show Hid _ from (Rep17.of (w:=w) (sp:=some ⟨g,0,none⟩) B_ hpr (k:=(i+V.length+(L.length-j))) (by simp only [List.length_append,List.length_take,List.length_drop]; omega) (by simp only [List.length_append,List.length_take,List.length_drop]; omega) GR)
       clear B_ V_ GR; go_wp2; go_ret
       exact HS.out
theorem vrep_any (w:World) (L V:Rgs17) (sp:Option Addr) (i j cap vb vc:Nat) (hij:i≤j) (hj:j≤L.length) (hcap:L.length≤cap) (hln:L.length<1000000) (hv:V.length≤2) (hv0:i=j→0<V.length) (O_:w.ownsRow 0 44 2 (.slice sp L.length cap) L.length (wrc L)) (V_:w.ownsRow 0 44 2 (.slice (some ⟨vb,0,none⟩) V.length vc) V.length (wrc V)) (hne:vb∉ob sp) :
 Calls Try.prog 47 #[.slice sp L.length cap,.int .i64 ((i:Nat):Int),.int .i64 ((j:Nat):Int),.slice (some ⟨vb,0,none⟩) V.length vc] w fun e w'=>Rep17 w sp (L.take i++(V++L.drop j)) e w':=by
 rcases Nat.lt_or_ge i j with h | h
 · obtain ⟨g,rfl⟩:=row_some16 O_ (by omega)
   obtain ⟨ys,B,hcap,_⟩:=Blk.of O_
   obtain ⟨vs,BV,hvc,_⟩:=Blk.of V_
   exact vrep_lt w L V i j g cap vb vc ys vs h hj hln hv B BV (fun e=>hne (by rw [e]; exact mS)) hcap hvc
 · obtain rfl:j=i:=by omega
   exact vrep_eq w L V sp j cap vb vc hj hcap hln hv (hv0 rfl) O_ V_ hne
theorem rad_no {L:Rgs17} {f t:Int} (h:rhi t≤rlo f):rad L f t=L∧radN L f t=0:=by
 have e:rad L f t=L:=if_pos h
 refine ⟨e,?_⟩
 unfold radN
 rw [e]
 omega
theorem Mm.keepS {w0 w:World} {l:List (Nat × List Value)} {R ro:Nat} {cs:List Value} {v:Value} (M:Mm w0 ((R,cs)::l) w) (h:cs[ro]?=some v):Mm w0 ((R,cs.set ro v)::l) w:=by
 have e:cs.set ro v=cs:=by
  apply List.ext_getElem?
  intro i
  rw [List.getElem?_set]
  split
  · rename_i c
    subst c
    split
    · exact h.symm
    · rename_i d
      rw [List.getElem?_eq_none (by omega)]
  · rfl
 rw [e]
 exact M
theorem mid_cell {L:Rgs17} {i j k:Nat} {u:Value} (hi:i≤L.length) (h:(wrc (mid17 L i j))[k]?=some u):(wrc L)[i*2+k]?=some u:=by
 have h1:(wrc (L.drop i))[k]?=some u:=by
  have e:wrc (L.drop i)=wrc (mid17 L i j)++wrc ((L.drop i).drop (j-i)):=by unfold mid17; rw [← wrc_app,List.take_append_drop]
  rw [e]
  exact get_left h
 rw [dp_get hi,Nat.add_comm] at h1
 exact h1
theorem NewW.mid {w:World} {L:Rgs17} {sp:Option Addr} {cap i j:Nat} (hij:i≤j) (hj:j≤L.length) (h:NewW w 0 L (.slice sp L.length cap)):NewW w 0 (mid17 L i j) (.slice (slp sp cap i) (mid17 L i j).length (cap-i)):=by
 obtain ⟨sp',cap',hv,hc,hn,hs,ha⟩:=h
 injection hv with h1 _ h3
 subst h1; subst h3
 refine ⟨_,_,rfl,by rw [mid_len hj]; omega,fun e=>?_,fun k u hu=>?_,fun a e=>?_⟩
 · unfold slp at e
   split at e
   · omega
   · cases sp with
     | none=>have:=hn rfl; omega
     | some ad=>cases e
 · obtain ⟨ad,rfl,hcl⟩:=hs _ _ (mid_cell (by omega) hu)
   have hk:k<(j-i)*2:=by
    have:=(List.getElem?_eq_some_iff.1 hu).1
    rw [wrc_len,mid_len hj] at this
    exact this
   refine ⟨ad.add (i*2),?_,by rw [Addr.add_add]; exact hcl⟩
   unfold slp
   rw [if_neg (by omega)]
   rfl
 · unfold slp at e
   split at e
   · exact ha a e
   · cases sp with
     | none=>cases e
     | some ad =>
       injection e with e
       subst e
       have:=ha ad rfl
       rw [add_block]
       exact this
theorem Mm.rep17 {w0 w w2:World} {l:List (Nat × List Value)} {R:Nat} {cs:List Value} {sp sq:Option Addr} {m cq:Nat} {xs:List Value} (M:Mm w0 ((R,cs)::(obs sp++l)) w) (hg:w.grownBy w2 (sp.map (·.block))) (O:w2.ownsRow 0 44 2 (.slice sq m cq) m xs) (hq:∀ b∈ob sq,b∈ob sp∨w.heap.size≤b):Mm w0 ((R,cs)::(obs sq++l)) w2:=by
 have Mp:=M.perm (pull0 [(R,cs)] (obs sp) l)
 have Ml:Mm w0 ((R,cs)::l) w:=Mp.sub _ (List.sublist_append_right _ _)
 have hap:∀ b∈ob sp,w0.heap.size≤b∧∀ p∈(R,cs)::l,p.1≠b:=fun b hb=>by
  have hm:(b,[])∈obs sp:=List.mem_map.2 ⟨b,hb,rfl⟩
  refine ⟨(Mp.rows _ (List.mem_append_left _ hm)).2.1,fun p hp e=>?_⟩
  exact (List.pairwise_append.1 Mp.apart).2.2 (b,[]) hm p hp e.symm
 have Ml2:=Ml.grownN hg (fun b hb=>hap b (by
  cases sp with
  | none=>cases hb
  | some a=>injection hb with hb; subst hb; exact mS))
 cases sq with
 | none=>exact Ml2
 | some a =>
   have hl:=World.ownsRow.lt O a.block rfl; have h1:=hq a.block mS
   have M3:Mm w0 (obs (some a)++((R,cs)::l)) w2:=Ml2.addB (by
    rcases h1 with h | h
    · exact (hap _ h).1
    · exact xnT Ml.below.size h) hl.2 fun p hp e=>by
      rcases h1 with h | h
      · exact (hap _ h).2 p hp e
      · have:=(Ml.rows p hp).2.2
        omega
   exact M3.perm (pull0 [(R,cs)] (obs (some a)) l).symm
theorem Off.rep {w w1 w2:World} {R:Nat} {sp:Option Addr} (h:Off (R::ob sp) w w1) (g:w1.grownBy w2 (sp.map (·.block))):Off (R::ob sp) w w2:=h.grown g fun b hb=>.inl (by
 cases sp with
 | none=>cases hb
 | some a=>injection hb with hb; subst hb; exact mT _ mS)
theorem vreplace_any (w0 w:World) (R ro:Nat) (sp:Option Addr) (cap:Nat) (L V:Rgs17) (l:List (Nat × List Value)) (i j vb vc:Nat) (hc:Can L) (hcv:Can V) (hij:i≤j) (hj:j≤L.length) (hln:L.length<1000000) (hv:V.length≤2) (hv0:i=j→0<V.length) {cs:List Value} (M0:Mm w0 ((R,cs)::(obs sp++l)) w) (hcs:cs[ro]?=some (.slice sp L.length cap)) (O_:w.ownsRow 0 44 2 (.slice sp L.length cap) L.length (wrc L)) (V_:w.ownsRow 0 44 2 (.slice (some ⟨vb,0,none⟩) V.length vc) V.length (wrc V)) (hvs:vb∉ob sp) :
 Calls Try.prog 39 #[.pointer (some ⟨R,ro,none⟩),.int .i64 ((i:Nat):Int),.int .i64 ((j:Nat):Int),.slice (some ⟨vb,0,none⟩) V.length vc] w fun e w'=>∃ sq cq,e=.returned (.int .i64 (rtot V-rtot (mid17 L i j)))∧Mm w0 ((R,cs.set ro (.slice sq (L.take i++(V++L.drop j)).length cq))::(obs sq++l)) w'∧w'.ownsRow 0 44 2 (.slice sq (L.take i++(V++L.drop j)).length cq) (L.take i++(V++L.drop j)).length (wrc (L.take i++(V++L.drop j)))∧Off (R::ob sp) w w'∧∀ b_,b_∈ob sq→b_∈ob sp∨w.heap.size≤b_:=by
 have hro:ro<cs.length:=(List.getElem?_eq_some_iff.1 hcs).1
 have hR:=M0.get mS ro _ hcs; have N:=NewW.ofOwn O_; have NV:=NewW.ofOwn V_; have NM:=NewW.mid hij hj N
 have hcap:L.length≤cap:=by obtain ⟨_,_,e_,h_,_⟩:=N; injection e_ with _ _ e3; omega
 have hb1:=rtot_in hcv; have hb2:=rtot_in (mid_can hc i j); have M:=Mm.init w
 go_enter Try.func39,Try.ntmps39
 go_upto_region 0 with fail; refine wp_region_list ?_; refine xpL (.int .i64 0) ?_; refine xT ?_; go_upto_region 1 with fail; refine wp_region_held_drew (S:=fun w'=>Below w.heap.size w w') (by kernel_rfl) M.drew.below ?_; intro _; replace M:=M.drew; have hdr:=(Below.refl w.heap.size w).drew; clear hdr; generalize w.drew=w1 at M  ⊢
 refine xrH 0 10 rfl (.slice (some ⟨vb,0,none⟩) V.length vc) (fun _ hS=>(by kernel_rfl)) M.below ?_; refine xrH 2 12 rfl (.pointer (some ⟨R,ro,none⟩)) (fun _ hS=>(by kernel_rfl)) M.below ?_; refine xrH 3 13 rfl (.pointer (some ⟨R,ro,none⟩)) (fun _ hS=>(by kernel_rfl)) M.below ?_; refine xrH 4 14 rfl (.pointer (some ⟨R,ro,none⟩)) (fun _ hS=>(by kernel_rfl)) M.below ?_
 refine xrH 5 15 rfl (.slice sp L.length cap) (fun _ hS=>load1 39 _ ⟨R,ro,none⟩ _ rfl rfl (fun _=>by kernel_rfl) (cellT hS hR)) M.below ?_; refine xrH 6 16 rfl (.int .i64 ((i:Nat):Int)) (fun _ hS=>(by kernel_rfl)) M.below ?_; refine xrH 7 17 rfl (.int .i64 ((j:Nat):Int)) (fun _ hS=>(by kernel_rfl)) M.below ?_
 refine xrH 8 18 rfl (.slice (slp sp cap i) ((mid17 L i j).length) (cap-i)) (fun _ hS=>by rw [mid_len hj]; exact cutLHop _ _ _ _ _ _ _ _ rfl rfl rfl rfl (sl_lh (P:=Try.prog) (t:=39) (by kernel_rfl) (fun _=>by kernel_rfl) sp L.length cap i j hij (by omega) _)) M.below ?_
 have key:=vsum_any (some ⟨vb,0,none⟩) vc V hcv (by omega) _ (NewW.below NV M.below); refine callH (i:=1) (some 11) rfl (by kernel_rfl) rfl rfl (fun _=>by kernel_rfl) key ?_; clear key; rintro e w2 ⟨rfl,l⟩; replace M:=M.call l; clear l
 refine ⟨_,rfl,M.below,?_⟩
 simp only [aP,lI,l0,lS]; have key:=vsum_any (slp sp cap i) (cap-i) (mid17 L i j) (mid_can hc i j) (by rw [mid_len hj]; omega) _ (NewW.below NM M.below); refine callH (i:=9) (some 19) rfl (by kernel_rfl) rfl rfl (fun _=>by kernel_rfl) key ?_; clear key; rintro e w3 ⟨rfl,l⟩; replace M:=M.call l; clear l
 refine ⟨_,rfl,M.below,?_⟩
 simp only [aP,lI,l0,lS]; refine xrH 10 20 rfl (.int .i64 (rtot V-rtot (mid17 L i j))) (fun _ hS=>subI .i64 _ _ _ _ _ _ _ rfl rfl rfl (by rw [xw6]; omega) _) M.below ?_; refine xrH 11 9 rfl (.int .i64 (rtot V-rtot (mid17 L i j))) (fun _ hS=>(by kernel_rfl)) M.below ?_
 refine wpAnyH_done (by kernel_rfl) ?_ _
 first | show Exit.then _ _ _ _ _ | show Exit.inBlock _ _ _ _ _
 have OF:Off (R::ob sp) w w3:=(Off.refl _ _).below M.below
 replace O_:=ownsRow_bel O_ M.below; replace V_:=ownsRow_bel V_ M.below; replace M0:=M0.call M.below; clear M NV NM N hR; have M:=M0; clear M0; go_upto_region 2 with fail; refine wp_region_list ?_; refine xpL (.pointer (some ⟨R,ro,none⟩)) ?_; refine xpL (.pointer (some ⟨R,ro,none⟩)) ?_; refine xpL (.pointer (some ⟨R,ro,none⟩)) ?_; refine xpL (.pointer (some ⟨R,ro,none⟩)) ?_
 refine xaL (.slice sp L.length cap) (load1 39 _ ⟨R,ro,none⟩ _ rfl rfl (fun _=>by kernel_rfl) (M.get mS ro _ hcs)) ?_; refine xpL (.int .i64 ((i:Nat):Int)) ?_; refine xpL (.int .i64 ((j:Nat):Int)) ?_; refine xpL (.slice (some ⟨vb,0,none⟩) V.length vc) ?_; refine xcL (vrep_any _ L V sp i j cap vb vc hij hj hcap hln hv hv0 O_ V_ hvs) ?_; rintro e w4 ⟨sq,cq,rfl,O2,hgr,hnb⟩
 replace M:=M.rep17 hgr O2 hnb
 have hLs:∀ b_,b_∈ob sq→b_∈ob sp∨w.heap.size≤b_:=fun b_ hb_=>(hnb b_ hb_).imp id (fun h_=>xnT OF.size h_)
 replace OF:=OF.rep hgr; clear O_ V_ hgr hnb; have O_:=O2; clear O2; refine xeL ?_; refine xpL (.pointer (some ⟨R,ro,none⟩)) ?_; refine xpL (.pointer (some ⟨R,ro,none⟩)) ?_; refine skipOpL rfl (storeAny (.slice sq ((L.take i++(V++L.drop j)).length) cq) R ro 39 _ _ rfl rfl rfl rfl rfl (M.isSome mS ro hro) (M.free mS ro hro) (by kernel_rfl)) ?_; simp only [Act.put]
 replace M:=M.set ro hro (.slice sq ((L.take i++(V++L.drop j)).length) cq); replace O_:=ownsRow_away O_ ((Off.refl [R] _).set (b:=R) mS ro (.slice sq ((L.take i++(V++L.drop j)).length) cq)) (fun b_ hb_=>by obtain rfl:=xm1 hb_; exact M.awayB (fun p_ hp_=>by simp [hp_]))
 replace OF:=OF.and1 ((Off.refl [R] _).set (b:=R) mS ro (.slice sq ((L.take i++(V++L.drop j)).length) cq)) (.inl mS); generalize w4.setCell ⟨R,ro,none⟩ (.slice sq ((L.take i++(V++L.drop j)).length) cq)=w5 at M O_ OF ⊢
 replace M:Mm w0 ((R,cs.set ro (.slice sq ((L.take i++(V++L.drop j)).length) cq))::(obs sq++l)) w5:=M
 refine xT ?_; go_upto_region 3 with fail; refine wp_region_list ?_; refine xpL (.int .i64 (rtot V-rtot (mid17 L i j))) ?_; refine xpL (.int .i64 (rtot V-rtot (mid17 L i j))) ?_; refine xT ?_; have HS:=show Hid _ from (And.intro M (And.intro O_ (And.intro OF hLs))); clear M O_ OF hLs; go_wp2; go_ret
 first | exact ⟨sq,cq,rfl,HS.out⟩ | exact ⟨rfl,sq,cq,HS.out⟩
theorem rad_is17 {L:Rgs17} {f t:Int} (h:¬ rhi t≤rlo f):rad L f t=rins L (rlo f) (rhi t):=if_neg h
theorem one_can {a b:Int} (h0:0≤a) (h1:a<b) (h2:b≤4611686018427387904):Can [(a,b)]:=⟨fun p hp=>(by obtain rfl:=xm1 hp; exact ⟨h0,h1,h2⟩),List.pairwise_singleton _ _⟩
theorem vb_away {w w':World} {w0:World} {l:List (Nat × List Value)} {R:Nat} {cs:List Value} {sp:Option Addr} {m:List (Nat × List Value)} (M0:Mm w0 ((R,cs)::(obs sp++l)) w) {vb:Nat} {ds:List Value} (M:Mm w ((vb,ds)::m) w'):vb∉ob sp:=fun hb=>by
 have h1:=(M0.rows (vb,[]) (mT _ (List.mem_append_left _ (List.mem_map.2 ⟨vb,hb,rfl⟩)))).2.2; have h2:=(M.rows _ mS).2.1
 simp only at h1 h2
 omega
theorem vadd_any (w0 w:World) (R ro:Nat) (sp:Option Addr) (cap:Nat) (L:Rgs17) (l:List (Nat × List Value)) (hc:Can L) (hln:L.length<1000000) (f t:Int) {cs:List Value} (M0:Mm w0 ((R,cs)::(obs sp++l)) w) (hcs:cs[ro]?=some (.slice sp L.length cap)) (O_:w.ownsRow 0 44 2 (.slice sp L.length cap) L.length (wrc L)) :
 Calls Try.prog 24 #[.pointer (some ⟨R,ro,none⟩),.int .i64 f,.int .i64 t] w fun e w'=>∃ sq cq,e=.returned (.int .i64 (radN L f t))∧Mm w0 ((R,cs.set ro (.slice sq (rad L f t).length cq))::(obs sq++l)) w'∧w'.ownsRow 0 44 2 (.slice sq (rad L f t).length cq) (rad L f t).length (wrc (rad L f t))∧Off (R::ob sp) w w'∧∀ b_,b_∈ob sq→b_∈ob sp∨w.heap.size≤b_:=by
 have hR:=M0.get mS ro _ hcs; have N:=NewW.ofOwn O_; have M:=Mm.init w
 go_enter Try.func24,Try.ntmps24
 go_upto_region 0 with fail; refine wp_region_list ?_; refine xpL (.int .i64 0) ?_; refine xT ?_; go_upto_region 1 with fail; refine wp_region_list ?_; refine xpL (.int .i64 f) ?_; refine xpL (.int .i64 t) ?_; have key:=vwith_any f t w; refine xcL key ?_; clear key; rintro e w1 ⟨rfl,l⟩; replace M:=M.call l; clear l; refine xeL ?_
 refine actL (w':=w1.alloc (.cells #[.int .i64 0,.int .i64 0] 44)) (.pointer (some ⟨w1.heap.size,0,none⟩)) rfl (by kernel_rfl) ?_; simp only [aP,lI,l0,lS]
 have hB_B2:w.heap.size≤w1.heap.size:=M.below.size
 replace M:=M.box #[.int .i64 0,.int .i64 0] 44 w1.heap.size rfl; generalize w1.alloc (.cells #[.int .i64 0,.int .i64 0] 44)=w2 at M  ⊢; generalize eB:w1.heap.size=B2 at M hB_B2  ⊢
 have hE_B2:w1.heap.size≤B2:=Nat.le_of_eq eB
 have hF_B2:B2≤w1.heap.size:=Nat.le_of_eq eB.symm
 clear eB
 replace M:Mm w ((B2,[.int .i64 0,.int .i64 0])::([]:List (Nat × List Value))) w2:=M
 refine skipOpL rfl (storeP [.int .i64 (rlo f),.int .i64 (rhi t)] B2 0 44 _ _ rfl rfl rfl (M.thereP mS 0 2 (Nat.le_of_ble_eq_true rfl)) (by kernel_rfl) (List.all_eq_true.1 (rfl:([.int .i64 (rlo f),.int .i64 (rhi t)]:List Value).all (fun u=>u.oneCell')=true))) ?_; simp only [Act.put]; replace M:=M.setPart [.int .i64 (rlo f),.int .i64 (rhi t)] 0 (Nat.le_of_ble_eq_true rfl)
 generalize w2.setCells B2 0 [.int .i64 (rlo f),.int .i64 (rhi t)]=w3 at M  ⊢
 replace M:Mm w ((B2,[.int .i64 (rlo f),.int .i64 (rhi t)])::([]:List (Nat × List Value))) w3:=M
 refine xT ?_
 by_cases hge:rhi t≤rlo f
 · go_upto_region 2 with fail
   refine wp_region_list ?_; refine xaL (.agg #[.int .i64 (rlo f),.int .i64 (rhi t)]) (loadN 44 _ ⟨B2,0,none⟩ [.int .i64 (rlo f),.int .i64 (rhi t)] rfl rfl (fun _=>by kernel_rfl) (fun _=>by kernel_rfl) (M.rangeAt mS)) ?_; have key:=vempty_any (rlo f) (rhi t) w3
   rw [show decide (rlo f≥rhi t)=true from decide_eq_true (by omega)] at key
   refine xcL key ?_; clear key; rintro e w4 ⟨rfl,l_⟩; replace M:=M.call l_; clear l_; refine xeL ?_; refine xT ?_; go_upto_region 3 with fail; refine wp_region_list ?_; refine xpL (.int .i64 0) ?_; refine xT ?_
   have HS:=show Hid _ from (And.intro ((M0.call M.below).keepS hcs) (And.intro (ownsRow_bel O_ M.below) (And.intro ((Off.refl (R::ob sp) w).below M.below) (fun b_ (hb_:b_∈ob sp)=>Or.inl (b:=w.heap.size≤b_) hb_)))); clear M M0 O_; go_wp2; go_ret
   obtain ⟨e1,e2⟩:=rad_no (L:=L) (f:=f) (t:=t) (by omega)
   rw [e1,e2]
   first | exact ⟨sp,cap,rfl,HS.out⟩ | exact ⟨rfl,sp,cap,HS.out⟩
 · have hf0:0≤rlo f:=by unfold rlo; omega
   have ht1:rhi t≤4611686018427387904:=by unfold rhi; omega
   have hft:rlo f<rhi t:=by omega
   go_upto_region 2 with fail; refine wp_region_list ?_; refine xaL (.agg #[.int .i64 (rlo f),.int .i64 (rhi t)]) (loadN 44 _ ⟨B2,0,none⟩ [.int .i64 (rlo f),.int .i64 (rhi t)] rfl rfl (fun _=>by kernel_rfl) (fun _=>by kernel_rfl) (M.rangeAt mS)) ?_; have key:=vempty_any (rlo f) (rhi t) w3
   rw [show decide (rlo f≥rhi t)=false from decide_eq_false (by omega)] at key
   refine xcL key ?_; clear key; rintro e w5 ⟨rfl,l_⟩; replace M:=M.call l_; clear l_; refine xeL ?_; refine xT ?_; go_upto_region 4 with fail; refine wp_region_list ?_; refine xpL (.pointer (some ⟨R,ro,none⟩)) ?_
   refine xaL (.agg #[.int .i64 (rlo f),.int .i64 (rhi t)]) (loadN 44 _ ⟨B2,0,none⟩ [.int .i64 (rlo f),.int .i64 (rhi t)] rfl rfl (fun _=>by kernel_rfl) (fun _=>by kernel_rfl) (M.rangeAt mS)) ?_; have key:=vtouch_any R ro sp cap L hc hln (rlo f) (rhi t) _ (cellT M.below hR) (NewW.below N M.below); refine xcL key ?_; clear key; rintro e w6 ⟨i,j,rfl,hT,l⟩; replace M:=M.call l
   clear l; refine xeL ?_; refine xpL (.tuple #[.int .i64 ((i:Nat):Int),.int .i64 ((j:Nat):Int)]) ?_; refine xpL (.int .i64 ((i:Nat):Int)) ?_; refine xpL (.int .i64 ((j:Nat):Int)) ?_; refine xpL (.int .i64 ((i:Nat):Int)) ?_; refine xpL (.int .i64 ((j:Nat):Int)) ?_; refine xT ?_; have hij:=hT.le hc (by omega); have hjl:=hT.b.le
   by_cases hlt:i<j
   · obtain ⟨p,hp⟩:∃ p,L[i]?=some p:=⟨_,List.getElem?_eq_getElem (by omega)⟩
     obtain ⟨q,hq⟩:∃ q,L[j-1]?=some q:=⟨_,List.getElem?_eq_getElem (by omega)⟩
     obtain ⟨adr,hadr,_,_⟩:=NewW.at N hp
     have hpr:=hc.row p (List.mem_of_getElem? hp); have hqr:=hc.row q (List.mem_of_getElem? hq); go_upto_region 5 with fail; refine wp_region_list ?_; refine xpL (.int .i64 ((i:Nat):Int)) ?_; refine xpL (.int .i64 ((j:Nat):Int)) ?_; refine xaL (.bool true) (lssI .i64 _ _ _ _ _ _ rfl rfl rfl true (decide_eq_true (by omega)) _) ?_; refine xT ?_; have NA:=N
     rw [hadr] at NA
     have hRA:=hR
     rw [hadr] at hRA
     go_upto_region 6 with fail; replace M:=M.drew; refine wp_region_C (S:=fun w'=>Mm w ((B2,[.int .i64 (rlo f),.int .i64 (rhi t)])::([]:List (Nat × List Value))) w') 12 (by kernel_rfl) M ?_; intro _; generalize w6.drew=w7 at M ⊢
     refine readC (i:=0) (some 24) rfl (.pointer (some ⟨B2,0,none⟩)) rfl rfl (by kernel_rfl) rfl (fun _ hS=>(by kernel_rfl)) (by kernel_rfl) (by kernel_rfl) (by kernel_rfl) (by kernel_rfl) (fun _ _ _ h=>h) M ?_; simp only [aP,lI,l0,lS]
     refine readC (i:=1) (some 25) rfl (.int .i64 (rlo f)) rfl rfl (by kernel_rfl) rfl (fun _ hS=>load1 3 _ ⟨B2,0,none⟩ _ rfl rfl (fun _=>by kernel_rfl) (hS.get mS 0 _ rfl)) (by kernel_rfl) (by kernel_rfl) (by kernel_rfl) (by kernel_rfl) (fun _ _ _ h=>h) M ?_; simp only [aP,lI,l0,lS]
     refine readC (i:=2) (some 26) rfl (.pointer (some ⟨R,ro,none⟩)) rfl rfl (by kernel_rfl) rfl (fun _ hS=>(by kernel_rfl)) (by kernel_rfl) (by kernel_rfl) (by kernel_rfl) (by kernel_rfl) (fun _ _ _ h=>h) M ?_; simp only [aP,lI,l0,lS]
     refine readC (i:=3) (some 27) rfl (.pointer (some ⟨R,ro,none⟩)) rfl rfl (by kernel_rfl) rfl (fun _ hS=>(by kernel_rfl)) (by kernel_rfl) (by kernel_rfl) (by kernel_rfl) (by kernel_rfl) (fun _ _ _ h=>h) M ?_; simp only [aP,lI,l0,lS]
     refine readC (i:=4) (some 28) rfl (.pointer (some ⟨R,ro,none⟩)) rfl rfl (by kernel_rfl) rfl (fun _ hS=>(by kernel_rfl)) (by kernel_rfl) (by kernel_rfl) (by kernel_rfl) (by kernel_rfl) (fun _ _ _ h=>h) M ?_; simp only [aP,lI,l0,lS]
     refine readC (i:=5) (some 29) rfl (.slice (some adr) L.length cap) rfl rfl (by kernel_rfl) rfl (fun _ hS=>load1 39 _ ⟨R,ro,none⟩ _ rfl rfl (fun _=>by kernel_rfl) (cellT hS.below hRA)) (by kernel_rfl) (by kernel_rfl) (by kernel_rfl) (by kernel_rfl) (fun _ _ _ h=>h) M ?_; simp only [aP,lI,l0,lS]
     refine readC (i:=6) (some 30) rfl (.int .i64 ((i:Nat):Int)) rfl rfl (by kernel_rfl) rfl (fun _ hS=>(by kernel_rfl)) (by kernel_rfl) (by kernel_rfl) (by kernel_rfl) (by kernel_rfl) (fun _ _ _ h=>h) M ?_; simp only [aP,lI,l0,lS]
     refine readC (i:=7) (some 31) rfl (.pointer (some (adr.add (i*2)))) rfl rfl (by kernel_rfl) rfl (fun _ hS=>idxR2 adr _ _ i (by omega) _ _ rfl rfl rfl _) (by kernel_rfl) (by kernel_rfl) (by kernel_rfl) (by kernel_rfl) (fun _ _ _ h=>h) M ?_; simp only [aP,lI,l0,lS]
     refine readC (i:=8) (some 32) rfl (.pointer (some ((adr.add (i*2)).add 0))) rfl rfl (by kernel_rfl) rfl (fun _ hS=>(by kernel_rfl)) (by kernel_rfl) (by kernel_rfl) (by kernel_rfl) (by kernel_rfl) (fun _ _ _ h=>h) M ?_; simp only [aP,lI,l0,lS]
     refine readC (i:=9) (some 33) rfl (.int .i64 p.1) rfl rfl (by kernel_rfl) rfl (fun _ hS=>load1 3 _ ((adr.add (i*2)).add 0) _ rfl rfl (fun _=>by kernel_rfl) (NewW.rng (NewW.below NA hS.below) hp 0 _ rfl)) (by kernel_rfl) (by kernel_rfl) (by kernel_rfl) (by kernel_rfl) (fun _ _ _ h=>h) M ?_; simp only [aP,lI,l0,lS]
     refine readC (i:=10) (some 34) rfl (.int .i64 (min (rlo f) p.1)) rfl rfl (by kernel_rfl) rfl (fun _ hS=>minI .i64 .i64 _ _ _ _ _ _ _ rfl rfl rfl (by split <;> omega) _) (by kernel_rfl) (by kernel_rfl) (by kernel_rfl) (by kernel_rfl) (fun _ _ _ h=>h) M ?_; simp only [aP,lI,l0,lS]
     refine readC (i:=11) (some 35) rfl (.pointer (some ⟨B2,0,none⟩)) rfl rfl (by kernel_rfl) rfl (fun _ hS=>(by kernel_rfl)) (by kernel_rfl) (by kernel_rfl) (by kernel_rfl) (by kernel_rfl) (fun _ _ _ h=>h) M ?_; simp only [aP,lI,l0,lS]
     refine skipC (S2:=fun _=>True) none rfl (by kernel_rfl) rfl rfl (storeAny (.int .i64 (min (rlo f) p.1)) B2 0 3 _ _ rfl rfl rfl rfl rfl (M.isSome mS 0 (by simp)) (M.free mS 0 (by simp)) (by kernel_rfl)) (by kernel_rfl) ?_; simp only [Act.put]; replace M:=M.set 0 (by simp) (.int .i64 (min (rlo f) p.1)); generalize w7.setCell ⟨B2,0,none⟩ (.int .i64 (min (rlo f) p.1))=w8 at M ⊢
     replace M:Mm w ((B2,[.int .i64 (min (rlo f) p.1),.int .i64 (rhi t)])::([]:List (Nat × List Value))) w8:=M
     refine wpAnyH_done (by kernel_rfl) ?_ _
     first | show Exit.then _ _ _ _ _ | show Exit.inBlock _ _ _ _ _
     go_upto_region 7 with fail; replace M:=M.drew; refine wp_region_C (S:=fun w'=>Mm w ((B2,[.int .i64 (min (rlo f) p.1),.int .i64 (rhi t)])::([]:List (Nat × List Value))) w') 13 (by kernel_rfl) M ?_; intro _; generalize w8.drew=w9 at M ⊢
     refine readC (i:=0) (some 36) rfl (.pointer (some ⟨B2,1,none⟩)) rfl rfl (by kernel_rfl) rfl (fun _ hS=>(by kernel_rfl)) (by kernel_rfl) (by kernel_rfl) (by kernel_rfl) (by kernel_rfl) (fun _ _ _ h=>h) M ?_; simp only [aP,lI,l0,lS]
     refine readC (i:=1) (some 37) rfl (.int .i64 (rhi t)) rfl rfl (by kernel_rfl) rfl (fun _ hS=>load1 3 _ ⟨B2,1,none⟩ _ rfl rfl (fun _=>by kernel_rfl) (hS.get mS 1 _ rfl)) (by kernel_rfl) (by kernel_rfl) (by kernel_rfl) (by kernel_rfl) (fun _ _ _ h=>h) M ?_; simp only [aP,lI,l0,lS]
     refine readC (i:=2) (some 38) rfl (.pointer (some ⟨R,ro,none⟩)) rfl rfl (by kernel_rfl) rfl (fun _ hS=>(by kernel_rfl)) (by kernel_rfl) (by kernel_rfl) (by kernel_rfl) (by kernel_rfl) (fun _ _ _ h=>h) M ?_; simp only [aP,lI,l0,lS]
     refine readC (i:=3) (some 39) rfl (.pointer (some ⟨R,ro,none⟩)) rfl rfl (by kernel_rfl) rfl (fun _ hS=>(by kernel_rfl)) (by kernel_rfl) (by kernel_rfl) (by kernel_rfl) (by kernel_rfl) (fun _ _ _ h=>h) M ?_; simp only [aP,lI,l0,lS]
     refine readC (i:=4) (some 40) rfl (.pointer (some ⟨R,ro,none⟩)) rfl rfl (by kernel_rfl) rfl (fun _ hS=>(by kernel_rfl)) (by kernel_rfl) (by kernel_rfl) (by kernel_rfl) (by kernel_rfl) (fun _ _ _ h=>h) M ?_; simp only [aP,lI,l0,lS]
     refine readC (i:=5) (some 41) rfl (.slice (some adr) L.length cap) rfl rfl (by kernel_rfl) rfl (fun _ hS=>load1 39 _ ⟨R,ro,none⟩ _ rfl rfl (fun _=>by kernel_rfl) (cellT hS.below hRA)) (by kernel_rfl) (by kernel_rfl) (by kernel_rfl) (by kernel_rfl) (fun _ _ _ h=>h) M ?_; simp only [aP,lI,l0,lS]
     refine readC (i:=6) (some 42) rfl (.int .i64 ((j:Nat):Int)) rfl rfl (by kernel_rfl) rfl (fun _ hS=>(by kernel_rfl)) (by kernel_rfl) (by kernel_rfl) (by kernel_rfl) (by kernel_rfl) (fun _ _ _ h=>h) M ?_; simp only [aP,lI,l0,lS]
     refine readC (i:=7) (some 43) rfl (.int .i64 ((j-1:Nat):Int)) rfl rfl (by kernel_rfl) rfl (fun _ hS=>subI .i64 _ _ _ _ _ _ _ rfl rfl rfl (by rw [xw6]; omega) _) (by kernel_rfl) (by kernel_rfl) (by kernel_rfl) (by kernel_rfl) (fun _ _ _ h=>h) M ?_; simp only [aP,lI,l0,lS]
     refine readC (i:=8) (some 44) rfl (.pointer (some (adr.add ((j-1)*2)))) rfl rfl (by kernel_rfl) rfl (fun _ hS=>idxR2 adr _ _ (j-1) (by omega) _ _ rfl rfl rfl _) (by kernel_rfl) (by kernel_rfl) (by kernel_rfl) (by kernel_rfl) (fun _ _ _ h=>h) M ?_; simp only [aP,lI,l0,lS]
     refine readC (i:=9) (some 45) rfl (.pointer (some ((adr.add ((j-1)*2)).add 1))) rfl rfl (by kernel_rfl) rfl (fun _ hS=>(by kernel_rfl)) (by kernel_rfl) (by kernel_rfl) (by kernel_rfl) (by kernel_rfl) (fun _ _ _ h=>h) M ?_; simp only [aP,lI,l0,lS]
     refine readC (i:=10) (some 46) rfl (.int .i64 q.2) rfl rfl (by kernel_rfl) rfl (fun _ hS=>load1 3 _ ((adr.add ((j-1)*2)).add 1) _ rfl rfl (fun _=>by kernel_rfl) (NewW.rng (NewW.below NA hS.below) hq 1 _ rfl)) (by kernel_rfl) (by kernel_rfl) (by kernel_rfl) (by kernel_rfl) (fun _ _ _ h=>h) M ?_; simp only [aP,lI,l0,lS]
     refine readC (i:=11) (some 47) rfl (.int .i64 (max (rhi t) q.2)) rfl rfl (by kernel_rfl) rfl (fun _ hS=>maxI .i64 .i64 _ _ _ _ _ _ _ rfl rfl rfl (by split <;> omega) _) (by kernel_rfl) (by kernel_rfl) (by kernel_rfl) (by kernel_rfl) (fun _ _ _ h=>h) M ?_; simp only [aP,lI,l0,lS]
     refine readC (i:=12) (some 48) rfl (.pointer (some ⟨B2,1,none⟩)) rfl rfl (by kernel_rfl) rfl (fun _ hS=>(by kernel_rfl)) (by kernel_rfl) (by kernel_rfl) (by kernel_rfl) (by kernel_rfl) (fun _ _ _ h=>h) M ?_; simp only [aP,lI,l0,lS]
     refine skipC (S2:=fun _=>True) none rfl (by kernel_rfl) rfl rfl (storeAny (.int .i64 (max (rhi t) q.2)) B2 1 3 _ _ rfl rfl rfl rfl rfl (M.isSome mS 1 (by simp)) (M.free mS 1 (by simp)) (by kernel_rfl)) (by kernel_rfl) ?_; simp only [Act.put]; replace M:=M.set 1 (by simp) (.int .i64 (max (rhi t) q.2)); generalize w9.setCell ⟨B2,1,none⟩ (.int .i64 (max (rhi t) q.2))=w10 at M ⊢
     replace M:Mm w ((B2,[.int .i64 (min (rlo f) p.1),.int .i64 (max (rhi t) q.2)])::([]:List (Nat × List Value))) w10:=M
     refine wpAnyH_done (by kernel_rfl) ?_ _
     first | show Exit.then _ _ _ _ _ | show Exit.inBlock _ _ _ _ _
     have hrad:rad L f t=L.take i++([(min (rlo f) p.1,max (rhi t) q.2)]++L.drop j):=by rw [rad_is17 (by omega),rins_touch hT hc (by omega) hlt hp hq]
     go_upto_region 8 with fail; refine wp_region_list ?_; refine xpL (.pointer (some ⟨R,ro,none⟩)) ?_; refine xpL (.int .i64 ((i:Nat):Int)) ?_; refine xpL (.int .i64 ((j:Nat):Int)) ?_
     refine xaL (.agg #[.int .i64 (min (rlo f) p.1),.int .i64 (max (rhi t) q.2)]) (loadN 44 _ ⟨B2,0,none⟩ [.int .i64 (min (rlo f) p.1),.int .i64 (max (rhi t) q.2)] rfl rfl (fun _=>by kernel_rfl) (fun _=>by kernel_rfl) (M.rangeAt mS)) ?_
     have VR:(w10.alloc (.cells #[.int .i64 (min (rlo f) p.1),.int .i64 (max (rhi t) q.2)] 44)).ownsRow 0 44 2 (.slice (some ⟨w10.heap.size,0,none⟩) 1 1) 1 (wrc [(min (rlo f) p.1,max (rhi t) q.2)]):=World.ownsRow_lit (base:=0) (e:=44) (size:=2) w10 #[.int .i64 (min (rlo f) p.1),.int .i64 (max (rhi t) q.2)] 1 (Nat.zero_le _) (by unfold maxLen; omega) rfl
     refine actL (w':=w10.alloc (.cells #[.int .i64 (min (rlo f) p.1),.int .i64 (max (rhi t) q.2)] 44)) (.slice (some ⟨w10.heap.size,0,none⟩) 1 1) rfl (by kernel_rfl) ?_; simp only [aP,lI,l0,lS]; replace M:=M.box #[.int .i64 (min (rlo f) p.1),.int .i64 (max (rhi t) q.2)] 44 w10.heap.size rfl
     generalize w10.alloc (.cells #[.int .i64 (min (rlo f) p.1),.int .i64 (max (rhi t) q.2)] 44)=w11 at M VR ⊢; generalize hbz:w10.heap.size=B11 at M VR ⊢; clear hbz
     replace M:Mm w ((B11,[.int .i64 (min (rlo f) p.1),.int .i64 (max (rhi t) q.2)])::(B2,[.int .i64 (min (rlo f) p.1),.int .i64 (max (rhi t) q.2)])::([]:List (Nat × List Value))) w11:=M
     have hva:=vb_away M0 M; have key:=vreplace_any w0 _ R ro sp cap L [(min (rlo f) p.1,max (rhi t) q.2)] l i j B11 1 hc (one_can (by omega) (by omega) (by omega)) hij hjl hln (Nat.le_of_ble_eq_true rfl) (fun _=>Nat.succ_pos _) (M0.call M.below) hcs (ownsRow_bel O_ M.below) VR hva; refine xcL key ?_; clear key; rintro e w12 ⟨sq,cq,rfl,M2,O2,OF2,hL2⟩
     have OF:Off (R::ob sp) w w12:=((Off.refl _ _).below M.below).trans OF2
     have hLs:∀ b_,b_∈ob sq→b_∈ob sp∨w.heap.size≤b_:=fun b_ hb_=>(hL2 b_ hb_).imp id (fun h_=>xnT M.below.size h_)
     clear hL2
     rw [← hrad] at M2 O2
     clear M OF2 VR; refine xeL ?_; refine xpL (.int .i64 (rtot [(min (rlo f) p.1,max (rhi t) q.2)]-rtot (mid17 L i j))) ?_; refine xT ?_
     have hN:rtot [(min (rlo f) p.1,max (rhi t) q.2)]-rtot (mid17 L i j)=radN L f t:=by have e_:=rtot_swap L [(min (rlo f) p.1,max (rhi t) q.2)] hij; unfold radN; rw [hrad,e_]
     rw [hN]
     have HS:=show Hid _ from (And.intro M2 (And.intro O2 (And.intro OF hLs))); clear M2 O2 OF hLs M0 O_ hN hrad hadr; go_wp2; go_ret
     first | exact ⟨sq,cq,rfl,HS.out⟩ | exact ⟨rfl,sq,cq,HS.out⟩
   · obtain rfl:j=i:=by omega
     go_upto_region 5 with fail; refine wp_region_list ?_; refine xpL (.int .i64 ((j:Nat):Int)) ?_; refine xpL (.int .i64 ((j:Nat):Int)) ?_; refine xaL (.bool false) (lssI .i64 _ _ _ _ _ _ rfl rfl rfl false (decide_eq_false (by omega)) _) ?_; refine xT ?_
     have hrad:rad L f t=L.take j++([(rlo f,rhi t)]++L.drop j):=by rw [rad_is17 (by omega),rins_apart hT hc (by omega)]
     go_upto_region 8 with fail; refine wp_region_list ?_; refine xpL (.pointer (some ⟨R,ro,none⟩)) ?_; refine xpL (.int .i64 ((j:Nat):Int)) ?_; refine xpL (.int .i64 ((j:Nat):Int)) ?_; refine xaL (.agg #[.int .i64 (rlo f),.int .i64 (rhi t)]) (loadN 44 _ ⟨B2,0,none⟩ [.int .i64 (rlo f),.int .i64 (rhi t)] rfl rfl (fun _=>by kernel_rfl) (fun _=>by kernel_rfl) (M.rangeAt mS)) ?_
     have VR:(w6.alloc (.cells #[.int .i64 (rlo f),.int .i64 (rhi t)] 44)).ownsRow 0 44 2 (.slice (some ⟨w6.heap.size,0,none⟩) 1 1) 1 (wrc [(rlo f,rhi t)]):=World.ownsRow_lit (base:=0) (e:=44) (size:=2) w6 #[.int .i64 (rlo f),.int .i64 (rhi t)] 1 (Nat.zero_le _) (by unfold maxLen; omega) rfl
     refine actL (w':=w6.alloc (.cells #[.int .i64 (rlo f),.int .i64 (rhi t)] 44)) (.slice (some ⟨w6.heap.size,0,none⟩) 1 1) rfl (by kernel_rfl) ?_; simp only [aP,lI,l0,lS]; replace M:=M.box #[.int .i64 (rlo f),.int .i64 (rhi t)] 44 w6.heap.size rfl; generalize w6.alloc (.cells #[.int .i64 (rlo f),.int .i64 (rhi t)] 44)=w13 at M VR ⊢; generalize hbz:w6.heap.size=B13 at M VR ⊢
     clear hbz
     replace M:Mm w ((B13,[.int .i64 (rlo f),.int .i64 (rhi t)])::(B2,[.int .i64 (rlo f),.int .i64 (rhi t)])::([]:List (Nat × List Value))) w13:=M
     have hva:=vb_away M0 M; have key:=vreplace_any w0 _ R ro sp cap L [(rlo f,rhi t)] l j j B13 1 hc (one_can hf0 hft ht1) hij hjl hln (Nat.le_of_ble_eq_true rfl) (fun _=>Nat.succ_pos _) (M0.call M.below) hcs (ownsRow_bel O_ M.below) VR hva; refine xcL key ?_; clear key; rintro e w14 ⟨sq,cq,rfl,M2,O2,OF2,hL2⟩
     have OF:Off (R::ob sp) w w14:=((Off.refl _ _).below M.below).trans OF2
     have hLs:∀ b_,b_∈ob sq→b_∈ob sp∨w.heap.size≤b_:=fun b_ hb_=>(hL2 b_ hb_).imp id (fun h_=>xnT M.below.size h_)
     clear hL2
     rw [← hrad] at M2 O2
     clear M OF2 VR; refine xeL ?_; refine xpL (.int .i64 (rtot [(rlo f,rhi t)]-rtot (mid17 L j j))) ?_; refine xT ?_
     have hN:rtot [(rlo f,rhi t)]-rtot (mid17 L j j)=radN L f t:=by have e_:=rtot_swap L [(rlo f,rhi t)] hij; unfold radN; rw [hrad,e_]
     rw [hN]
     have HS:=show Hid _ from (And.intro M2 (And.intro O2 (And.intro OF hLs))); clear M2 O2 OF hLs M0 O_ hN hrad; go_wp2; go_ret
     first | exact ⟨sq,cq,rfl,HS.out⟩ | exact ⟨rfl,sq,cq,HS.out⟩
end Go.Proofs.Ytcjahbdlaojnoaa
