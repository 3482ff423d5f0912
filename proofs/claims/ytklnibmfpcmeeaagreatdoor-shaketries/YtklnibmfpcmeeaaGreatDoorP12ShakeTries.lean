/- Texts of Lad Fz Kq Pick, joined. -/
import Derived.Test.YtklnibmfpcmeeaaGreatDoorP11ShakeTries
set_option maxRecDepth 20000
set_option maxHeartbeats 64000000
namespace Go.Proofs.YtklnibmfpcmeeaaGreatDoor
open Go.RowKit
section
namespace Ed
section
variable {n:Nat} [NeZero n] {d:Fin n} {iv:Fin n→Fin n}
structure St (n:Nat) where
 a:Fin n
 b:Fin n
 c:Fin n
 d:Fin n
def climb (k x:Fin n) (s:St n):St n :=
 ⟨((s.a+s.b)*(s.a+s.b))*((s.a-s.b)*(s.a-s.b)),
  ((s.a+s.b)*(s.a+s.b)-(s.a-s.b)*(s.a-s.b))*((s.a+s.b)*(s.a+s.b)+k*((s.a+s.b)*(s.a+s.b)-(s.a-s.b)*(s.a-s.b))),
  ((s.c-s.d)*(s.a+s.b)+(s.c+s.d)*(s.a-s.b))*((s.c-s.d)*(s.a+s.b)+(s.c+s.d)*(s.a-s.b)),
  x*(((s.c-s.d)*(s.a+s.b)-(s.c+s.d)*(s.a-s.b))*((s.c-s.d)*(s.a+s.b)-(s.c+s.d)*(s.a-s.b)))⟩
def swap (b:Bool) (s:St n):St n:=if b then ⟨s.c,s.d,s.a,s.b⟩ else s
def step (k x:Fin n) (b:Bool) (s:St n):St n:=swap b (climb k x (swap b s))
def run (k x:Fin n) (bit:Nat→Bool):Nat→St n
 | 0=>⟨1,0,x,1⟩
 | i+1=>step k x (bit (254-i)) (run k x bit i)
def pre (bit:Nat→Bool):Nat→Nat
 | 0=>0
 | i+1=>2*pre bit i+(bit (254-i)).toNat
def out (iv:Fin n→Fin n) (s:St n):Fin n:=s.a*iv s.b
def aff (iv:Fin n→Fin n) (P:Pt n):Fin n:=(1+P.y)*iv (1-P.y)
structure Up (d:Fin n) (iv:Fin n→Fin n) (P:Pt n) (m:Nat) (s:St n):Prop where
 lo:Rel (mul d iv m P).y s.a s.b
 hi:Rel (mul d iv (m+1) P).y s.c s.d
theorem flip_c (a b c d:Fin n):((a-b)*(c+d)+(a+b)*(c-d))*((a-b)*(c+d)+(a+b)*(c-d))=((c-d)*(a+b)+(c+d)*(a-b))*((c-d)*(a+b)+(c+d)*(a-b)):=by grind
theorem flip_d (a b c d:Fin n):((a-b)*(c+d)-(a+b)*(c-d))*((a-b)*(c+d)-(a+b)*(c-d))=((c-d)*(a+b)-(c+d)*(a-b))*((c-d)*(a+b)-(c+d)*(a-b)):=by grind
theorem Up.step (h:Fld d iv) {k:Fin n} (hc:Con d k) {P:Pt n} (hP:On d P) {x:Fin n} (hx:x*(1-P.y)=1+P.y) (h1:P.y≠1) (h2:P.y≠-1) {m:Nat} {s:St n} (u:Up d iv P m s) (b:Bool) :
 Up d iv P (2*m+b.toNat) (step k x b s):=by
 have om:=h.mul_on hP m; have om1:=h.mul_on hP (m+1); have dd:=h.dadd hP om hx h1 h2 u.lo u.hi
 rw [show sum d iv (mul d iv m P) (sum d iv (mul d iv m P) P)=mul d iv (2*m+1) P by
  rw [show 2*m+1=m+(m+1) by omega,h.mul_add hP m (m+1)]; rfl] at dd
 cases b with
 | false =>
   have e1:=h.dbl hc om u.lo
   rw [← h.mul_add hP m m,show m+m=2*m+0 by omega] at e1
   exact ⟨e1,dd⟩
 | true =>
   have e1:=h.dbl hc om1 u.hi
   rw [← h.mul_add hP (m+1) (m+1),show m+1+(m+1)=2*m+1+1 by omega] at e1
   refine ⟨?_,e1⟩
   show Rel _ (((s.a-s.b)*(s.c+s.d)+(s.a+s.b)*(s.c-s.d))*((s.a-s.b)*(s.c+s.d)+(s.a+s.b)*(s.c-s.d))) (x*(((s.a-s.b)*(s.c+s.d)-(s.a+s.b)*(s.c-s.d))*((s.a-s.b)*(s.c+s.d)-(s.a+s.b)*(s.c-s.d))))
   rw [flip_c,flip_d]
   exact dd
theorem start_ne (x y:Fin n) (hx:x*(1-y)=1+y) (z:x+1=0):(2:Fin n)=0:=by grind
theorem start_eq (x y:Fin n) (hx:x*(1-y)=1+y):x-1=(x+1)*y:=by grind
theorem Up.start (h:Fld d iv) {P:Pt n} {x:Fin n} (hx:x*(1-P.y)=1+P.y):Up d iv P 0 ⟨1,0,x,1⟩:=by
 refine ⟨⟨fun z=>h.one_ne (by simp only at z; clear h hx; grind),?_⟩,?_⟩
 · show (1:Fin n)-0=(1+0)*1
   clear h hx
   grind
 · show Rel (sum d iv nil P).y x 1
   rw [sum_comm,h.sum_nil]
   exact ⟨fun z=>h.two (start_ne _ _ hx z),start_eq _ _ hx⟩
theorem Up.run (h:Fld d iv) {k:Fin n} (hc:Con d k) {P:Pt n} (hP:On d P) {x:Fin n} (hx:x*(1-P.y)=1+P.y) (h1:P.y≠1) (h2:P.y≠-1) (bit:Nat→Bool):∀ i,Up d iv P (pre bit i) (run k x bit i)
 | 0=>Up.start h hx
 | i+1=>(Up.run h hc hP hx h1 h2 bit i).step h hc hP hx h1 h2 _
theorem one_sub (y:Fin n) (h:1-y=0):y=1:=by grind
theorem zero_b (X Z:Fin n) (e:X-Z=(X+Z)*1):2*Z=0:=by grind
theorem cross (X Z y u v:Fin n) (e:X-Z=(X+Z)*y) (hz:Z*u=1) (hy:(1-y)*v=1) (h2:2*(X*u)=2*((1+y)*v)→X*u=(1+y)*v):X*u=(1+y)*v:=by
 apply h2
 clear h2
 grind
theorem zero_rel (X y:Fin n) (e:X-0=(X+0)*y):X*(1-y)=0:=by grind
theorem Rel.out (h:Fld d iv) (h0:iv 0=0) {y X Z:Fin n} (r:Rel y X Z):X*iv Z=(1+y)*iv (1-y):=by
 by_cases hy:1-y=0
 · have e:=one_sub y hy
   have:=r.eq
   rw [e] at this
   have hz:Z=0:=by
    rcases h.dom (zero_b _ _ this) with q | q
    · exact absurd q h.two
    · exact q
   rw [hy,hz,h0]
   clear h r this
   grind
 · have hz:Z≠0:=fun z=>by
    have e:=r.eq; have ne:=r.ne
    rw [z] at e ne
    rcases h.dom (zero_rel _ _ e) with q | q
    · exact ne (by rw [q]; clear h r e; grind)
    · exact hy q
   exact cross X Z y _ _ r.eq (h.inv _ hz) (h.inv _ hy) (fun q=>h.cancel h.two q)
theorem mul_z' (a:Fin n):a*0=(0:Fin n):=by grind
theorem z_mul (a:Fin n):0*a=(0:Fin n):=by grind
theorem e_zero (a:Fin n):(a+0)*(a+0)-(a-0)*(a-0)=(0:Fin n):=by grind
theorem run_zero (k:Fin n) (bit:Nat→Bool):∀ i,(run k 0 bit i).b=0
 | 0=>rfl
 | i+1=>by
   have ih:=run_zero k bit i
   show (step k 0 (bit (254-i)) (run k 0 bit i)).b=0
   generalize run k 0 bit i=s at *
   cases bit (254-i) with
   | false =>
     show ((s.a+s.b)*(s.a+s.b)-(s.a-s.b)*(s.a-s.b))*_=0
     rw [ih,e_zero,z_mul]
   | true=>exact z_mul _
theorem at_one (x:Fin n) (hP:x*x+1*1=1+d*(x*x)*(1*1)):x*x*(1-d)=0:=by grind
theorem at_minus (x:Fin n) (hP:x*x+-1*-1=1+d*(x*x)*(-1*-1)):x*x*(1-d)=0:=by grind
theorem con_ne (h:Fld d iv) {k:Fin n} (hc:Con d k):(1-d:Fin n)≠0:=fun z=>h.one_ne (by have:=con_inv hc; rw [z,mul_z'] at this; exact this.symm)
theorem Fld.sq_zero (h:Fld d iv) {x:Fin n} (e:x*x=0):x=0:=by rcases h.dom e with q | q <;> exact q
theorem dbl_minus (y v:Fin n) (hy:y=-1):(0*y+y*0)*v=(0:Fin n)∧(y*y-0*0)=(1:Fin n)∧(1-d*0*0*y*y)=(1:Fin n):=by
 subst hy
 refine ⟨?_,?_,?_⟩ <;> grind
theorem Fld.ladder (h:Fld d iv) (h0:iv 0=0) {k:Fin n} (hc:Con d k) {P:Pt n} (hP:On d P) (bit:Nat→Bool) (hb:bit 0=false) :
 Ed.out iv (Ed.run k (aff iv P) bit 255)=aff iv (mul d iv (pre bit 255) P):=by
 by_cases h1:P.y=1
 · have hx:P.x=0:=by
    have e:=hP
    unfold On at e
    rw [h1] at e
    rcases h.dom (at_one _ e) with q | q
    · exact h.sq_zero q
    · exact absurd q (con_ne h hc)
   have eP:P=nil:=by
    cases P
    simp only at h1 hx
    rw [h1,hx]; rfl
   have e0:(1:Fin n)-1=0:=by clear h; grind
   have ea:aff iv (nil:Pt n)=0:=by unfold aff nil; simp only; rw [e0,h0,mul_z']
   rw [eP,h.mul_nil,ea]
   unfold Ed.out
   rw [run_zero,h0,mul_z']
 · by_cases h2:P.y=-1
   · have hx:P.x=0:=by
      have e:=hP
      unfold On at e
      rw [h2] at e
      rcases h.dom (at_minus _ e) with q | q
      · exact h.sq_zero q
      · exact absurd q (con_ne h hc)
     have ea:aff iv P=0:=by
      unfold aff
      rw [h2]
      have:(1+-1:Fin n)=0:=by clear h; grind
      rw [this,z_mul]
     have e2:mul d iv 2 P=nil:=by
      show sum d iv (sum d iv nil P) P=nil
      rw [sum_comm nil P,h.sum_nil]
      unfold sum nil
      obtain ⟨g1,g2,g3⟩:=dbl_minus (d:=d) P.y (iv (1+d*0*0*P.y*P.y)) h2
      rw [hx,g1,g2,g3,h.iv_one]
      rw [show (1*1:Fin n)=1 by clear h; grind]
     have ev:pre bit 255=2*pre bit 254:=by
      show 2*pre bit 254+(bit (254-254)).toNat=_
      rw [hb]
      rfl
     have e0:(1:Fin n)-1=0:=by clear h; grind
     have en:aff iv (nil:Pt n)=0:=by unfold aff nil; simp only; rw [e0,h0,mul_z']
     rw [ea,ev,← h.mul_mul hP 2,e2,h.mul_nil,en]
     unfold Ed.out
     rw [run_zero,h0,mul_z']
   · have hy:1-P.y≠0:=fun z=>h1 (one_sub _ z)
     have hx:aff iv P*(1-P.y)=1+P.y:=by
      have i:=h.inv _ hy
      unfold aff
      generalize iv (1-P.y)=u at *; clear h h1 h2 hy hP
      grind
     exact (Up.run h hc hP hx h1 h2 bit 255).lo.out h h0
theorem Fld.agrees (h:Fld d iv) (h0:iv 0=0) {k:Fin n} (hc:Con d k) {P:Pt n} (hP:On d P) (a b:Nat→Bool) (ha:a 0=false) (hb:b 0=false) :
 Ed.out iv (Ed.run k (Ed.out iv (Ed.run k (aff iv P) b 255)) a 255)=Ed.out iv (Ed.run k (Ed.out iv (Ed.run k (aff iv P) a 255)) b 255):=by
 rw [h.ladder h0 hc hP b hb,h.ladder h0 hc hP a ha,h.ladder h0 hc (h.mul_on hP _) a ha,h.ladder h0 hc (h.mul_on hP _) b hb,h.mul_mul hP,h.mul_mul hP,Nat.mul_comm]
/-! The points 1 and -1. -/
theorem nought (iv:Fin n→Fin n) (h0:iv 0=0) (k:Fin n) (bit:Nat→Bool):out iv (Ed.run k 0 bit 255)=0:=by
 unfold out
 rw [run_zero,h0,mul_z']
end
end Ed
end
abbrev QN:Nat:=57896044618658097711785492504343953926634992332820282019728792003956564819949
theorem Q_pos:(0:Int)<kQ:=by decide
theorem Q_QN:kQ=(QN:Int):=rfl
def fz (z:Int):Fin QN:=⟨(z%kQ).toNat,by have:=Int.emod_lt_of_pos z Q_pos; have:=Int.emod_nonneg z (show kQ≠0 by decide); simp only [kQ,QN] at *; omega⟩
theorem fz_val (z:Int):((fz z).val:Int)=z%kQ:=by
 have:=Int.emod_nonneg z (show kQ≠0 by decide)
 simp only [fz]
 omega
theorem fz_eq {a b:Int} (h:a%kQ=b%kQ):fz a=fz b:=by
 apply Fin.ext
 simp only [fz,h]
theorem fz_mod (z:Int):fz (z%kQ)=fz z:=fz_eq (Int.emod_emod z kQ)
theorem fz_of (x:Fin QN):fz (x.val:Int)=x:=by
 apply Fin.ext
 have:=x.isLt
 simp only [fz]
 rw [Q_QN,Int.emod_eq_of_lt (by omega) (by omega)]
 rfl
theorem fz_add (a b:Int):fz (a+b)=fz a+fz b:=by
 apply Fin.ext
 have h:=Fin.val_add (fz a) (fz b); have ha:=fz_val a; have hb:=fz_val b; have hc:=fz_val (a+b)
 rw [Int.add_emod,← ha,← hb,Q_QN] at hc
 rw [h]
 omega
theorem fz_mul (a b:Int):fz (a*b)=fz a*fz b:=by
 apply Fin.ext
 have h:=Fin.val_mul (fz a) (fz b); have ha:=fz_val a; have hb:=fz_val b; have hc:=fz_val (a*b)
 rw [Int.mul_emod,← ha,← hb,Q_QN,← Int.natCast_mul] at hc
 rw [h]
 omega
theorem fz_sub (a b:Int):fz (a-b)=fz a-fz b:=by
 apply Fin.ext
 have h:(fz a-fz b).val=((QN-(fz b).val)+(fz a).val)%QN:=by rfl
 have ha:=fz_val a; have hb:=fz_val b; have hc:=fz_val (a-b); have hl:=(fz b).isLt
 rw [Int.sub_emod,← ha,← hb,Q_QN] at hc
 rw [h]
 clear h ha hb; generalize (fz a).val=x at *; generalize (fz b).val=y at *; generalize (fz (a-b)).val=z at *
 simp only [QN] at *
 omega
def inz (x:Fin QN):Fin QN:=fz ((x.val:Int)^E)
theorem inz_fz (z:Int):fz (z^E)=inz (fz z):=by
 unfold inz
 refine fz_eq ?_
 rw [fz_val,mpow]
theorem inz_zero:inz 0=0:=by
 apply Fin.ext
 have h:=fz_val (((0:Fin QN).val:Int)^E)
 rw [zero_pow _ (by decide)] at h
 show (fz _).val=0
 omega
theorem inz_inv (x:Fin QN) (h:x≠0):x*inz x=1:=by
 have h0:(0:Int)≤(x.val:Int):=by omega
 have hx:(x.val:Int)%kQ≠0:=by
  intro e
  apply h
  apply Fin.ext
  have:=x.isLt
  rw [Q_QN,Int.emod_eq_of_lt h0 (by omega)] at e
  show x.val=0
  omega
 have f:=fermat _ h0 hx
 have e:fz ((x.val:Int)*(x.val:Int)^E)=fz 1:=fz_eq (by rw [f]; decide)
 rw [fz_mul,fz_of] at e
 exact e
def dz:Fin QN:=⟨20800338683988658368647408995589388737092878452977063003340006470870624536394,by decide⟩
def cz:Fin QN:=fz 121665
theorem cz_con:Ed.Con dz cz:=⟨by decide +kernel⟩
theorem two_ne:(2:Fin QN)≠0:=by decide +kernel
theorem dz_pow:Num.pm QN 256 20800338683988658368647408995589388737092878452977063003340006470870624536394 28948022309329048855892746252171976963317496166410141009864396001978282409974=QN-1:=by decide +kernel
theorem nsq_any (r z kD e:Nat) (hr:Num.Prime r) (hz:¬ r∣z) (he:2*e=r-1) (h:z*z%r=kD) (hs:e<2^256) (hp:Num.pm r 256 kD e=r-1) (h2:r-1≠1):False:=by
 have f:=Num.fermat_one hr z hz
 rw [Num.pm_eq _ 256 _ _ hs,← h,← Nat.pow_mod,← Nat.pow_two,← Nat.pow_mul,he,f] at hp
 exact h2 hp.symm
theorem dz_nsq (z:Fin QN):z*z≠dz:=by
 intro e
 have h:(z.val*z.val)%QN=20800338683988658368647408995589388737092878452977063003340006470870624536394:=congrArg Fin.val e
 have hz:¬ QN∣z.val:=fun hz=>by
  rw [Nat.eq_zero_of_dvd_of_lt hz z.isLt] at h
  exact absurd h (by decide)
 exact nsq_any QN z.val _ _ Num.prime_p hz (by decide) h (by decide +kernel) dz_pow (by decide)
theorem fld:Ed.Fld dz inz:=⟨inz_inv,dz_nsq,two_ne⟩
def base:Ed.Pt QN:=⟨⟨9771384041963202563870679428059935816164187996444183106833894008023910952347,by decide⟩,⟨46316835694926478169428394003475163141307993866256225615783033603165251855960,by decide⟩⟩
theorem base_on:Ed.On dz base:=by unfold Ed.On; decide +kernel
theorem base_ne:(1-base.y:Fin QN)≠0:=by decide +kernel
theorem base_nine:(1-base.y)*fz 9=1+base.y:=by decide +kernel
theorem base_aff:Ed.aff inz base=fz 9:=by
 have i:=inz_inv _ base_ne; refine fld.cancel base_ne ?_
 rw [base_nine]
 unfold Ed.aff
 rw [Fin.mul_comm (1+base.y),← Fin.mul_assoc,i,Fin.one_mul]
/-! A ladder reckoned with whole numbers,each as soon as it is there. -/
def force {α:Type} (t:Nat) (f:Nat→α):α :=
 match t with
 | 0=>f 0
 | m+1=>f (m+1)
theorem force_eq {α:Type} (t:Nat) (f:Nat→α):force t f=f t:=by cases t <;> rfl
def nclimb {α:Type} (x a b c d:Nat) (f:Nat→Nat→Nat→Nat→α):α :=
 force ((a+b)%QN) fun A=>force ((QN-b+a)%QN) fun B=>force ((c+d)%QN) fun C=>force ((QN-d+c)%QN) fun kD =>
 force (A*A%QN) fun AA=>force (B*B%QN) fun BB=>force ((QN-BB+AA)%QN) fun E'=>force (kD*A%QN) fun DA=>force (C*B%QN) fun CB =>
 force ((DA+CB)%QN) fun s=>force ((QN-CB+DA)%QN) fun m =>
 force (AA*BB%QN) fun a'=>force (E'*((AA+121665*E'%QN)%QN)%QN) fun b'=>force (s*s%QN) fun c'=>force (x*(m*m%QN)%QN) fun d'=>f a' b' c' d'
def ev (x bits:Nat):Nat→Nat→Nat→Nat→Nat→Nat × Nat
 | 0,a,b,_,_=>(a,b)
 | i+1,a,b,c,d =>
   match Nat.testBit bits i with
   | false=>nclimb x a b c d fun a' b' c' d'=>ev x bits i a' b' c' d'
   | true=>nclimb x c d a b fun a' b' c' d'=>ev x bits i c' d' a' b'
def krd (x:Fin QN) (bit:Nat→Bool):Nat→Ed.St QN→Ed.St QN
 | 0,s=>s
 | i+1,s=>krd x bit i (Ed.step cz x (bit i) s)
theorem rd_run (x:Fin QN) (bit:Nat→Bool):∀ i,i≤255→krd x bit (255-i) (Ed.run cz x bit i)=krd x bit 255 ⟨1,0,x,1⟩
 | 0,_=>rfl
 | i+1,h=>by
   rw [← rd_run x bit i (by omega),show 255-i=(254-i)+1 by omega,show 255-(i+1)=254-i by omega]
   rfl
theorem run_rd (x:Fin QN) (bit:Nat→Bool):Ed.run cz x bit 255=krd x bit 255 ⟨1,0,x,1⟩:=rd_run x bit 255 (by omega)
theorem nclimb_eq {α:Type} (x:Fin QN) (s:Ed.St QN) (f:Nat→Nat→Nat→Nat→α) :
 nclimb x.val s.a.val s.b.val s.c.val s.d.val f=f (Ed.climb cz x s).a.val (Ed.climb cz x s).b.val (Ed.climb cz x s).c.val (Ed.climb cz x s).d.val:=by
 simp only [nclimb,force_eq]
 rfl
theorem ev_rd (x:Fin QN) (bits:Nat):∀ (i:Nat) (s:Ed.St QN),ev x.val bits i s.a.val s.b.val s.c.val s.d.val=((krd x (fun t=>Nat.testBit bits t) i s).a.val,(krd x (fun t=>Nat.testBit bits t) i s).b.val)
 | 0,_=>rfl
 | i+1,s=>by
   show (match Nat.testBit bits i with | false=>_ | true=>_)=((krd x (fun t=>Nat.testBit bits t) i (Ed.step cz x (Nat.testBit bits i) s)).a.val,(krd x (fun t=>Nat.testBit bits t) i (Ed.step cz x (Nat.testBit bits i) s)).b.val)
   cases hb:Nat.testBit bits i with
   | false =>
     simp only
     rw [nclimb_eq x s,ev_rd x bits i (Ed.climb cz x s)]
     rfl
   | true =>
     simp only
     rw [nclimb_eq x ⟨s.c,s.d,s.a,s.b⟩]
     exact ev_rd x bits i (Ed.step cz x true s)
theorem ev_run (x:Fin QN) (bits a b:Nat) (h:ev x.val bits 255 1 0 x.val 1=(a,b)):(Ed.run cz x (fun t=>Nat.testBit bits t) 255).a.val=a∧(Ed.run cz x (fun t=>Nat.testBit bits t) 255).b.val=b:=by
 rw [run_rd]
 have e:=ev_rd x bits 255 ⟨1,0,x,1⟩
 have h':ev x.val bits 255 (1:Fin QN).val (0:Fin QN).val x.val (1:Fin QN).val=(a,b):=h
 rw [e] at h'
 injection h' with h1 h2
 exact ⟨h1,h2⟩
section
def kz (f:Nat→Int):Fin QN:=fz (val 256 f 32)
def Kz (x:Fin QN) (v:Value):Prop:=∃ f:Nat→Int,v=(.agg (row .u8 32 (f)).toArray)∧In 256 32 f∧kz f=x
def glue (a b c d:Nat→Int):Nat→Int:=fun j=>if j<32 then a j else if j<64 then b (j-32) else if j<96 then c (j-64) else d (j-96)
theorem glue0 (a b c d:Nat→Int):row .u8 32 (fun j=>glue a b c d (0+j))=row .u8 32 a:=row_congr _ _ fun j hj=>by unfold glue; rw [if_pos (by omega),Nat.zero_add]
theorem glue1 (a b c d:Nat→Int):row .u8 32 (fun j=>glue a b c d (32+j))=row .u8 32 b:=row_congr _ _ fun j hj=>by unfold glue; rw [if_neg (by omega),if_pos (by omega),Nat.add_sub_cancel_left]
theorem glue2 (a b c d:Nat→Int):row .u8 32 (fun j=>glue a b c d (64+j))=row .u8 32 c:=row_congr _ _ fun j hj=>by unfold glue; rw [if_neg (by omega),if_neg (by omega),if_pos (by omega),Nat.add_sub_cancel_left]
theorem glue3 (a b c d:Nat→Int):row .u8 32 (fun j=>glue a b c d (96+j))=row .u8 32 d:=row_congr _ _ fun j hj=>by unfold glue; rw [if_neg (by omega),if_neg (by omega),if_neg (by omega),Nat.add_sub_cancel_left]
theorem Has.from {w:World} {b n:Nat} {f:Nat→Int} (h:Has w b .u8 n f) (o:Nat) (ho:o+32≤n):w.rangeAt b o (row .u8 32 (fun j=>f (o+j))):=fun j v hv=>by
 obtain ⟨hj,rfl⟩:=row_get_some hv
 exact h.cell (o+j) (by omega)
theorem rung_info (f:Nat→Int):(Tryz.prog.info? 94).map (·.size)=some (row .u8 128 f).length:=by rw [row_length]; kernel_rfl
theorem rung_info' (f:Nat→Int):(Tryz.prog.info? 94).map (·.size)=some (row .u8 128 f).toArray.size:=by rw [List.size_toArray]; exact rung_info f
theorem rung_zero (w:World) (t:TypeId) (b:Nat) (hb:b=w.heap.size):Has (w.alloc (.cells zu8_128 t)) b .u8 128 (fun _=>0):=Has.new w .u8 128 (fun _=>0) t b hb
theorem kroom_of {w:World} {b n:Nat} {f:Nat→Int} (h:w.there b 0 n):w.there b 0 (row .u8 n f).toArray.size:=by rw [List.size_toArray,row_length]; exact h
structure Kq (w:World) (m:Nat) (l:List (Nat × Nat × (Nat→Int))) (R:List (Nat × Nat)) (w':World):Prop where
 rows:∀ p∈l,Has w' p.1 .u8 p.2.1 p.2.2∧p.1<m
 room:∀ q∈R,w'.there q.1 0 q.2∧q.1<m∧w.heap.size≤q.1
 apart:∀ p∈l,∀ q∈R,p.1≠q.1
 size:m≤w'.heap.size
 base:w.heap.size≤m
 below:Below w.heap.size w w'
section
variable {w w' w'':World} {m:Nat} {l:List (Nat × Nat × (Nat→Int))} {R:List (Nat × Nat)}
theorem Kq.init (w:World):Kq w w.heap.size [] [] w:=⟨fun _ h=>(by cases h),fun _ h=>(by cases h),fun _ h=>(by cases h),xnR _,xnR _,Below.refl _ _⟩
theorem Kq.drew (h:Kq w m l R w'):Kq w m l R w'.drew:=⟨fun p hp=>⟨(h.rows p hp).1.drew,(h.rows p hp).2⟩,h.room,h.apart,h.size,h.base,h.below.drew⟩
theorem Kq.call (h:Kq w m l R w') (b:Below w'.heap.size w' w''):Kq w m l R w'' :=
 ⟨fun p hp=>⟨(h.rows p hp).1.below b (xnL (h.rows p hp).2 h.size),(h.rows p hp).2⟩,
  fun q hq=>⟨there_below (h.room q hq).1 b (xnL (h.room q hq).2.1 h.size),(h.room q hq).2⟩,h.apart,xnT h.size b.size,h.base,h.below.trans (b.mono (xnT h.base h.size))⟩
theorem Kq.box (h:Kq w m l R w') (n:Nat) (f:Nat→Int) (t:TypeId) (b:Nat) (hb:b=w'.heap.size):Kq w (b+1) ((b,n,f)::l) R (w'.alloc (.cells (row .u8 n f).toArray t)):=by
 have hc:=h.call ((Below.refl w'.heap.size w').alloc (xnR _) (.cells (row .u8 n f).toArray t))
 refine ⟨fun p hp=>?_,fun q hq=>⟨(hc.room q hq).1,by have:=(hc.room q hq).2.1; have:=h.size; omega,(hc.room q hq).2.2⟩,fun p hp q hq=>?_,by simp; omega,by have:=h.base; have:=h.size; omega,hc.below⟩
 · rcases xc1 hp with rfl | hp
   · exact ⟨Has.new w' .u8 n f t b hb,by simp⟩
   · exact ⟨(hc.rows p hp).1,by have:=(hc.rows p hp).2; have:=h.size; omega⟩
 · rcases xc1 hp with rfl | hp
   · have:=(h.room q hq).2.1; have:=h.size; simp only; omega
   · exact h.apart p hp q hq
theorem Kq.make (h:Kq w m l R w') (n:Nat) (c:Array Value) (t:TypeId) (b:Nat) (hb:b=w'.heap.size) (hn:(w'.alloc (.cells c t)).there b 0 n):Kq w (b+1) l ((b,n)::R) (w'.alloc (.cells c t)):=by
 have hc:=h.call ((Below.refl w'.heap.size w').alloc (xnR _) (.cells c t))
 refine ⟨fun p hp=>⟨(hc.rows p hp).1,by have:=(hc.rows p hp).2; have:=h.size; omega⟩,fun q hq=>?_,fun p hp q hq=>?_,by simp; omega,by have:=h.base; have:=h.size; omega,hc.below⟩
 · rcases xc1 hq with rfl | hq
   · exact ⟨hn,by simp,by have:=h.base; have:=h.size; simp only; omega⟩
   · exact ⟨(hc.room q hq).1,by have:=(hc.room q hq).2.1; have:=h.size; omega,(hc.room q hq).2.2⟩
 · rcases xc1 hq with rfl | hq
   · have:=(h.rows p hp).2; have:=h.size; simp only; omega
   · exact h.apart p hp q hq
theorem Kq.past (h:Kq w m l R w') (b:Nat) (hb:m≤b) (vs:List Value):Kq w m l R (w'.setCells b 0 vs) :=
 ⟨fun p hp=>⟨(h.rows p hp).1.setAll_other _ (by have:=(h.rows p hp).2; omega) 0 _,(h.rows p hp).2⟩,fun q hq=>⟨World.there_setCells (h.room q hq).1 _ _ _,(h.room q hq).2⟩,h.apart,by rw [size_setAll]; exact h.size,h.base,
  below_setAll h.below _ (xnT h.base hb) 0 _⟩
theorem Kq.fill (h:Kq w m l R w') (b n:Nat) (hb:(b,n)∈R) (vs:List Value):Kq w m l R (w'.setCells b 0 vs) :=
 ⟨fun p hp=>⟨(h.rows p hp).1.setAll_other _ (fun e=>h.apart p hp _ hb e.symm) 0 _,(h.rows p hp).2⟩,fun q hq=>⟨World.there_setCells (h.room q hq).1 _ _ _,(h.room q hq).2⟩,h.apart,by rw [size_setAll]; exact h.size,h.base,
  below_setAll h.below _ (h.room _ hb).2.2 0 _⟩
theorem Kq.get (h:Kq w m l R w') (b n:Nat) (f:Nat→Int) (hp:(b,n,f)∈l):Has w' b .u8 n f:=(h.rows _ hp).1
theorem Kq.whole (h:Kq w m l R w') (b:Nat) (f:Nat→Int) (hp:(b,32,f)∈l):w'.rangeAt b 0 (row .u8 32 f):=(h.get b 32 f hp).range
theorem Kq.part0 (h:Kq w m l R w') (b:Nat) (a e c d:Nat→Int) (hp:(b,128,glue a e c d)∈l):w'.rangeAt b 0 (row .u8 32 a):=by have:=(h.get _ _ _ hp).from 0 (by omega); rwa [glue0] at this
theorem Kq.part1 (h:Kq w m l R w') (b:Nat) (a e c d:Nat→Int) (hp:(b,128,glue a e c d)∈l):w'.rangeAt b 32 (row .u8 32 e):=by have:=(h.get _ _ _ hp).from 32 (by omega); rwa [glue1] at this
theorem Kq.part2 (h:Kq w m l R w') (b:Nat) (a e c d:Nat→Int) (hp:(b,128,glue a e c d)∈l):w'.rangeAt b 64 (row .u8 32 c):=by have:=(h.get _ _ _ hp).from 64 (by omega); rwa [glue2] at this
theorem Kq.part3 (h:Kq w m l R w') (b:Nat) (a e c d:Nat→Int) (hp:(b,128,glue a e c d)∈l):w'.rangeAt b 96 (row .u8 32 d):=by have:=(h.get _ _ _ hp).from 96 (by omega); rwa [glue3] at this
theorem Kq.roomy (h:Kq w m l R w') (b n:Nat) (f:Nat→Int) (hb:(b,n)∈R):w'.there b 0 (row .u8 n f).toArray.size:=kroom_of (h.room _ hb).1
theorem Kq.fresh (h:Kq w m l R w') (n:Nat) (f:Nat→Int) (c:Array Value) (t:TypeId) (hn:(w'.alloc (.cells c t)).there w'.heap.size 0 n) :
 Kq w (w'.heap.size+1) ((w'.heap.size,n,f)::l) R ((w'.alloc (.cells c t)).setCells w'.heap.size 0 (row .u8 n f)):=by
 have hk:=h.make n c t w'.heap.size rfl hn; have hc:=hk.fill w'.heap.size n mS (row .u8 n f)
 refine ⟨fun p hp=>?_,fun q hq=>hc.room q (mT _ hq),fun p hp q hq=>?_,hc.size,hc.base,hc.below⟩
 · rcases xc1 hp with rfl | hp
   · exact ⟨Has.all hn .u8 f,by simp⟩
   · exact hc.rows p hp
 · rcases xc1 hp with rfl | hp
   · have:=(h.room q hq).2.1; have:=h.size; simp only; omega
   · exact h.apart p hp q hq
theorem Kq.poke (h:Kq w m l R w') (b n:Nat) (hb:(b,n)∈R) (o:Nat) (vs:List Value):Kq w m l R (w'.setCells b o vs) :=
 ⟨fun p hp=>⟨(h.rows p hp).1.setAll_other _ (fun e=>h.apart p hp _ hb e.symm) o _,(h.rows p hp).2⟩,fun q hq=>⟨World.there_setCells (h.room q hq).1 _ _ _,(h.room q hq).2⟩,h.apart,by rw [size_setAll]; exact h.size,h.base,
  below_setAll h.below _ (h.room _ hb).2.2 o _⟩
theorem Kq.loose (h:Kq w m l R w') (l':List (Nat × Nat × (Nat→Int))) (b n:Nat) (f:Nat→Int) (hp:(b,n,f)∈l) (hl:∀ p∈l',p∈l) (hne:∀ p∈l',p.1≠b) (hlo:w.heap.size≤b):Kq w m l' ((b,n)::R) w' :=
 ⟨fun p hp=>h.rows p (hl p hp),fun q hq=>by
  rcases xc1 hq with rfl | hq
  · exact ⟨(h.get _ _ _ hp).there,(h.rows _ hp).2,hlo⟩
  · exact h.room q hq,fun p hp' q hq=>by
  rcases xc1 hq with rfl | hq
  · exact hne p hp'
  · exact h.apart p (hl p hp') q hq,h.size,h.base,h.below⟩
theorem Kq.settle (h:Kq w m l R w') (R':List (Nat × Nat)) (b n:Nat) (f:Nat→Int) (hb:(b,n)∈R) (hR:∀ q∈R',q∈R) (hne:∀ q∈R',q.1≠b) (hf:Has w' b .u8 n f):Kq w m ((b,n,f)::l) R' w' :=
 ⟨fun p hp=>by
  rcases xc1 hp with rfl | hp
  · exact ⟨hf,(h.room _ hb).2.1⟩
  · exact h.rows p hp,fun q hq=>h.room q (hR q hq),fun p hp q hq=>by
  rcases xc1 hp with rfl | hp
  · exact (hne q hq).symm
  · exact h.apart p hp q (hR q hq),h.size,h.base,h.below⟩
theorem Kq.set (h:Kq w m l R w') (l':List (Nat × Nat × (Nat→Int))) (b:Nat) (f g:Nat→Int) (hp:(b,32,f)∈l) (hl:∀ p∈l',p∈l) (hne:∀ p∈l',p.1≠b) (hlo:w.heap.size≤b):Kq w m ((b,32,g)::l') R (w'.setCells b 0 (row .u8 32 g)) :=
 ((h.loose l' b 32 f hp hl hne hlo).fill b 32 mS _).settle R b 32 g mS (fun _ hq=>mT _ hq) (fun q hq=>(h.apart _ hp q hq).symm) (Has.all (h.get _ _ _ hp).there .u8 g)
theorem Kq.back (h:Kq w m l R w') (l':List (Nat × Nat × (Nat→Int))) (m0:Nat) (hl:∀ p∈l',p∈l) (hm:∀ p∈l',p.1<m0) (hr:∀ q∈R,q.1<m0) (h0:w.heap.size≤m0) (h1:m0≤m):Kq w m0 l' R w' :=
 ⟨fun p hp=>⟨(h.rows p (hl p hp)).1,hm p hp⟩,fun q hq=>⟨(h.room q hq).1,hr q hq,(h.room q hq).2.2⟩,fun p hp q hq=>h.apart p (hl p hp) q hq,xnT h1 h.size,h0,h.below⟩
theorem Kq.two (h:Kq w m l R w') {B1 B2:Nat} (b1:Fb 32 m B1 w') (b2:Fb 32 m B2 w') (ne:B1≠B2) (f g:Nat→Int) :
 Kq w w'.heap.size ((B2,32,g)::(B1,32,f)::l) R ((w'.setCells B1 0 (row .u8 32 f)).setCells B2 0 (row .u8 32 g)):=by
 have hc:=(h.past B1 b1.lo (row .u8 32 f)).past B2 b2.lo (row .u8 32 g); have i1:=b1.hi; have i2:=b2.hi; have j1:=b1.lo; have j2:=b2.lo
 refine ⟨fun p hp=>?_,fun q hq=>⟨(hc.room q hq).1,xnL (hc.room q hq).2.1 h.size,(hc.room q hq).2.2⟩,fun p hp q hq=>?_,by rw [size_setAll,size_setAll]; exact xnR _,xnT h.base h.size,hc.below⟩
 · rcases xc1 hp with rfl | hp
   · exact ⟨Has.all (World.there_setCells b2.th _ _ _) .u8 g,i2⟩
   · rcases xc1 hp with rfl | hp
     · exact ⟨(Has.all b1.th .u8 f).setAll_other _ (by simpa using ne.symm) 0 _,i1⟩
     · exact ⟨(hc.rows p hp).1,xnL (h.rows p hp).2 h.size⟩
 · have:=(h.room q hq).2.1
   rcases xc1 hp with rfl | hp
   · simp only; omega
   · rcases xc1 hp with rfl | hp
     · simp only; omega
     · exact h.apart p hp q hq
end
section
variable {P:Program} {ops:Array Oper} {kQ:Exit→Act→World→Prop} {md:Region.Mode} {S:World→Prop}
theorem rowAtH {i:Nat} {oi:Oper} (dst:Option Tmp) (hdst:oi.dst=dst) {fuel:Nat} {listed:Array Bool} {a:Act} {w:World} (n:Nat) (f:Nat→Int) (b o:Nat) (ty:TypeId) (x:Operand) (d:TypeDesc) (hi:ops[i]?=some oi)
 (ho:oi.op=.load ty x) (hx:a.eval x=.pointer (some ⟨b,o,none⟩)) (hw:Region.wanted oi (yielded ops a.tmps)=true)
 (hs:Region.noSelect ops=true) (hf:Region.free md ops listed i=true) (hr:(Region.ready md ops listed).contains i=true)
 (hQ:∀ c a w,kQ (.panic c) (a.put dst (.agg (row .u8 n f).toArray)) w→kQ (.panic c) a w)
 (hu:P.underlying ty=some d) (hd:d.isRow=true) (hz:(P.info? ty).map (·.size)=some (row .u8 n f).length)
 (hS:S w) (hh:∀ w,S w→w.rangeAt b o (row .u8 n f))
 (h:wpAnyH P md ops kQ S fuel (listed.setIfInBounds i true) (a.put dst (.agg (row .u8 n f).toArray)) w):wpAnyH P md ops kQ S (fuel+1) listed a w:=by
 subst hdst
 exact wpAnyH_take hi hs hf hr hQ (yieldsIf_load_mid hw ty x ho b o hx (row .u8 n f) d hh hu hd hz) hS h
theorem rowOneH {i:Nat} {oi:Oper} (dst:Option Tmp) (hdst:oi.dst=dst) {fuel:Nat} {listed:Array Bool} {a:Act} {w:World} (n:Nat) (f:Nat→Int) (b o:Nat) (ty:TypeId) (x:Operand) (d:TypeDesc) (hr:Region.ready md ops listed=[i]) (hi:ops[i]?=some oi)
 (ho:oi.op=.load ty x) (hx:a.eval x=.pointer (some ⟨b,o,none⟩)) (hw:Region.wanted oi (yielded ops a.tmps)=true)
 (hu:P.underlying ty=some d) (hd:d.isRow=true) (hz:(P.info? ty).map (·.size)=some (row .u8 n f).length)
 (hS:S w) (hh:w.rangeAt b o (row .u8 n f))
 (h:wpAnyH P md ops kQ S fuel (listed.setIfInBounds i true) (a.put dst (.agg (row .u8 n f).toArray)) w):wpAnyH P md ops kQ S (fuel+1) listed a w:=by
 subst hdst; refine wpAnyH_all hr (by simp) fun j hj=>?_
 obtain rfl:=xm1 hj
 unfold wpOp
 simp only [hi,hw,if_true]
 exact .inl (wp_load_mid ty x ho b o hx (row .u8 n f) d hh hu hd hz ⟨hS,h⟩)
theorem rowAtL {o':Oper} {rest:List Oper} {a:Act} {w:World} (n:Nat) (f:Nat→Int) (b o:Nat) (ty:TypeId) (x:Operand) (d:TypeDesc) (hw:Region.wanted o' (yielded ops a.tmps)=true)
 (ho:o'.op=.load ty x) (hx:a.eval x=.pointer (some ⟨b,o,none⟩)) (hu:P.underlying ty=some d) (hd:d.isRow=true) (hz:(P.info? ty).map (·.size)=some (row .u8 n f).length) (hh:w.rangeAt b o (row .u8 n f))
 (h:wpList P ops kQ rest (a.put o'.dst (.agg (row .u8 n f).toArray)) w):wpList P ops kQ (o'::rest) a w:=by
 unfold wpList
 rw [if_pos hw]
 exact .inl (wp_load_mid ty x ho b o hx (row .u8 n f) d hh hu hd hz h)
end
/-! The layer below,in numbers modulo 2^255-19. -/
theorem kz_add {f a b:Nat→Int} (h:val 256 f 32=(val 256 a 32+val 256 b 32)%kQ):kz f=kz a+kz b:=by unfold kz; rw [h,fz_mod,fz_add]
theorem kz_sub {f a b:Nat→Int} (h:val 256 f 32=(val 256 a 32-val 256 b 32)%kQ):kz f=kz a-kz b:=by unfold kz; rw [h,fz_mod,fz_sub]
theorem kz_mul {f a b:Nat→Int} (h:val 256 f 32=(val 256 a 32*val 256 b 32)%kQ):kz f=kz a*kz b:=by unfold kz; rw [h,fz_mod,fz_mul]
theorem kz_inv {f a:Nat→Int} (h:val 256 f 32=val 256 a 32^E%kQ):kz f=inz (kz a):=by unfold kz; rw [h,fz_mod,inz_fz]
theorem kz_canon {f a:Nat→Int} (h:val 256 f 32=val 256 a 32%kQ):kz f=kz a:=by unfold kz; rw [h,fz_mod]
def Ans (x:Fin QN) (w:World) (e:Ending) (w':World):Prop:=∃ f:Nat→Int,e=.returned (.agg (row .u8 32 (f)).toArray)∧(In 256 32 f∧kz f=x)∧Below w.heap.size w w'
theorem Ans.ks {x:Fin QN} {w:World} {e:Ending} {w':World} (h:Ans x w e w'):∃ v,e=.returned v∧Kz x v∧Below w.heap.size w w':=by
 obtain ⟨f,he,hf,l⟩:=h
 exact ⟨_,he,⟨f,rfl,hf⟩,l⟩
theorem addz (a b:Nat→Int) (ha:In 256 32 a) (hb:In 256 32 b) (w:World) (hg:kGlob w):Calls Tryz.prog 89 #[(.agg (row .u8 32 (a)).toArray),(.agg (row .u8 32 (b)).toArray)] w (Ans (kz a+kz b) w) :=
 (add_any a b ha hb w hg).mono fun _ _ ⟨f,he,hf,l⟩=>⟨f,he,⟨hf.1,kz_add hf.2⟩,l⟩
theorem subz (a b:Nat→Int) (ha:In 256 32 a) (hb:In 256 32 b) (w:World) (hg:kGlob w):Calls Tryz.prog 90 #[(.agg (row .u8 32 (a)).toArray),(.agg (row .u8 32 (b)).toArray)] w (Ans (kz a-kz b) w) :=
 (sub_any a b ha hb w hg).mono fun _ _ ⟨f,he,hf,l⟩=>⟨f,he,⟨hf.1,kz_sub hf.2⟩,l⟩
theorem mulz (a b:Nat→Int) (ha:In 256 32 a) (hb:In 256 32 b) (w:World) (hg:kGlob w):Calls Tryz.prog 67 #[(.agg (row .u8 32 (a)).toArray),(.agg (row .u8 32 (b)).toArray)] w (Ans (kz a*kz b) w) :=
 (mul_any a b ha hb w hg).mono fun _ _ ⟨f,he,hf,l⟩=>⟨f,he,⟨hf.1,kz_mul hf.2⟩,l⟩
theorem sqz (a:Nat→Int) (ha:In 256 32 a) (w:World) (hg:kGlob w):Calls Tryz.prog 91 #[(.agg (row .u8 32 (a)).toArray)] w (Ans (kz a*kz a) w) :=
 (square_any a ha w hg).mono fun _ _ ⟨f,he,hf,l⟩=>⟨f,he,⟨hf.1,kz_mul hf.2⟩,l⟩
end
theorem pick8 (x y cv:Int) (hx:0≤x) (hx':x<256) (hy:0≤y) (hy':y<256) (hc:cv=0∨cv=1) :
 bits BinOp.xor IntKind.u8 x (bits BinOp.and IntKind.u8 (IntKind.u8.wrap (-cv)) (bits BinOp.xor IntKind.u8 x y))=if cv=1 then y else x:=by
 obtain ⟨x,rfl⟩:=xiN hx
 obtain ⟨y,rfl⟩:=xiN hy
 have hxn:x<2^8:=by omega
 have hyn:y<2^8:=by omega
 have hz:x ^^^ y<256:=Nat.xor_lt_two_pow hxn hyn
 rw [u8_xor_nat x y (by omega) (by omega)]
 rcases hc with rfl | rfl
 · have e:IntKind.u8.wrap (-0)=((0:Nat):Int):=by rw [IntKind.wrap_u8']; rfl
   rw [e,u8_and_nat 0 _ (by omega) hz,Nat.zero_and,u8_xor_nat x 0 (by omega) (by omega),Nat.xor_zero]
   simp
 · have e:IntKind.u8.wrap (-1)=((255:Nat):Int):=by rw [IntKind.wrap_u8']; rfl
   have e2:255 &&& (x ^^^ y)=x ^^^ y:=by
    have h:=Nat.and_two_pow_sub_one_eq_mod (x ^^^ y) 8
    rw [Nat.and_comm,show (255:Nat)=2^8-1 from rfl,h]
    exact Nat.mod_eq_of_lt hz
   rw [e,u8_and_nat _ _ (by omega) hz,e2,u8_xor_nat x _ (by omega) hz,← Nat.xor_assoc,Nat.xor_self,Nat.zero_xor]
   simp
theorem bit_and (bit:Int) (h0:0≤bit) (h1:bit<256):bits BinOp.and IntKind.u8 bit 1=bit%2:=by
 obtain ⟨b,rfl⟩:=xiN h0
 have:=u8_and_nat b 1 (by omega) (by omega)
 rw [Nat.and_one_is_mod] at this
 rw [show (1:Int)=((1:Nat):Int) from rfl,this]
 omega
structure XInv (a b:Nat→Int) (cv:Int) (w:World) (k:Nat) (m:Nat→Int) (w':World):Prop where
 done:∀ j,j<k→m j=if cv=1 then b j else a j
 rest:∀ j,k≤j→m j=a j
 ha:Has w' w.heap.size .u8 32 m
 hb:Has w' (w.heap.size+1) .u8 32 b
 hr:Has w' (w.heap.size+1+1) .u8 32 (fun _=>0)
 fr:Fr w 3 w'
theorem XInv.step {a b:Nat→Int} {cv:Int} {w:World} {k:Nat} {m:Nat→Int} {w':World} (h:XInv a b cv w k m w') (ha:In 256 32 a) (hb:In 256 32 b) (hc:cv=0∨cv=1) (hk:k<32) :
 XInv a b cv w (k+1) (upd m k (if cv=1 then b k else a k)) ((w'.setCell ⟨w.heap.size,k,none⟩ (.int .u8 (bits BinOp.xor IntKind.u8 (m k) (bits BinOp.and IntKind.u8 (IntKind.u8.wrap (-cv)) (bits BinOp.xor IntKind.u8 (m k) (b k)))))).drew):=by
 rw [h.rest k (xnR k),pick8 (a k) (b k) cv (ha k hk).1 (ha k hk).2 (hb k hk).1 (hb k hk).2 hc]
 refine ⟨fun j hj=>?_,fun j hj=>?_,(h.ha.set k hk _).drew,(h.hb.set_other _ _ (by simp)).drew,(h.hr.set_other _ _ (by simp; omega)).drew,(h.fr.set _ _ (by simp)).drew⟩
 · by_cases e:j=k
   · subst e; rw [upd_same]
   · rw [upd_other _ _ _ _ e]; exact h.done j (by omega)
 · rw [upd_other _ _ _ _ (by omega)]; exact h.rest j (by omega)
def sel (bit:Int) (a b:Nat→Int):Nat→Int:=if bit%2=1 then b else a
theorem sel_in (bit:Int) (a b:Nat→Int) (ha:In 256 32 a) (hb:In 256 32 b):In 256 32 (sel bit a b):=by unfold sel; split <;> assumption
theorem pick_any (bit:Int) (hbit:0≤bit∧bit<256) (a b:Nat→Int) (ha:In 256 32 a) (hb:In 256 32 b) (w:World) :
 Calls Tryz.prog 88 #[.int .u8 bit,(.agg (row .u8 32 (a)).toArray),(.agg (row .u8 32 (b)).toArray)] w fun e w'=>e=.returned (.agg (row .u8 32 (sel bit a b)).toArray)∧Below w.heap.size w w':=by
 have hm:=bit_and bit hbit.1 hbit.2
 have hc:bit%2=0∨bit%2=1:=by omega
 have hs:∀ j,(if bit%2=1 then b j else a j)=sel bit a b j:=fun j=>by unfold sel; split <;> rfl
 have HS:=show Hid _ from hs; have HC:=show Hid _ from hc; clear hs hc; generalize hcv:bit%2=cv at *; clear hcv
 go_enter Tryz.func88,Tryz.ntmps88
 go_wp2
 go_loopw [12] (fun i w'=>∃ (k:Nat) (m:Nat→Int),k≤32∧i=.int .i64 k∧XInv a b cv w k m w') (fun i _=>32-(intOf i).toNat)
 case atStart=>exact ⟨0,a,by omega,rfl,⟨fun j hj=>by omega,fun _ _=>rfl,((Has.new w _ _ _ _ _ rfl).alloc _ (by simp)).alloc _ (by simp; omega),(Has.new _ _ _ _ _ _ (by simp)).alloc _ (by simp),key_zero _ _ _ (by simp),(((Fr.refl w).alloc _).alloc _).alloc _⟩⟩
 case round =>
  obtain ⟨k,m,hk,rfl,hI⟩:=hrel
  by_cases hlt:k<32
  · have HX:=show Hid _ from hI.step ha hb HC.out hlt
    have c1:=hI.ha.cell k hlt; have c2:=hI.hb.cell k hlt; have f1:=hI.ha.free k hlt
    have g1:(0:Int)≤(k:Int):=by omega
    have g2:(k:Int)<32:=by omega
    clear hI hm; generalize m k=x at *; generalize b k=y at *; go_wp2
    go_region
    go_wp2
    go_roundw
    case rel=>exact ⟨k+1,_,by omega,by go_num,HX.out⟩
    case measure=>simp [intOf]; omega
  · obtain rfl:k=32:=by omega
    have hA:=hI.ha.congr (g:=sel bit a b) (fun j hj=>by rw [hI.done j hj]; exact HS.out j); have hz:=hI.hr; clear hm hlt hk
    go_wp2_with (first | (refine wpList_load_mid rfl 23 _ rfl (w.heap.size) 0 rfl (row .u8 32 (sel bit a b)) _ (Has.range (hA)) Tryz.underlying23 rfl (key_info _) ?_) | (refine wpList_store_mid rfl 23 _ _ rfl (w.heap.size+1+1) 0 (row .u8 32 (sel bit a b)).toArray rfl rfl (key_there (hz)) (key_info' _) (all_oneCell_toArray (row_one _ _ _)) ?_))
    exact bodyPost_ret (v:=(.agg (row .u8 32 (sel bit a b)).toArray)) (results_row Tryz.results88 rfl (Has.all hz.there .u8 (sel bit a b)).range Tryz.underlying23 rfl (key_info (sel bit a b))) rfl ⟨rfl,(hI.fr.setAll _ (by omega) _).below⟩
end Go.Proofs.YtklnibmfpcmeeaaGreatDoor
