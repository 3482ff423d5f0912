/- Texts of Door13, joined. -/
import Derived.Test.YtklnibmfpcmeeaaGreatDoorP28ShakeTries
set_option maxRecDepth 100000
set_option maxHeartbeats 64000000
namespace Go.Proofs.YtklnibmfpcmeeaaGreatDoor
open Go.RowKit
section
open Go.ChangeShapes Go.WideShapes Go.ChangeAt Go.WideMaps Go.WideElems Go.RowKit
theorem cDZ0:Tryz.prog.cellsOf 141=8:=by kernel_rfl
theorem cDZ1:Tryz.prog.cellsOf 122=1:=by kernel_rfl
theorem cDZ3:Tryz.prog.cellsOf 5=1:=by kernel_rfl
theorem cDZ4:Tryz.prog.cellsOf 50=16:=by kernel_rfl
theorem cDZ6:Tryz.prog.cellsOf 183=4:=by kernel_rfl
theorem cDZ7:Tryz.prog.cellsOf 156=4:=by kernel_rfl
theorem cDZ9:Tryz.prog.cellsOf 3=1:=by kernel_rfl
theorem cDZ10:Tryz.prog.cellsOf 187=4:=by kernel_rfl
theorem cDZ11:Tryz.prog.cellsOf 51=16:=by kernel_rfl
theorem cDZ12:Tryz.prog.cellsOf 192=3:=by kernel_rfl
theorem cDZ13:Tryz.prog.cellsOf 58=1:=by kernel_rfl
theorem cDZ14:Tryz.prog.cellsOf 116=4:=by kernel_rfl
theorem gDZ0 : Tryz.prog.globalNamed "sheave/blake.iv" = some 2 := by kernel_rfl
theorem tDZ0:(Tryz.prog.globals[2]?).map (·.type)=some 141:=by kernel_rfl
theorem gDZ1 : Tryz.prog.globalNamed "sheave/blake.rows" = some 5 := by kernel_rfl
theorem tDZ1:(Tryz.prog.globals[5]?).map (·.type)=some 182:=by kernel_rfl
theorem gDZ2 : Tryz.prog.globalNamed "sheave/blake.places" = some 4 := by kernel_rfl
theorem tDZ2:(Tryz.prog.globals[4]?).map (·.type)=some 184:=by kernel_rfl
theorem gDZ3 : Tryz.prog.globalNamed "sheave/chacha.first" = some 6 := by kernel_rfl
theorem tDZ3:(Tryz.prog.globals[6]?).map (·.type)=some 156:=by kernel_rfl
theorem gDZ4 : Tryz.prog.globalNamed "sheave/chacha.places" = some 7 := by kernel_rfl
theorem tDZ4:(Tryz.prog.globals[7]?).map (·.type)=some 188:=by kernel_rfl
theorem gDZ5 : Tryz.prog.globalNamed "sheave/clamp.kept" = some 8 := by kernel_rfl
theorem tDZ5:(Tryz.prog.globals[8]?).map (·.type)=some 51:=by kernel_rfl
theorem gDZ6 : Tryz.prog.globalNamed "sheave/clamp.modulus" = some 9 := by kernel_rfl
theorem tDZ6:(Tryz.prog.globals[9]?).map (·.type)=some 192:=by kernel_rfl
theorem gDZ7 : Tryz.prog.globalNamed "sheave/curve.prime" = some 3 := by kernel_rfl
theorem tDZ7:(Tryz.prog.globals[3]?).map (·.type)=some 116:=by kernel_rfl
theorem gDZ8 : Tryz.prog.globalNamed "sheave/curve.power" = some 1 := by kernel_rfl
theorem tDZ8:(Tryz.prog.globals[1]?).map (·.type)=some 116:=by kernel_rfl
theorem gDZ9 : Tryz.prog.globalNamed "sheave/ladder.trims" = some 0 := by kernel_rfl
theorem tDZ9:(Tryz.prog.globals[0]?).map (·.type)=some 112:=by kernel_rfl
theorem cD13t:Tryz.prog.cellsOf 112=6:=by kernel_rfl
theorem cD13r:Tryz.prog.cellsOf 111=3:=by kernel_rfl
theorem cD13i:Tryz.prog.cellsOf 3=1:=by kernel_rfl
theorem open_trim {H:Type} {enc:TypeId × Value→H} {W:World} {base:Nat} {sp:Nat→Bool} {held:Bool} {fuel:Nat} {c0 c1 c2:Value} {a k s:Int} {x:DataW H × List MemPlace} (hd:x.1=.agg [.lit (.int .i64 a),.lit (.int .u8 k),.lit (.int .u8 s)])
 (h:DataW.trod enc Tryz.prog W base sp held fuel 111 [c0,c1,c2]=some x):c0=.int .i64 a∧c1=.int .u8 k∧c2=.int .u8 s:=by
 obtain ⟨ys,m,_,hx,_,hn,hel⟩:=DataW.trod_struct Tryz.underlying111 h
 have h0:=hel 0 _ rfl; have h1:=hel 1 _ rfl; have h2:=hel 2 _ rfl
 simp [cD13i,cellsByte] at h0 h1 h2
 match ys,hn with
 | [y0,y1,y2],_ =>
   obtain ⟨n0,e0,z0,_⟩:=DataW.trod_int Tryz.underlying3 h0
   obtain ⟨n1,e1,z1,_⟩:=DataW.trod_int Tryz.underlying5 h1
   obtain ⟨n2,e2,z2,_⟩:=DataW.trod_int Tryz.underlying5 h2
   rw [hx,z0,z1,z2] at hd
   simp only [List.map_cons,List.map_nil,DataW.agg.injEq,List.cons.injEq,DataW.lit.injEq,Lit.int.injEq,true_and,and_true] at hd
   obtain ⟨rfl,rfl,rfl⟩:=hd
   simp only [List.cons.injEq,and_true] at e0 e1 e2
   exact ⟨e0,e1,e2⟩
theorem open_trims {H:Type} {enc:TypeId × Value→H} {W:World} {base:Nat} {sp:Nat→Bool} {held:Bool} {fuel:Nat} {cs:Array Value} {q:List MemPlace}
 (h:DataW.trod enc Tryz.prog W base sp held fuel 112 cs.toList=some (Rows.laid_sheave_ladder_trims,q)) :
 cs.toList=[.int .i64 0,.int .u8 248,.int .u8 0,.int .i64 31,.int .u8 127,.int .u8 64]:=by
 obtain ⟨xs,m,_,hx,hl,hn,hel⟩:=DataW.trod_array Tryz.underlying112 h
 rw [cD13t] at hl
 have h0:=hel 0 (by omega); have h1:=hel 1 (by omega)
 rw [cD13r] at h0 h1
 generalize cs.toList=l at *
 match l,hl,xs,hn with
 | [c0,c1,c2,c3,c4,c5],_,[x0,x1],_ =>
   simp only [Prod.mk.injEq,Rows.laid_sheave_ladder_trims,List.map_cons,List.map_nil,DataW.agg.injEq,List.cons.injEq,and_true] at hx
   obtain ⟨rfl,rfl,rfl⟩:=open_trim hx.1.1.symm h0
   obtain ⟨rfl,rfl,rfl⟩:=open_trim hx.1.2.symm h1
   rfl
def laidZ {H : Type} : List (String × DataW H) := [("sheave/blake.iv", Rows.laid_sheave_blake_iv), ("sheave/blake.rows", Rows.laid_sheave_blake_rows), ("sheave/blake.places", Rows.laid_sheave_blake_places), ("sheave/chacha.first", Rows.laid_sheave_chacha_first), ("sheave/chacha.places", Rows.laid_sheave_chacha_places), ("sheave/clamp.kept", Rows.laid_sheave_clamp_kept), ("sheave/clamp.modulus", Rows.laid_sheave_clamp_modulus), ("sheave/curve.prime", Rows.laid_sheave_curve_prime), ("sheave/curve.power", Rows.laid_sheave_curve_power), ("sheave/ladder.trims", Rows.laid_sheave_ladder_trims)]
theorem glob_of_laidZ {W:World} (h:laidMetH Tryz.prog laidZ W):HGlob13 W:=by
 rw [MakeChecks.laidMetH_plain _ _ _ (by kernel_rfl)] at h
 obtain ⟨ps,⟨g0,t0,cs0,f0,p0,q0,hg0,ht0,hv0,hd0,⟨g1,t1,cs1,f1,p1,q1,hg1,ht1,hv1,hd1,⟨g2,t2,cs2,f2,p2,q2,hg2,ht2,hv2,hd2,⟨g3,t3,cs3,f3,p3,q3,hg3,ht3,hv3,hd3,⟨g4,t4,cs4,f4,p4,q4,hg4,ht4,hv4,hd4,⟨g5,t5,cs5,f5,p5,q5,hg5,ht5,hv5,hd5,⟨g6,t6,cs6,f6,p6,q6,hg6,ht6,hv6,hd6,⟨g7,t7,cs7,f7,p7,q7,hg7,ht7,hv7,hd7,⟨g8,t8,cs8,f8,p8,q8,hg8,ht8,hv8,hd8,⟨g9,t9,cs9,f9,p9,q9,hg9,ht9,hv9,hd9,_,_⟩,_⟩,_⟩,_⟩,_⟩,_⟩,_⟩,_⟩,_⟩,_⟩,_,_⟩:=h
 obtain rfl:=Option.some.inj (gDZ0.symm.trans hg0)
 obtain rfl:=Option.some.inj (tDZ0.symm.trans ht0)
 obtain rfl:=Option.some.inj (gDZ1.symm.trans hg1)
 obtain rfl:=Option.some.inj (tDZ1.symm.trans ht1)
 obtain rfl:=Option.some.inj (gDZ2.symm.trans hg2)
 obtain rfl:=Option.some.inj (tDZ2.symm.trans ht2)
 obtain rfl:=Option.some.inj (gDZ3.symm.trans hg3)
 obtain rfl:=Option.some.inj (tDZ3.symm.trans ht3)
 obtain rfl:=Option.some.inj (gDZ4.symm.trans hg4)
 obtain rfl:=Option.some.inj (tDZ4.symm.trans ht4)
 obtain rfl:=Option.some.inj (gDZ5.symm.trans hg5)
 obtain rfl:=Option.some.inj (tDZ5.symm.trans ht5)
 obtain rfl:=Option.some.inj (gDZ6.symm.trans hg6)
 obtain rfl:=Option.some.inj (tDZ6.symm.trans ht6)
 obtain rfl:=Option.some.inj (gDZ7.symm.trans hg7)
 obtain rfl:=Option.some.inj (tDZ7.symm.trans ht7)
 obtain rfl:=Option.some.inj (gDZ8.symm.trans hg8)
 obtain rfl:=Option.some.inj (tDZ8.symm.trans ht8)
 obtain rfl:=Option.some.inj (gDZ9.symm.trans hg9)
 obtain rfl:=Option.some.inj (tDZ9.symm.trans ht9)
 obtain ⟨F0,_,eA0,eB0⟩:=open_row Tryz.underlying141 Tryz.underlying122 cDZ0 cDZ1 hd0
 simp only [Prod.mk.injEq] at eB0
 have eF0:=litR_inj (show (litR .u32 8 iv:DataW _)=litR .u32 8 F0 from eB0.1)
 have c_blake_iv:∀ j,j<8→W.cell? ⟨2,j,none⟩=some (.int .u32 (iv j)):=fun j hj=>by
  rw [World.var?_cell hg0 hv0 j,eF0 j hj]
  have:=row_get .u32 8 F0 j hj
  rw [← eA0] at this
  simpa using this
 have s0:=World.block_lt_of_cell? W _ (c_blake_iv 0 (by decide)); have b1:=open_table (n:=10) (m:=16) Tryz.underlying182 Tryz.underlying50 Tryz.underlying5 cDZ4 cDZ3 (by decide) (fun j=>((sgL.getD j 0:Nat):Int)) (by rfl) hd1
 have c_blake_rows:∀ j,j<160→W.cell? ⟨5,j,none⟩=some (.int .u8 ((fun j=>((sgL.getD j 0:Nat):Int)) j)):=fun j hj=>by
  rw [World.var?_cell hg1 hv1 j]; simpa using b1 j hj
 have s1:=World.block_lt_of_cell? W _ (c_blake_rows 0 (by decide)); have b2:=open_table (n:=8) (m:=4) Tryz.underlying184 Tryz.underlying183 Tryz.underlying5 cDZ6 cDZ3 (by decide) bplc (by rfl) hd2
 have c_blake_places:∀ j,j<32→W.cell? ⟨4,j,none⟩=some (.int .u8 (bplc j)):=fun j hj=>by
  rw [World.var?_cell hg2 hv2 j]; simpa using b2 j hj
 have s2:=World.block_lt_of_cell? W _ (c_blake_places 0 (by decide))
 obtain ⟨F3,_,eA3,eB3⟩:=open_row Tryz.underlying156 Tryz.underlying122 cDZ7 cDZ1 hd3
 simp only [Prod.mk.injEq] at eB3
 have eF3:=litR_inj (show (litR .u32 4 hfst:DataW _)=litR .u32 4 F3 from eB3.1)
 have c_chacha_first:∀ j,j<4→W.cell? ⟨6,j,none⟩=some (.int .u32 (hfst j)):=fun j hj=>by
  rw [World.var?_cell hg3 hv3 j,eF3 j hj]
  have:=row_get .u32 4 F3 j hj
  rw [← eA3] at this
  simpa using this
 have s3:=World.block_lt_of_cell? W _ (c_chacha_first 0 (by decide)); have b4:=open_table (n:=8) (m:=4) Tryz.underlying188 Tryz.underlying187 Tryz.underlying3 cDZ10 cDZ9 (by decide) plc (by rfl) hd4
 have c_chacha_places:∀ j,j<32→W.cell? ⟨7,j,none⟩=some (.int .i64 (plc j)):=fun j hj=>by
  rw [World.var?_cell hg4 hv4 j]; simpa using b4 j hj
 have s4:=World.block_lt_of_cell? W _ (c_chacha_places 0 (by decide))
 obtain ⟨F5,_,eA5,eB5⟩:=open_row Tryz.underlying51 Tryz.underlying5 cDZ11 cDZ3 hd5
 simp only [Prod.mk.injEq] at eB5
 have eF5:=litR_inj (show (litR .u8 16 keptB:DataW _)=litR .u8 16 F5 from eB5.1)
 have c_clamp_kept:∀ j,j<16→W.cell? ⟨8,j,none⟩=some (.int .u8 (keptB j)):=fun j hj=>by
  rw [World.var?_cell hg5 hv5 j,eF5 j hj]
  have:=row_get .u8 16 F5 j hj
  rw [← eA5] at this
  simpa using this
 have s5:=World.block_lt_of_cell? W _ (c_clamp_kept 0 (by decide))
 obtain ⟨F6,_,eA6,eB6⟩:=open_row Tryz.underlying192 Tryz.underlying58 cDZ12 cDZ13 hd6
 simp only [Prod.mk.injEq] at eB6
 have eF6:=litR_inj (show (litR .u64 3 qW:DataW _)=litR .u64 3 F6 from eB6.1)
 have c_clamp_modulus:∀ j,j<3→W.cell? ⟨9,j,none⟩=some (.int .u64 (qW j)):=fun j hj=>by
  rw [World.var?_cell hg6 hv6 j,eF6 j hj]
  have:=row_get .u64 3 F6 j hj
  rw [← eA6] at this
  simpa using this
 have s6:=World.block_lt_of_cell? W _ (c_clamp_modulus 0 (by decide))
 obtain ⟨F7,_,eA7,eB7⟩:=open_row Tryz.underlying116 Tryz.underlying58 cDZ14 cDZ13 hd7
 simp only [Prod.mk.injEq] at eB7
 have eF7:=litR_inj (show (litR .u64 4 pW:DataW _)=litR .u64 4 F7 from eB7.1)
 have c_curve_prime:∀ j,j<4→W.cell? ⟨3,j,none⟩=some (.int .u64 (pW j)):=fun j hj=>by
  rw [World.var?_cell hg7 hv7 j,eF7 j hj]
  have:=row_get .u64 4 F7 j hj
  rw [← eA7] at this
  simpa using this
 have s7:=World.block_lt_of_cell? W _ (c_curve_prime 0 (by decide))
 obtain ⟨F8,_,eA8,eB8⟩:=open_row Tryz.underlying116 Tryz.underlying58 cDZ14 cDZ13 hd8
 simp only [Prod.mk.injEq] at eB8
 have eF8:=litR_inj (show (litR .u64 4 eW:DataW _)=litR .u64 4 F8 from eB8.1)
 have c_curve_power:∀ j,j<4→W.cell? ⟨1,j,none⟩=some (.int .u64 (eW j)):=fun j hj=>by
  rw [World.var?_cell hg8 hv8 j,eF8 j hj]
  have:=row_get .u64 4 F8 j hj
  rw [← eA8] at this
  simpa using this
 have s8:=World.block_lt_of_cell? W _ (c_curve_power 0 (by decide)); have b9:=open_trims hd9
 have c_ladder_trims:∀ j,W.cell? ⟨0,j,none⟩=cs9.toList[j]?:=fun j=>by
  rw [World.var?_cell hg9 hv9 j]; simp
 rw [b9] at c_ladder_trims
 have s9:=World.block_lt_of_cell? W _ (c_ladder_trims 0)
 have hsz:10≤W.heap.size:=by dsimp only at s0 s1 s2 s3 s4 s5 s6 s7 s8 s9; omega
 exact ⟨⟨⟨⟨c_chacha_first,c_chacha_places,hsz⟩,⟨c_clamp_modulus,c_clamp_kept,hsz⟩⟩,⟨c_blake_iv,c_blake_rows,c_blake_places,hsz⟩⟩,⟨c_curve_prime,c_curve_power,hsz⟩,⟨c_ladder_trims 0,c_ladder_trims 1,c_ladder_trims 2,c_ladder_trims 3,c_ladder_trims 4,c_ladder_trims 5⟩⟩
theorem door_metZ0 (os:Os) (args:Array Value):laidMet Tryz.prog laidZ ((World.doorLaid Tryz.prog 160 os).forCall (fun _ _=>0) ⟨#[],args,[]⟩).memory:=laidMet_of_run' 8 (by kernel_rfl) (by kernel_rfl)
theorem door_metZ (os:Os) (args:Array Value):laidMetH Tryz.prog laidZ ((World.doorLaid Tryz.prog 160 os).forCall (fun _ _=>0) ⟨#[],args,[]⟩).memory :=
 laidMetH_of_parts3 (fuel:=8) (door_metZ0 os args) (by kernel_rfl) (by kernel_rfl)
end
end Go.Proofs.YtklnibmfpcmeeaaGreatDoor
