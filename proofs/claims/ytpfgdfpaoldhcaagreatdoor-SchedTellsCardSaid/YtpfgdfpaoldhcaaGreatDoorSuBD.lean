/- Several texts in one: ScOpen. -/
import Derived.Test.YtpfgdfpaoldhcaaGreatDoorSuBC
import Derived.ChangeSlices
import Derived.Deep.Slices
import Derived.Stop.LaidErr
import Derived.Stop.LaidTwo
import Derived.LaidHandle
import Derived.LaidLaws
import Derived.Test.YtpfgdfpaoldhcaaGreatDoorRows
import Derived.Test.YtpfgdfpaoldhcaaGreatDoorTie
import Derived.Test.YtpfgdfpaoldhcaaGreatDoorCards
import Derived.ProofKit
import Derived.ChangeMaps5
import Derived.OpenShut
import Derived.ChangeOld
import Derived.LaidMore
import Derived.LaidOnce
import Derived.Stop.Joined
import Derived.MakeChecks
import Derived.SevenTiedAt
set_option maxHeartbeats 8000000
set_option maxRecDepth 100000
set_option linter.unusedVariables false
set_option linter.unusedSimpArgs false
namespace Go.Proofs.YtpfgdfpaoldhcaaGreatDoor
open Go.ChangeShapes Go.WideShapes Go.ChangeAt Go.RowKit
set_option maxRecDepth 100000
theorem own:ownKnob Tryz.prog.godebug=none:=zk
theorem zGq:laidOutB Tryz.prog=true:=zk
theorem i64_bd {n:Int} (h:(Lit.int .i64 n).wf=true) : -9223372036854775808≤n∧n<9223372036854775808:=by
 have hmin:IntKind.i64.min = -9223372036854775808:=rfl
 have hmax:IntKind.i64.max=9223372036854775807:=rfl
 simp only[Lit.wf,Bool.and_eq_true,decide_eq_true_eq] at h
 omega
theorem zB0:Tryz.prog.cellsOf 3=1:=zk
theorem zMk:Tryz.prog.cellsOf 4=1:=zk
section
variable {H:Type} {enc:TypeId × Value→H} {w:World} {base:Nat} {spare:Nat→Bool} {held:Bool} {fuel:Nat} {cs:List Value} {x:DataW H × List MemPlace}
theorem zB1 {t:TypeId} (ht:Tryz.prog.underlying t=some (.int .i64)) (h:DataW.trod enc Tryz.prog w base spare held fuel t cs=some x):∃n,cs=[.int .i64 n]∧-9223372036854775808≤n∧n<9223372036854775808:=by
 obtain⟨n,hc,_,hw⟩:=DataW.trod_int ht h
 exact⟨n,hc,i64_bd hw⟩
theorem zGf {t:TypeId} (ht:Tryz.prog.underlying t=some .bool) (h:DataW.trod enc Tryz.prog w base spare held fuel t cs=some x):∃b:Bool,cs=[.bool b]:=by
 obtain⟨b,hc,_⟩:=DataW.trod_bool ht h
 exact⟨b,hc⟩
theorem cells23:Tryz.prog.cellsOf 23=11:=zk
theorem zKu (h:DataW.trod enc Tryz.prog w base spare held fuel 23 cs=some x) :
  ∃x0 x1 x2 x3 x4 x5 x6 x7 x8 x9 x10,cs=[.int .i64 x0,.int .i64 x1,.int .i64 x2,.int .i64 x3,.int .i64 x4,.int .i64 x5,.int .i64 x6,.bool x7,.bool x8,.bool x9,.int .i64 x10]∧(-9223372036854775808≤x0∧x0<9223372036854775808)∧(-9223372036854775808≤x1∧x1<9223372036854775808)∧(-9223372036854775808≤x2∧x2<9223372036854775808)∧(-9223372036854775808≤x3∧x3<9223372036854775808)∧(-9223372036854775808≤x4∧x4<9223372036854775808)∧(-9223372036854775808≤x5∧x5<9223372036854775808)∧(-9223372036854775808≤x6∧x6<9223372036854775808)∧(-9223372036854775808≤x10∧x10<9223372036854775808):=by
 obtain⟨xs,k,_,_,hl,hx,hf⟩:=DataW.trod_struct Tryz.underlying23 h
 rw[cells23] at hl
 have f0:=hf 0 _ rfl
 have f1:=hf 1 _ rfl
 have f2:=hf 2 _ rfl
 have f3:=hf 3 _ rfl
 have f4:=hf 4 _ rfl
 have f5:=hf 5 _ rfl
 have f6:=hf 6 _ rfl
 have f7:=hf 7 _ rfl
 have f8:=hf 8 _ rfl
 have f9:=hf 9 _ rfl
 have f10:=hf 10 _ rfl
 clear hf h
 match cs,hl with
 | [c0,c1,c2,c3,c4,c5,c6,c7,c8,c9,c10],_=>
  have hx2:xs.length=11:=hx
  match xs,hx2 with
  | [y0,y1,y2,y3,y4,y5,y6,y7,y8,y9,y10],_=>
   change DataW.trod enc Tryz.prog w base spare held k 3 (([c0,c1,c2,c3,c4,c5,c6,c7,c8,c9,c10].drop 0).take (Tryz.prog.cellsOf 3))=some y0 at f0
   rw[zB0] at f0
   change DataW.trod enc Tryz.prog w base spare held k 3 (([c0,c1,c2,c3,c4,c5,c6,c7,c8,c9,c10].drop 1).take (Tryz.prog.cellsOf 3))=some y1 at f1
   rw[zB0] at f1
   change DataW.trod enc Tryz.prog w base spare held k 3 (([c0,c1,c2,c3,c4,c5,c6,c7,c8,c9,c10].drop 2).take (Tryz.prog.cellsOf 3))=some y2 at f2
   rw[zB0] at f2
   change DataW.trod enc Tryz.prog w base spare held k 3 (([c0,c1,c2,c3,c4,c5,c6,c7,c8,c9,c10].drop 3).take (Tryz.prog.cellsOf 3))=some y3 at f3
   rw[zB0] at f3
   change DataW.trod enc Tryz.prog w base spare held k 3 (([c0,c1,c2,c3,c4,c5,c6,c7,c8,c9,c10].drop 4).take (Tryz.prog.cellsOf 3))=some y4 at f4
   rw[zB0] at f4
   change DataW.trod enc Tryz.prog w base spare held k 3 (([c0,c1,c2,c3,c4,c5,c6,c7,c8,c9,c10].drop 5).take (Tryz.prog.cellsOf 3))=some y5 at f5
   rw[zB0] at f5
   change DataW.trod enc Tryz.prog w base spare held k 3 (([c0,c1,c2,c3,c4,c5,c6,c7,c8,c9,c10].drop 6).take (Tryz.prog.cellsOf 3))=some y6 at f6
   rw[zB0] at f6
   change DataW.trod enc Tryz.prog w base spare held k 4 (([c0,c1,c2,c3,c4,c5,c6,c7,c8,c9,c10].drop 7).take (Tryz.prog.cellsOf 4))=some y7 at f7
   rw[zMk] at f7
   change DataW.trod enc Tryz.prog w base spare held k 4 (([c0,c1,c2,c3,c4,c5,c6,c7,c8,c9,c10].drop 8).take (Tryz.prog.cellsOf 4))=some y8 at f8
   rw[zMk] at f8
   change DataW.trod enc Tryz.prog w base spare held k 4 (([c0,c1,c2,c3,c4,c5,c6,c7,c8,c9,c10].drop 9).take (Tryz.prog.cellsOf 4))=some y9 at f9
   rw[zMk] at f9
   change DataW.trod enc Tryz.prog w base spare held k 3 (([c0,c1,c2,c3,c4,c5,c6,c7,c8,c9,c10].drop 10).take (Tryz.prog.cellsOf 3))=some y10 at f10
   rw[zB0] at f10
   obtain⟨x0,e0,g0⟩:=zB1 Tryz.underlying3 f0
   obtain⟨x1,e1,g1⟩:=zB1 Tryz.underlying3 f1
   obtain⟨x2,e2,g2⟩:=zB1 Tryz.underlying3 f2
   obtain⟨x3,e3,g3⟩:=zB1 Tryz.underlying3 f3
   obtain⟨x4,e4,g4⟩:=zB1 Tryz.underlying3 f4
   obtain⟨x5,e5,g5⟩:=zB1 Tryz.underlying3 f5
   obtain⟨x6,e6,g6⟩:=zB1 Tryz.underlying3 f6
   obtain⟨x7,e7⟩:=zGf Tryz.underlying4 f7
   obtain⟨x8,e8⟩:=zGf Tryz.underlying4 f8
   obtain⟨x9,e9⟩:=zGf Tryz.underlying4 f9
   obtain⟨x10,e10,g10⟩:=zB1 Tryz.underlying3 f10
   simp at e0 e1 e2 e3 e4 e5 e6 e7 e8 e9 e10
   subst e0
   subst e1
   subst e2
   subst e3
   subst e4
   subst e5
   subst e6
   subst e7
   subst e8
   subst e9
   subst e10
   exact⟨x0,x1,x2,x3,x4,x5,x6,x7,x8,x9,x10,rfl,g0,g1,g2,g3,g4,g5,g6,g10⟩
theorem zQd:Tryz.prog.cellsOf 76=8:=zk
theorem zHi (h:DataW.trod enc Tryz.prog w base spare held fuel 76 cs=some x) :
  ∃x0 x1 x2 x3 x4 x5 x6 x7,cs=[.int .i64 x0,.int .i64 x1,.int .i64 x2,.int .i64 x3,.int .i64 x4,.int .i64 x5,.int .i64 x6,.int .i64 x7]∧(-9223372036854775808≤x0∧x0<9223372036854775808)∧(-9223372036854775808≤x1∧x1<9223372036854775808)∧(-9223372036854775808≤x2∧x2<9223372036854775808)∧(-9223372036854775808≤x3∧x3<9223372036854775808)∧(-9223372036854775808≤x4∧x4<9223372036854775808)∧(-9223372036854775808≤x5∧x5<9223372036854775808)∧(-9223372036854775808≤x6∧x6<9223372036854775808)∧(-9223372036854775808≤x7∧x7<9223372036854775808):=by
 obtain⟨xs,k,_,_,hl,hx,hf⟩:=DataW.trod_struct Tryz.underlying76 h
 rw[zQd] at hl
 have f0:=hf 0 _ rfl
 have f1:=hf 1 _ rfl
 have f2:=hf 2 _ rfl
 have f3:=hf 3 _ rfl
 have f4:=hf 4 _ rfl
 have f5:=hf 5 _ rfl
 have f6:=hf 6 _ rfl
 have f7:=hf 7 _ rfl
 clear hf h
 match cs,hl with
 | [c0,c1,c2,c3,c4,c5,c6,c7],_=>
  have hx2:xs.length=8:=hx
  match xs,hx2 with
  | [y0,y1,y2,y3,y4,y5,y6,y7],_=>
   change DataW.trod enc Tryz.prog w base spare held k 3 (([c0,c1,c2,c3,c4,c5,c6,c7].drop 0).take (Tryz.prog.cellsOf 3))=some y0 at f0
   rw[zB0] at f0
   change DataW.trod enc Tryz.prog w base spare held k 3 (([c0,c1,c2,c3,c4,c5,c6,c7].drop 1).take (Tryz.prog.cellsOf 3))=some y1 at f1
   rw[zB0] at f1
   change DataW.trod enc Tryz.prog w base spare held k 3 (([c0,c1,c2,c3,c4,c5,c6,c7].drop 2).take (Tryz.prog.cellsOf 3))=some y2 at f2
   rw[zB0] at f2
   change DataW.trod enc Tryz.prog w base spare held k 3 (([c0,c1,c2,c3,c4,c5,c6,c7].drop 3).take (Tryz.prog.cellsOf 3))=some y3 at f3
   rw[zB0] at f3
   change DataW.trod enc Tryz.prog w base spare held k 3 (([c0,c1,c2,c3,c4,c5,c6,c7].drop 4).take (Tryz.prog.cellsOf 3))=some y4 at f4
   rw[zB0] at f4
   change DataW.trod enc Tryz.prog w base spare held k 3 (([c0,c1,c2,c3,c4,c5,c6,c7].drop 5).take (Tryz.prog.cellsOf 3))=some y5 at f5
   rw[zB0] at f5
   change DataW.trod enc Tryz.prog w base spare held k 3 (([c0,c1,c2,c3,c4,c5,c6,c7].drop 6).take (Tryz.prog.cellsOf 3))=some y6 at f6
   rw[zB0] at f6
   change DataW.trod enc Tryz.prog w base spare held k 3 (([c0,c1,c2,c3,c4,c5,c6,c7].drop 7).take (Tryz.prog.cellsOf 3))=some y7 at f7
   rw[zB0] at f7
   obtain⟨x0,e0,g0⟩:=zB1 Tryz.underlying3 f0
   obtain⟨x1,e1,g1⟩:=zB1 Tryz.underlying3 f1
   obtain⟨x2,e2,g2⟩:=zB1 Tryz.underlying3 f2
   obtain⟨x3,e3,g3⟩:=zB1 Tryz.underlying3 f3
   obtain⟨x4,e4,g4⟩:=zB1 Tryz.underlying3 f4
   obtain⟨x5,e5,g5⟩:=zB1 Tryz.underlying3 f5
   obtain⟨x6,e6,g6⟩:=zB1 Tryz.underlying3 f6
   obtain⟨x7,e7,g7⟩:=zB1 Tryz.underlying3 f7
   simp at e0 e1 e2 e3 e4 e5 e6 e7
   subst e0
   subst e1
   subst e2
   subst e3
   subst e4
   subst e5
   subst e6
   subst e7
   exact⟨x0,x1,x2,x3,x4,x5,x6,x7,rfl,g0,g1,g2,g3,g4,g5,g6,g7⟩
end
section
variable {H:Type} {enc:TypeId × Value→H} {w:World} {base:Nat} {spare:Nat→Bool} {held:Bool} {r:Reach} {b0:Nat} {v:Value} {d:DataW H} {p:List MemPlace}
theorem zHr (hv:Value.okWide Tryz.prog w r b0 23 v) (h:DataW.Trod enc Tryz.prog w base spare held 23 v d p) :
  ∃x0 x1 x2 x3 x4 x5 x6 x7 x8 x9 x10,v=.agg #[.int .i64 x0,.int .i64 x1,.int .i64 x2,.int .i64 x3,.int .i64 x4,.int .i64 x5,.int .i64 x6,.bool x7,.bool x8,.bool x9,.int .i64 x10]∧(-9223372036854775808≤x0∧x0<9223372036854775808)∧(-9223372036854775808≤x1∧x1<9223372036854775808)∧(-9223372036854775808≤x2∧x2<9223372036854775808)∧(-9223372036854775808≤x3∧x3<9223372036854775808)∧(-9223372036854775808≤x4∧x4<9223372036854775808)∧(-9223372036854775808≤x5∧x5<9223372036854775808)∧(-9223372036854775808≤x6∧x6<9223372036854775808)∧(-9223372036854775808≤x10∧x10<9223372036854775808):=by
 obtain⟨cs,rfl,_⟩:=okWide_struct Tryz.underlying23 hv
 obtain⟨fuel,hf⟩:=h
 obtain⟨x0,x1,x2,x3,x4,x5,x6,x7,x8,x9,x10,hc,hb⟩:=zKu hf
 refine⟨x0,x1,x2,x3,x4,x5,x6,x7,x8,x9,x10,?_,hb⟩
 simp[Value.cells] at hc
 obtain⟨l⟩:=cs
 simp at hc
 rw[hc]
end
def zE8:List (String × DataW Unit):=[("demurrage/civil.lengths",Rows.laid_demurrage_civil_lengths),("errors.errorType",Rows.laid_errors_errorType),("demurrage/actual.errDay",Rows.laid_demurrage_actual_errDay),("demurrage/actual.errOrder",Rows.laid_demurrage_actual_errOrder),("demurrage/icma.errNoDay",Rows.laid_demurrage_icma_errNoDay),("demurrage/icma.errOrder",Rows.laid_demurrage_icma_errOrder),("demurrage/icma.errMany",Rows.laid_demurrage_icma_errMany),("demurrage/icma.errFalls",Rows.laid_demurrage_icma_errFalls),("demurrage/icma.errEmpty",Rows.laid_demurrage_icma_errEmpty),("demurrage/icma.errFreq",Rows.laid_demurrage_icma_errFreq),("demurrage/icma.errOutside",Rows.laid_demurrage_icma_errOutside),("demurrage/roll.names",Rows.laid_demurrage_roll_names),("demurrage/terms.names",Rows.laid_demurrage_terms_names),("demurrage/terms.errNone",Rows.laid_demurrage_terms_errNone),("demurrage/terms.errDay",Rows.laid_demurrage_terms_errDay),("demurrage/terms.errOrder",Rows.laid_demurrage_terms_errOrder),("demurrage/terms.errBound",Rows.laid_demurrage_terms_errBound)]
theorem gLens:Tryz.prog.globalNamed "demurrage/civil.lengths" = some 9:=zk
theorem tLens:(Tryz.prog.globals[9]?).map (·.type)=some 240:=zk
theorem cells12:Tryz.prog.cellsOf 240=12:=zk
theorem zMp (os:Os) (args:Array Value):laidMetH Tryz.prog zE8 ((World.doorLaid Tryz.prog 278 os).forCall (fun _ _=>0) ⟨#[],args,[]⟩).memory:=
 laidMetH_of_parts3 (fuel:=8) (laidMet_of_run' 8 zk zk) zk zk
theorem zD4 {H:Type} {enc:TypeId × Value→H} {w:World} {base:Nat} {spare:Nat→Bool} {held:Bool} {fuel:Nat} {cs:List Value} {x:DataW H × List MemPlace} {n:Int}
  (h:DataW.trod enc Tryz.prog w base spare held fuel 3 cs=some x) (hx:x.1=.lit (.int .i64 n)):cs=[.int .i64 n]:=by
 obtain⟨k,e1,e2,_⟩:=DataW.trod_int Tryz.underlying3 h
 rw[e2] at hx
 simp at hx
 rw[e1,hx]
theorem zC7 {W:World} (h:laidMetH Tryz.prog zE8 W):laidMet Tryz.prog [("demurrage/civil.lengths",Rows.laid_demurrage_civil_lengths),("demurrage/actual.errDay",Rows.laid_demurrage_actual_errDay),("demurrage/actual.errOrder",Rows.laid_demurrage_actual_errOrder),("demurrage/icma.errNoDay",Rows.laid_demurrage_icma_errNoDay),("demurrage/icma.errOrder",Rows.laid_demurrage_icma_errOrder),("demurrage/icma.errMany",Rows.laid_demurrage_icma_errMany),("demurrage/icma.errFalls",Rows.laid_demurrage_icma_errFalls),("demurrage/icma.errEmpty",Rows.laid_demurrage_icma_errEmpty),("demurrage/icma.errFreq",Rows.laid_demurrage_icma_errFreq),("demurrage/icma.errOutside",Rows.laid_demurrage_icma_errOutside),("demurrage/roll.names",Rows.laid_demurrage_roll_names),("demurrage/terms.names",Rows.laid_demurrage_terms_names),("demurrage/terms.errNone",Rows.laid_demurrage_terms_errNone),("demurrage/terms.errDay",Rows.laid_demurrage_terms_errDay),("demurrage/terms.errOrder",Rows.laid_demurrage_terms_errOrder),("demurrage/terms.errBound",Rows.laid_demurrage_terms_errBound)] W∧handlesMet Tryz.prog [("errors.errorType",Rows.laid_errors_errorType)] W:=h
theorem zRj {W:World} (hH:laidMetH Tryz.prog zE8 W):Lens W:=by
 have h:=(zC7 hH).1
 clear hH
 obtain⟨ps,⟨g0,t0,cs0,f0,p0,q0,hg0,ht0,hv0,hd0,_,_⟩,_,_⟩:=h
 obtain rfl:=Option.some.inj (gLens.symm.trans hg0)
 obtain rfl:=Option.some.inj (tLens.symm.trans ht0)
 obtain⟨xs,m1,rfl,hx1,hlen,hn3,hel⟩:=DataW.trod_array Tryz.underlying240 hd0
 rw[cells12] at hlen
 have hc:=fun i=>World.var?_cell hg0 hv0 i
 simp only[Prod.mk.injEq,Rows.laid_demurrage_civil_lengths,DataW.agg.injEq] at hx1
 have hx:=hx1.1
 clear hx1 hd0 hv0
 obtain⟨l⟩:=cs0
 match xs,hn3,l,hlen with
 | [x0,x1,x2,x3,x4,x5,x6,x7,x8,x9,x10,x11],_,[c0,c1,c2,c3,c4,c5,c6,c7,c8,c9,c10,c11],_=>
  simp only[List.map_cons,List.map_nil,List.cons.injEq,and_true] at hx
  obtain⟨y0,y1,y2,y3,y4,y5,y6,y7,y8,y9,y10,y11⟩:=hx
  have e0:c0=.int .i64 31:=by
   have:=hel 0 zd
   rw[zB0] at this
   simpa using zD4 this y0.symm
  have e1:c1=.int .i64 28:=by
   have:=hel 1 zd
   rw[zB0] at this
   simpa using zD4 this y1.symm
  have e2:c2=.int .i64 31:=by
   have:=hel 2 zd
   rw[zB0] at this
   simpa using zD4 this y2.symm
  have e3:c3=.int .i64 30:=by
   have:=hel 3 zd
   rw[zB0] at this
   simpa using zD4 this y3.symm
  have e4:c4=.int .i64 31:=by
   have:=hel 4 zd
   rw[zB0] at this
   simpa using zD4 this y4.symm
  have e5:c5=.int .i64 30:=by
   have:=hel 5 zd
   rw[zB0] at this
   simpa using zD4 this y5.symm
  have e6:c6=.int .i64 31:=by
   have:=hel 6 zd
   rw[zB0] at this
   simpa using zD4 this y6.symm
  have e7:c7=.int .i64 31:=by
   have:=hel 7 zd
   rw[zB0] at this
   simpa using zD4 this y7.symm
  have e8:c8=.int .i64 30:=by
   have:=hel 8 zd
   rw[zB0] at this
   simpa using zD4 this y8.symm
  have e9:c9=.int .i64 31:=by
   have:=hel 9 zd
   rw[zB0] at this
   simpa using zD4 this y9.symm
  have e10:c10=.int .i64 30:=by
   have:=hel 10 zd
   rw[zB0] at this
   simpa using zD4 this y10.symm
  have e11:c11=.int .i64 31:=by
   have:=hel 11 zd
   rw[zB0] at this
   simpa using zD4 this y11.symm
  intro i hi
  rw[hc i]
  match i,hi with
  | 0,_=>simpa [l0] using e0
  | 1,_=>simpa [l0] using e1
  | 2,_=>simpa [l0] using e2
  | 3,_=>simpa [l0] using e3
  | 4,_=>simpa [l0] using e4
  | 5,_=>simpa [l0] using e5
  | 6,_=>simpa [l0] using e6
  | 7,_=>simpa [l0] using e7
  | 8,_=>simpa [l0] using e8
  | 9,_=>simpa [l0] using e9
  | 10,_=>simpa [l0] using e10
  | 11,_=>simpa [l0] using e11
instance :Inhabited Ru:=⟨⟨0,0,0,0,0,0,0,0⟩⟩
def off7 (l:List Bool) (i:Nat):Bool:=l.getD i true
theorem zQc:Tryz.prog.cellsOf 24=7:=zk
theorem cells25:Tryz.prog.cellsOf 25=1:=zk
theorem cells26:Tryz.prog.cellsOf 26=1:=zk
theorem cells28:Tryz.prog.cellsOf 28=9:=zk
section
variable {H:Type} {enc:TypeId × Value→H} {w:World} {base:Nat} {spare:Nat→Bool} {held:Bool} {fuel:Nat} {cs:List Value} {x:DataW H × List MemPlace}
theorem zQb (h:DataW.trod enc Tryz.prog w base spare held fuel 24 cs=some x):∃o:Nat→Bool,cs=[.bool (o 0),.bool (o 1),.bool (o 2),.bool (o 3),.bool (o 4),.bool (o 5),.bool (o 6)]:=by
 obtain⟨xs,k,_,_,hl,hx,hf⟩:=DataW.trod_array Tryz.underlying24 h
 rw[zQc] at hl
 have g:∀i,i<7→∃b:Bool,(cs.drop i).take 1=[.bool b]:=fun i hi=>by
  have e:=hf i hi
  rw[zMk,Nat.mul_one] at e
  rw[List.getElem?_eq_getElem zo] at e
  obtain⟨b,hb,_⟩:=DataW.trod_bool Tryz.underlying4 e
  exact⟨b,hb⟩
 match cs,hl with
 | [c0,c1,c2,c3,c4,c5,c6],_=>
  obtain⟨b0,e0⟩:=g 0 zd
  obtain⟨b1,e1⟩:=g 1 zd
  obtain⟨b2,e2⟩:=g 2 zd
  obtain⟨b3,e3⟩:=g 3 zd
  obtain⟨b4,e4⟩:=g 4 zd
  obtain⟨b5,e5⟩:=g 5 zd
  obtain⟨b6,e6⟩:=g 6 zd
  simp at e0 e1 e2 e3 e4 e5 e6
  subst e0 e1 e2 e3 e4 e5 e6
  exact⟨off7 [b0,b1,b2,b3,b4,b5,b6],rfl⟩
theorem zQa (h:DataW.trod enc Tryz.prog w base spare held fuel 26 cs=some x):∃ao n cap X,cs=[.slice ao n cap]∧DaysAt w ao X n cap:=by
 rcases open_ints Tryz.underlying26 Tryz.underlying3 zB0 h with⟨rfl,_⟩ | ⟨⟨b,off,sp⟩,len,cap,zs,rfl,_,hl,_,hz,_,hc,_⟩
 ·exact⟨none,0,0,fun _=>0,rfl,Nat.le_refl _,fun k=>absurd k zo⟩
 ·have hzl:len≤zs.length:=by rw[hz];split <;> omega
  refine⟨some ⟨b,off,sp⟩,len,cap,fun i=>zs.getD i 0,rfl,hl,fun k=>?_⟩
  have h0:=hc 0 zo
  have hs:sp=none:=by
   cases sp with
   | none=>rfl
   | some q=>
    have:=World.cell?_spot h0
    simp[Addr.add] at this
  subst hs
  exact⟨b,off,rfl,fun j hj=>by have:=hc j zo;rwa [zA9] at this⟩
theorem zO0 (h:DataW.trod enc Tryz.prog w base spare held fuel 25 cs=some x):∃ao n cap R,cs=[.slice ao n cap]∧RulesAt w ao R n cap:=by
 rcases Go.Deep.open_slice Tryz.underlying25 h with⟨rfl,_⟩ | ⟨⟨b,off,sp⟩,len,cap,m,k,D,Pl,rfl,_,hl,_,hm,_,hx⟩
 ·exact⟨none,0,0,fun _=>default,rfl,Nat.le_refl _,fun k=>absurd k zo⟩
 ·have hlm:len≤m:=by rw[hm];split <;> omega
  rw[zQd] at hx
  rcases Nat.eq_zero_or_pos m with h0 | hmp
  ·exact⟨some ⟨b,off,sp⟩,len,cap,fun _=>default,rfl,hl,fun hp=>absurd hp zo⟩
  have hs:sp=none:=by
   obtain⟨cs',h1,h2⟩:=hx 0 hmp
   obtain⟨_,hlen,hcell⟩:=World.cells?_some h1
   obtain⟨x0,x1,x2,x3,x4,x5,x6,x7,rfl,_⟩:=zHi h2
   have h0:=hcell 0 zo
   cases sp with
   | none=>rfl
   | some q=>
    have:=World.cell?_spot h0
    simp[Addr.add] at this
  subst hs
  have each:∀i,i<m→∃r:Ru,RCell w b (off+i*8) r:=fun i hi=>by
   obtain⟨cs',h1,h2⟩:=hx i hi
   obtain⟨_,hlen,hcell⟩:=World.cells?_some h1
   obtain⟨x0,x1,x2,x3,x4,x5,x6,x7,rfl,_⟩:=zHi h2
   refine⟨⟨x0,x1,x2,x3,x4,x5,x6,x7⟩,?_⟩
   have q0:=hcell 0 zo
   rw[zA9,zA9] at q0
   have q1:=hcell 1 zo
   rw[zA9,zA9] at q1
   have q2:=hcell 2 zo
   rw[zA9,zA9] at q2
   have q3:=hcell 3 zo
   rw[zA9,zA9] at q3
   have q4:=hcell 4 zo
   rw[zA9,zA9] at q4
   have q5:=hcell 5 zo
   rw[zA9,zA9] at q5
   have q6:=hcell 6 zo
   rw[zA9,zA9] at q6
   have q7:=hcell 7 zo
   rw[zA9,zA9] at q7
   exact⟨q0,q1,q2,q3,q4,q5,q6,q7⟩
  obtain⟨R,hR⟩:=Go.Deep.choose_lt each
  exact⟨some ⟨b,off,none⟩,len,cap,R,rfl,hl,fun hp=>⟨b,off,rfl,fun j hj=>hR j zo⟩⟩
theorem zQe (h:DataW.trod enc Tryz.prog w base spare held fuel 28 cs=some x) :
  ∃(c:Ca) (aR:Option Addr) (cR:Nat) (aD:Option Addr) (cD:Nat),cs=[.bool (c.o 0),.bool (c.o 1),.bool (c.o 2),.bool (c.o 3),.bool (c.o 4),.bool (c.o 5),.bool (c.o 6),.slice aR c.nr cR,.slice aD c.nd cD]∧CalAt w c aR cR aD cD:=by
 obtain⟨xs,k,_,_,hl,hx,hf⟩:=DataW.trod_struct Tryz.underlying28 h
 rw[cells28] at hl
 have f0:=hf 0 _ rfl
 have f1:=hf 1 _ rfl
 have f2:=hf 2 _ rfl
 clear hf h
 match cs,hl with
 | [c0,c1,c2,c3,c4,c5,c6,c7,c8],_=>
  have hx2:xs.length=3:=hx
  match xs,hx2 with
  | [y0,y1,y2],_=>
   change DataW.trod enc Tryz.prog w base spare held k 24 (([c0,c1,c2,c3,c4,c5,c6,c7,c8].drop 0).take (Tryz.prog.cellsOf 24))=some y0 at f0
   rw[zQc] at f0
   change DataW.trod enc Tryz.prog w base spare held k 25 (([c0,c1,c2,c3,c4,c5,c6,c7,c8].drop 7).take (Tryz.prog.cellsOf 25))=some y1 at f1
   rw[cells25] at f1
   change DataW.trod enc Tryz.prog w base spare held k 26 (([c0,c1,c2,c3,c4,c5,c6,c7,c8].drop 8).take (Tryz.prog.cellsOf 26))=some y2 at f2
   rw[cells26] at f2
   obtain⟨o,e0⟩:=zQb f0
   obtain⟨aR,nr,cR,R,e1,g1⟩:=zO0 f1
   obtain⟨aD,nd,cD,X,e2,g2⟩:=zQa f2
   simp at e0 e1 e2
   obtain⟨rfl,rfl,rfl,rfl,rfl,rfl,rfl⟩:=e0
   subst e1 e2
   exact⟨⟨o,nr,R,nd,X⟩,aR,cR,aD,cD,rfl,g1,g2⟩
end
section
variable {H:Type} {enc:TypeId × Value→H} {w:World} {base:Nat} {spare:Nat→Bool} {held:Bool} {r:Reach} {b0:Nat} {v:Value} {d:DataW H} {p:List MemPlace}
theorem zN9 (hv:Value.okWide Tryz.prog w r b0 28 v) (h:DataW.Trod enc Tryz.prog w base spare held 28 v d p) :
  ∃(c:Ca) (aR:Option Addr) (cR:Nat) (aD:Option Addr) (cD:Nat),v=.agg #[.bool (c.o 0),.bool (c.o 1),.bool (c.o 2),.bool (c.o 3),.bool (c.o 4),.bool (c.o 5),.bool (c.o 6),.slice aR c.nr cR,.slice aD c.nd cD]∧CalAt w c aR cR aD cD:=by
 obtain⟨cs,rfl,_⟩:=okWide_struct Tryz.underlying28 hv
 obtain⟨fuel,hf⟩:=h
 obtain⟨c,aR,cR,aD,cD,hc,hb⟩:=zQe hf
 refine⟨c,aR,cR,aD,cD,?_,hb⟩
 simp[Value.cells] at hc
 obtain⟨l⟩:=cs
 simp at hc
 rw[hc]
end
theorem laidMet.skip {P:Program} {x y:String × DataW Unit} {r:List (String × DataW Unit)} {w:World} (h:laidMet P (x::y::r) w):laidMet P (x::r) w:=by
 obtain⟨ps,hv,hnd,hrows⟩:=h
 obtain⟨n,d⟩:=x
 obtain⟨m,e⟩:=y
 obtain⟨g,t,cs,fuel,p,q,h1,h2,h3,h4,⟨g',t',cs',fuel',p',q',_,_,_,_,hq',rfl⟩,rfl⟩:=hv
 refine⟨MemPlace.row ⟨g,0,none⟩ cs.size++p++q',⟨g,t,cs,fuel,p,q',h1,h2,h3,h4,hq',rfl⟩,List.Nodup.sublist ((List.sublist_append_right (MemPlace.row ⟨g',0,none⟩ cs'.size++p') q').append_left (MemPlace.row ⟨g,0,none⟩ cs.size++p)) hnd,fun b off hm=>hrows b off ?_⟩
 rcases List.mem_append.1 hm with k | k
 ·exact List.mem_append_left _ k
 ·exact List.mem_append_right _ (List.mem_append_right _ k)
theorem zBe:Tryz.prog.cellsOf 9=1:=zk
theorem zDk {H:Type} {enc:TypeId × Value→H} {w:World} {base:Nat} {spare:Nat→Bool} {held:Bool} {fuel:Nat} {cs:List Value} {x:DataW H × List MemPlace} {bs:List UInt8}
  (h:DataW.trod enc Tryz.prog w base spare held fuel 9 cs=some x) (hx:x.1=.lit (.string bs)):cs=[.string ⟨bs.toArray⟩]:=by
 obtain⟨s,e1,e2,_⟩:=DataW.trod_string Tryz.underlying9 h
 rw[e2] at hx
 simp at hx
 rw[e1,←hx]
theorem g_namesR:Tryz.prog.globalNamed "demurrage/roll.names" = some 6:=zk
theorem t_namesR:(Tryz.prog.globals[6]?).map (·.type)=some 175:=zk
theorem cells175:Tryz.prog.cellsOf 175=5:=zk
theorem zL8 {W:World} (hH:laidMetH Tryz.prog zE8 W):zPp W:=by
 have h:=(zC7 hH).1
 clear hH
 replace h:=h.tail
 replace h:=h.tail
 replace h:=h.tail
 replace h:=h.tail
 replace h:=h.tail
 replace h:=h.tail
 replace h:=h.tail
 replace h:=h.tail
 replace h:=h.tail
 replace h:=h.tail
 obtain⟨ps,⟨g0,t0,cs0,f0,p0,q0,hg0,ht0,hv0,hd0,_,_⟩,_,_⟩:=h
 obtain rfl:=Option.some.inj (g_namesR.symm.trans hg0)
 obtain rfl:=Option.some.inj (t_namesR.symm.trans ht0)
 obtain⟨xs,m1,rfl,hx1,hlen,hn3,hel⟩:=DataW.trod_array Tryz.underlying175 hd0
 rw[cells175] at hlen
 have hc:=fun i=>World.var?_cell hg0 hv0 i
 simp only[Prod.mk.injEq,Rows.laid_demurrage_roll_names,DataW.agg.injEq] at hx1
 have hx:=hx1.1
 clear hx1 hd0 hv0
 obtain⟨l⟩:=cs0
 match xs,hn3,l,hlen with
 | [x0,x1,x2,x3,x4],_,[c0,c1,c2,c3,c4],_=>
  simp only[List.map_cons,List.map_nil,List.cons.injEq,and_true] at hx
  obtain⟨y0,y1,y2,y3,y4⟩:=hx
  have e0:c0=.string (rn 0):=by
   have:=hel 0 zd
   rw[zBe] at this
   rw[rn_0]
   simpa using zDk this y0.symm
  have e1:c1=.string (rn 1):=by
   have:=hel 1 zd
   rw[zBe] at this
   rw[rn_1]
   simpa using zDk this y1.symm
  have e2:c2=.string (rn 2):=by
   have:=hel 2 zd
   rw[zBe] at this
   rw[rn_2]
   simpa using zDk this y2.symm
  have e3:c3=.string (rn 3):=by
   have:=hel 3 zd
   rw[zBe] at this
   rw[rn_3]
   simpa using zDk this y3.symm
  have e4:c4=.string (rn 4):=by
   have:=hel 4 zd
   rw[zBe] at this
   rw[rn_4]
   simpa using zDk this y4.symm
  intro i hi
  rw[hc i]
  match i,hi with
  | 0,_=>simpa using e0
  | 1,_=>simpa using e1
  | 2,_=>simpa using e2
  | 3,_=>simpa using e3
  | 4,_=>simpa using e4
theorem g_namesT:Tryz.prog.globalNamed "demurrage/terms.names" = some 5:=zk
theorem t_namesT:(Tryz.prog.globals[5]?).map (·.type)=some 174:=zk
theorem cells174:Tryz.prog.cellsOf 174=3:=zk
theorem zL9 {W:World} (hH:laidMetH Tryz.prog zE8 W):zPq W:=by
 have h:=(zC7 hH).1
 clear hH
 replace h:=h.tail
 replace h:=h.tail
 replace h:=h.tail
 replace h:=h.tail
 replace h:=h.tail
 replace h:=h.tail
 replace h:=h.tail
 replace h:=h.tail
 replace h:=h.tail
 replace h:=h.tail
 replace h:=h.tail
 obtain⟨ps,⟨g0,t0,cs0,f0,p0,q0,hg0,ht0,hv0,hd0,_,_⟩,_,_⟩:=h
 obtain rfl:=Option.some.inj (g_namesT.symm.trans hg0)
 obtain rfl:=Option.some.inj (t_namesT.symm.trans ht0)
 obtain⟨xs,m1,rfl,hx1,hlen,hn3,hel⟩:=DataW.trod_array Tryz.underlying174 hd0
 rw[cells174] at hlen
 have hc:=fun i=>World.var?_cell hg0 hv0 i
 simp only[Prod.mk.injEq,Rows.laid_demurrage_terms_names,DataW.agg.injEq] at hx1
 have hx:=hx1.1
 clear hx1 hd0 hv0
 obtain⟨l⟩:=cs0
 match xs,hn3,l,hlen with
 | [x0,x1,x2],_,[c0,c1,c2],_=>
  simp only[List.map_cons,List.map_nil,List.cons.injEq,and_true] at hx
  obtain⟨y0,y1,y2⟩:=hx
  have e0:c0=.string (tn 0):=by
   have:=hel 0 zd
   rw[zBe] at this
   rw[tn_0]
   simpa using zDk this y0.symm
  have e1:c1=.string (tn 1):=by
   have:=hel 1 zd
   rw[zBe] at this
   rw[tn_1]
   simpa using zDk this y1.symm
  have e2:c2=.string (tn 2):=by
   have:=hel 2 zd
   rw[zBe] at this
   rw[tn_2]
   simpa using zDk this y2.symm
  intro i hi
  rw[hc i]
  match i,hi with
  | 0,_=>simpa using e0
  | 1,_=>simpa using e1
  | 2,_=>simpa using e2
theorem star15 : "*" ++ "errors.errorString" = "*errors.errorString" := zd
theorem zF1 (u:TypeId) (h:Tryz.prog.typeName? 3 u=some "*errors.errorString"):u=270:=
 typeName_ptr_named (nm := "errors.errorString") (by rw[star15];kernel_rfl) zk zd u (by rw[star15];exact h)
theorem zCf:Tryz.prog.cellsOf 291=1:=zk
theorem gType:Tryz.prog.globalNamed "errors.errorType" = some 4:=zk
theorem rtype15:(Tryz.prog.cutTypes.find? (·.1 == "internal/reflectlite.rtype")).map (·.2)=some 204:=zk
theorem size15:Tryz.prog.types.size=303:=zk
theorem oneRow15:((List.range 303).filter fun t=>Tryz.prog.rowNamed t [101,114,114,111,114])=[141]:=zk
theorem handle15:typeHandle Tryz.prog 141=.pointer (some ⟨19,141,none⟩):=zk
theorem zKi {W:World} (h:handlesMet Tryz.prog [("errors.errorType",Rows.laid_errors_errorType)] W):W.cell? ⟨4,0,none⟩=some (.iface 204 (.agg #[.pointer (some ⟨19,141,none⟩)])):=by
 obtain⟨name,u,ty,e1,e2,e3,e4,e5⟩:=h _ (List.mem_singleton.2 rfl)
 have en:name=[101,114,114,111,114]:=(Option.some.inj e1).symm
 subst en
 obtain rfl:=Option.some.inj (rtype15.symm.trans e2)
 have hm:ty∈(List.range 303).filter fun t=>Tryz.prog.rowNamed t [101,114,114,111,114]:=List.mem_filter.2 ⟨List.mem_range.2 (by rw[←size15];exact e3),e4⟩
 rw[oneRow15] at hm
 obtain rfl:=List.mem_singleton.1 hm
 rw[handle15] at e5
 simpa using World.var?_cell gType e5 0
theorem zBp:Tryz.prog.globalNamed "demurrage/terms.errNone" = some 0:=zk
theorem zCd:(Tryz.prog.globals[0]?).map (·.type)=some 141:=zk
theorem zBx:Tryz.prog.globalNamed "demurrage/terms.errDay" = some 1:=zk
theorem zCp:(Tryz.prog.globals[1]?).map (·.type)=some 141:=zk
theorem zBh:Tryz.prog.globalNamed "demurrage/terms.errOrder" = some 2:=zk
theorem zC4:(Tryz.prog.globals[2]?).map (·.type)=some 141:=zk
theorem zBg:Tryz.prog.globalNamed "demurrage/terms.errBound" = some 3:=zk
theorem zC3:(Tryz.prog.globals[3]?).map (·.type)=some 141:=zk
theorem zCh {W:World} {n:String} {a b:Addr} (h:W.var? Tryz.prog n=some #[.iface 270 (.pointer (some a))]) (k:W.var? Tryz.prog n=some #[.iface 270 (.pointer (some b))]):a=b:=by
 have:=Option.some.inj (h.symm.trans k)
 simpa using this
theorem zMa {W:World} (hH:laidMetH Tryz.prog zE8 W):ErrsT W:=by
 obtain⟨h,ht⟩:=zC7 hH
 clear hH
 replace h:=h.tail
 replace h:=h.tail
 replace h:=h.tail
 replace h:=h.tail
 replace h:=h.tail
 replace h:=h.tail
 replace h:=h.tail
 replace h:=h.tail
 replace h:=h.tail
 replace h:=h.tail
 replace h:=h.tail
 replace h:=h.tail
 obtain⟨xA,yA,_,_,cxA,cyA,txA,tyA,vxA,vyA,-,-,-,-,-,-,neA,bxA,byA⟩:=laid_sentinels2 h zBp zCd zBx zCp Tryz.underlying141 zF1 Tryz.underlying270 Tryz.underlying291 rfl rfl Tryz.underlying9 zCf zBe
 obtain⟨xB,yB,_,_,cxB,cyB,txB,tyB,vxB,vyB,-,-,-,-,-,-,neB,bxB,byB⟩:=laid_sentinels2 (laidMet.skip h) zBp zCd zBh zC4 Tryz.underlying141 zF1 Tryz.underlying270 Tryz.underlying291 rfl rfl Tryz.underlying9 zCf zBe
 obtain⟨xC,yC,_,_,cxC,cyC,txC,tyC,vxC,vyC,-,-,-,-,-,-,neC,bxC,byC⟩:=laid_sentinels2 (laidMet.skip (laidMet.skip h)) zBp zCd zBg zC3 Tryz.underlying141 zF1 Tryz.underlying270 Tryz.underlying291 rfl rfl Tryz.underlying9 zCf zBe
 obtain⟨xD,yD,_,_,cxD,cyD,txD,tyD,vxD,vyD,-,-,-,-,-,-,neD,bxD,byD⟩:=laid_sentinels2 h.tail zBx zCp zBh zC4 Tryz.underlying141 zF1 Tryz.underlying270 Tryz.underlying291 rfl rfl Tryz.underlying9 zCf zBe
 obtain⟨xE,yE,_,_,cxE,cyE,txE,tyE,vxE,vyE,-,-,-,-,-,-,neE,bxE,byE⟩:=laid_sentinels2 (laidMet.skip h.tail) zBx zCp zBg zC3 Tryz.underlying141 zF1 Tryz.underlying270 Tryz.underlying291 rfl rfl Tryz.underlying9 zCf zBe
 obtain⟨xF,yF,_,_,cxF,cyF,txF,tyF,vxF,vyF,-,-,-,-,-,-,neF,bxF,byF⟩:=laid_sentinels2 h.tail.tail zBh zC4 zBg zC3 Tryz.underlying141 zF1 Tryz.underlying270 Tryz.underlying291 rfl rfl Tryz.underlying9 zCf zBe
 obtain rfl:=zCh vxA vxB
 obtain rfl:=zCh vxA vxC
 obtain rfl:=zCh vyA vxD
 obtain rfl:=zCh vyA vxE
 obtain rfl:=zCh vyB vyD
 obtain rfl:=zCh vyB vxF
 obtain rfl:=zCh vyC vyE
 obtain rfl:=zCh vyC vyF
 refine⟨xA,yA,yB,yC,zKi ht,cxA,cyA,cyB,cyC,txA,tyA,tyB,tyC,⟨?_,?_,?_,?_⟩,⟨neA,neB,neC,neD,neE,neF⟩,bxA,byA,byB,byC⟩
 ·simpa using World.var?_cell zBp vxA 0
 ·simpa using World.var?_cell zBx vyA 0
 ·simpa using World.var?_cell zBh vyB 0
 ·simpa using World.var?_cell zBg vyC 0
theorem zDa:Tryz.prog.globalNamed "demurrage/actual.errDay" = some 7:=zk
theorem zH2:(Tryz.prog.globals[7]?).map (·.type)=some 141:=zk
theorem zCs:Tryz.prog.globalNamed "demurrage/actual.errOrder" = some 8:=zk
theorem zFh:(Tryz.prog.globals[8]?).map (·.type)=some 141:=zk
theorem zDd:Tryz.prog.globalNamed "demurrage/icma.errNoDay" = some 10:=zk
theorem zH5:(Tryz.prog.globals[10]?).map (·.type)=some 141:=zk
theorem zDe:Tryz.prog.globalNamed "demurrage/icma.errOrder" = some 11:=zk
theorem zH6:(Tryz.prog.globals[11]?).map (·.type)=some 141:=zk
theorem zE0:Tryz.prog.globalNamed "demurrage/icma.errMany" = some 15:=zk
theorem zHf:(Tryz.prog.globals[15]?).map (·.type)=some 141:=zk
theorem zDc:Tryz.prog.globalNamed "demurrage/icma.errFalls" = some 16:=zk
theorem zH4:(Tryz.prog.globals[16]?).map (·.type)=some 141:=zk
theorem zDb:Tryz.prog.globalNamed "demurrage/icma.errEmpty" = some 17:=zk
theorem zH3:(Tryz.prog.globals[17]?).map (·.type)=some 141:=zk
theorem zDz:Tryz.prog.globalNamed "demurrage/icma.errFreq" = some 18:=zk
theorem zHe:(Tryz.prog.globals[18]?).map (·.type)=some 141:=zk
theorem zCt:Tryz.prog.globalNamed "demurrage/icma.errOutside" = some 12:=zk
theorem zFi:(Tryz.prog.globals[12]?).map (·.type)=some 141:=zk
theorem zKm {W:World} (hH:laidMetH Tryz.prog zE8 W):Errs_ac W:=by
 have h:=(zC7 hH).1
 clear hH
 replace h:=h.tail
 obtain⟨a0,a1,s0,s1,c0,c1,t0,t1,hv0,hv1,-,-,-,-,-,-,hne,hb0,hb1⟩:=laid_sentinels2 h zDa zH2 zCs zFh Tryz.underlying141 zF1 Tryz.underlying270 Tryz.underlying291 rfl rfl Tryz.underlying9 zCf zBe
 exact⟨a0,a1,c0,c1,t0,t1,by simpa using World.var?_cell zDa hv0 0,by simpa using World.var?_cell zCs hv1 0,hne,hb0,hb1⟩
theorem zL1 {W:World} (hH:laidMetH Tryz.prog zE8 W):Errs W:=by
 obtain⟨h,ht⟩:=zC7 hH
 clear hH
 replace h:=h.tail
 replace h:=h.tail
 replace h:=h.tail
 obtain⟨_,_,v_icma_errNoDay,-,-,-⟩:=laid_sentinel h zDd zH5 Tryz.underlying141 zF1 Tryz.underlying270 Tryz.underlying291 rfl rfl Tryz.underlying9 zCf zBe
 replace h:=h.tail
 obtain⟨_,_,v_icma_errOrder,-,-,-⟩:=laid_sentinel h zDe zH6 Tryz.underlying141 zF1 Tryz.underlying270 Tryz.underlying291 rfl rfl Tryz.underlying9 zCf zBe
 replace h:=h.tail
 obtain⟨_,_,v_icma_errMany,-,-,-⟩:=laid_sentinel h zE0 zHf Tryz.underlying141 zF1 Tryz.underlying270 Tryz.underlying291 rfl rfl Tryz.underlying9 zCf zBe
 replace h:=h.tail
 obtain⟨_,_,v_icma_errFalls,-,-,-⟩:=laid_sentinel h zDc zH4 Tryz.underlying141 zF1 Tryz.underlying270 Tryz.underlying291 rfl rfl Tryz.underlying9 zCf zBe
 replace h:=h.tail
 obtain⟨_,_,v_icma_errEmpty,-,-,-⟩:=laid_sentinel h zDb zH3 Tryz.underlying141 zF1 Tryz.underlying270 Tryz.underlying291 rfl rfl Tryz.underlying9 zCf zBe
 replace h:=h.tail
 obtain⟨_,_,v_icma_errFreq,-,-,-⟩:=laid_sentinel h zDz zHe Tryz.underlying141 zF1 Tryz.underlying270 Tryz.underlying291 rfl rfl Tryz.underlying9 zCf zBe
 replace h:=h.tail
 obtain⟨_,_,v_icma_errOutside,-,-,-⟩:=laid_sentinel h zCt zFi Tryz.underlying141 zF1 Tryz.underlying270 Tryz.underlying291 rfl rfl Tryz.underlying9 zCf zBe
 replace h:=h.tail
 replace h:=h.tail
 replace h:=h.tail
 replace h:=h.tail
 replace h:=h.tail
 replace h:=h.tail
 exact⟨zKi ht,_,_,_,_,_,_,_,by simpa using World.var?_cell zDd v_icma_errNoDay 0,by simpa using World.var?_cell zDe v_icma_errOrder 0,by simpa using World.var?_cell zCt v_icma_errOutside 0,by simpa using World.var?_cell zE0 v_icma_errMany 0,by simpa using World.var?_cell zDc v_icma_errFalls 0,by simpa using World.var?_cell zDb v_icma_errEmpty 0,by simpa using World.var?_cell zDz v_icma_errFreq 0⟩
theorem zRy {W:World} (h:laidMetH Tryz.prog zE8 W):FactsS W:=⟨zRj h,zL8 h,zL9 h,zMa h,zKm h,zL1 h⟩
end Go.Proofs.YtpfgdfpaoldhcaaGreatDoor
