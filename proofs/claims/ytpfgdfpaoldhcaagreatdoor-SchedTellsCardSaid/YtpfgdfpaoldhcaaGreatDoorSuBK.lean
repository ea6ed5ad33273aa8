/- Several texts in one: ScLayB. -/
import Derived.Test.YtpfgdfpaoldhcaaGreatDoorSuBI
import Derived.Test.YtpfgdfpaoldhcaaGreatDoorSuBJ
import Derived.Deep.WholeRow
import Derived.Laws.Tables
set_option maxHeartbeats 8000000
set_option maxRecDepth 100000
set_option linter.unusedVariables false
set_option linter.unusedSimpArgs false
namespace Go.Proofs.YtpfgdfpaoldhcaaGreatDoor
open Go.RowKit
def PlanOut (x:Pl) (t:Tm) (n0:Nat) (e:Ending) (W:World):Prop:=∃(a0 a1 a2 a3:Option Addr) (c0 c1 c2 c3:Nat),e=.returned (.tuple #[.agg #[.slice a0 (x.n t) c0,.slice a1 (x.n t) c1,.slice a2 (x.np t) c2,(x.eo t),(x.en t),(x.f t),.slice a3 (x.ng t) c3],(x.code t)])∧DaysAt W a0 (t.dd x.X x.q) (x.n t) c0∧DaysAt W a1 x.V (x.n t) c1∧RatAt W a2 x.P x.Q (x.np t) c2∧DaysAt W a3 x.GV (x.ng t) c3∧∀g,a2=some g→n0≤g.block
theorem zDr {x:Pl} {t:Tm} {n0:Nat} {z:Int} {W:World} (hx:x.code t=z) (hz:z≠0):PlanOut x t n0 (.returned (.tuple #[.agg #[.slice none 0 0,.slice none 0 0,.slice none 0 0,false,(0:Int),(0:Int),.slice none 0 0],z])) W:=by
 have hn:x.n t=0:=by unfold Pl.n;rw[if_neg zo]
 have hp:x.np t=0:=by unfold Pl.np;rw[if_neg zo]
 have hg:x.ng t=0:=by unfold Pl.ng;rw[if_neg zo]
 have h1:x.eo t=false:=by unfold Pl.eo;rw[if_neg zo]
 have h2:x.en t=0:=by unfold Pl.en;rw[if_neg zo]
 have h3:x.f t=0:=by unfold Pl.f;rw[if_neg zo]
 refine⟨none,none,none,none,0,0,0,0,by rw[hn,hp,hg,h1,h2,h3,hx],?_,?_,?_,?_,fun g h=>by cases h⟩
 ·rw[hn];exact zC9 _ _
 ·rw[hn];exact zC9 _ _
 ·rw[hp];exact rat_none _ _ _
 ·rw[hg];exact zC9 _ _
theorem zLi {x:Pl} {t:Tm} {n0:Nat} {W:World} (a0 a1 a2 a3:Option Addr) (c0 c1 c2 c3:Nat) (hx:x.code t=0) (h0:DaysAt W a0 (t.dd x.X x.q) (x.q+1+1) c0) (h1:DaysAt W a1 x.V (x.q+1+1) c1) (h2:RatAt W a2 x.P x.Q (x.q+1) c2) (h3:DaysAt W a3 x.GV (x.ns t) c3) (h4:∀g,a2=some g→n0≤g.block) :
  PlanOut x t n0 (.returned (.tuple #[.agg #[.slice a0 (x.q+1+1) c0,.slice a1 (x.q+1+1) c1,.slice a2 (x.q+1) c2,t.eo,(x.V (x.q+1):Int),(fr t.ms),.slice a3 (x.ns t) c3],(0:Int)])) W:=by
 have hn:x.n t=(x.q+1+1):=by unfold Pl.n;rw[if_pos hx]
 have hp:x.np t=x.q+1:=by unfold Pl.np;rw[if_pos hx]
 have hg:x.ng t=x.ns t:=by unfold Pl.ng;rw[if_pos hx]
 have e1:x.eo t=t.eo:=by unfold Pl.eo;rw[if_pos hx]
 have e2:x.en t=(x.V (x.q+1)):=by unfold Pl.en;rw[if_pos hx]
 have e3:x.f t=fr t.ms:=by unfold Pl.f;rw[if_pos hx]
 refine⟨a0,a1,a2,a3,c0,c1,c2,c3,by rw[hn,hp,hg,e1,e2,e3,hx],?_,?_,?_,?_,h4⟩
 ·rw[hn];exact h0
 ·rw[hn];exact h1
 ·rw[hp];exact h2
 ·rw[hg];exact h3
theorem build89 (x0 x1 x2 x3 x4 x5 x6 x7 x8 x9 x10 x11 x12 x13 x14 x15 x16 x17 x18 x19:Value):Tryz.prog.built 89 [(0,.agg #[x0,x1,x2,x3,x4,x5,x6,x7,x8,x9,x10]),(1,.agg #[x11,x12,x13,x14,x15,x16,x17,x18,x19])]=some #[x0,x1,x2,x3,x4,x5,x6,x7,x8,x9,x10,x11,x12,x13,x14,x15,x16,x17,x18,x19,.slice none 0 0,.slice none 0 0,.slice none 0 0,false,(0:Int),(0:Int),.slice none 0 0]:=zk
theorem info89:(Tryz.prog.info? 89).map (·.size)=some 27:=zk
theorem zPl {ops:Array Oper} {rest:List Oper} {o:Oper} {a:Act} {w:World} {Q:Exit→Act→World→Prop} (hg:o.guard=none) (x y:Operand) (ho:o.op=.build 89 #[(0,x),(1,y)]) (x0 x1 x2 x3 x4 x5 x6 x7 x8 x9 x10 x11 x12 x13 x14 x15 x16 x17 x18 x19:Value)
  (hx:a.eval x=.agg #[x0,x1,x2,x3,x4,x5,x6,x7,x8,x9,x10]) (hy:a.eval y=.agg #[x11,x12,x13,x14,x15,x16,x17,x18,x19]) (h:wpList Tryz.prog ops Q rest (a.put o.dst (.agg #[x0,x1,x2,x3,x4,x5,x6,x7,x8,x9,x10,x11,x12,x13,x14,x15,x16,x17,x18,x19,.slice none 0 0,.slice none 0 0,.slice none 0 0,false,(0:Int),(0:Int),.slice none 0 0])) w):wpList Tryz.prog ops Q (o::rest) a w:=
 wpList_plain hg fun K hK=>by
  have hb:=run_build (P:=Tryz.prog) w 89 #[(0,.agg #[x0,x1,x2,x3,x4,x5,x6,x7,x8,x9,x10]),(1,.agg #[x11,x12,x13,x14,x15,x16,x17,x18,x19])] _ (build89 x0 x1 x2 x3 x4 x5 x6 x7 x8 x9 x10 x11 x12 x13 x14 x15 x16 x17 x18 x19)
  unfold Oper.wp execOp
  simp only[ho,hx,hy,List.map_toArray,List.map_cons,List.map_nil,Sem.run_bind,hb,Result.andThen_ok]
  exact hK _ _ h
theorem zPm {ops:Array Oper} {rest:List Oper} {o:Oper} {a:Act} {V:World} {Q:Exit→Act→World→Prop} (hg:o.guard=none) (x y:Operand) (ho:o.op=.store 89 x y) (zs vs:Array Value) (hx:a.eval x=.pointer (some ⟨V,0,none⟩)) (hy:a.eval y=.agg vs) (hz:zs.size=27) (hv:vs.size=27) (h1:vs.all (·.oneCell')=true)
  (h:wpList Tryz.prog ops Q rest (a.put o.dst undef) (V.alloc (.cells vs 89))):wpList Tryz.prog ops Q (o::rest) a (V.alloc (.cells zs 89)):=
 wpList_store_row hg 89 x y ho V.heap.size vs hx hy 89 zs (heap_alloc_last V _) (by rw[info89,hv]) (by rw[hz,hv]) h1 (by rw[World.setRow_alloc_new];exact h)
theorem zO6 (Be Bp Bs:Nat):∀f∈([.cell Be 0 (0:Int),.free Be 0,.cell Bp 0 (.slice none 0 0),.cell Bp 1 (.slice none 0 0),.cell Bp 2 (.slice none 0 0),.cell Bp 3 false,.cell Bp 4 (0:Int),.cell Bp 5 (0:Int),.cell Bp 6 (.slice none 0 0),.free Bp 0,.free Bp 1,.free Bp 2,.free Bp 3,.free Bp 4,.free Bp 5,.free Bp 6,.cell Bs 0 (.func (.func 77) #[] #[]),.cell Bs 1 (.func (.func 78) #[] #[]),.cell Bs 2 (.func (.func 79) #[] #[]),.cell Bs 3 (.func (.func 80) #[] #[]),.cell Bs 4 (.func (.func 81) #[] #[])]:List Fact),f.small:=by
 intro f hf
 simp only[List.mem_cons,List.not_mem_nil,or_false] at hf
 rcases hf with rfl | rfl | rfl | rfl | rfl | rfl | rfl | rfl | rfl | rfl | rfl | rfl | rfl | rfl | rfl | rfl | rfl | rfl | rfl | rfl | rfl
 all_goals first | exact trivial | (show _<20;decide)
theorem slay_any (t:Tm) (c:Ca) (aR:Option Addr) (cR:Nat) (aD:Option Addr) (cD:Nat) (x:Pl) (w:World) (hF:FactsS w) (hC:CalAt w c aR cR aD cD) (hM:c.May) (hP:PlanIs t c x) (hS:t.code=0→x.Short):Calls Tryz.prog 26 #[.agg #[t.mo,t.ra,t.ki,t.co,t.st,t.en,t.ms,t.bk,t.lg,t.eo,t.ro],.agg #[(c.o 0),(c.o 1),(c.o 2),(c.o 3),(c.o 4),(c.o 5),(c.o 6),.slice aR c.nr cR,.slice aD c.nd cD]] w fun e w'=>PlanOut x t w.heap.size e w'∧Below w w w':=by
  have hmf:=zHM
  have H:=((Held.start w).add (f:=zAg) hF).add (f:=calF c aR cR aD cD) hC
  have HF:=zh hF
  have HC:=zh hC
  have HP:=zh hP
  have HS:=zh hS
  have HM:=zh hM
  clear hF hC hP hS hM
  go_enter_defers Tryz.func26,Tryz.ntmps26
  go_upto_region 1 with fail
  replace H:=H.box_11 w t.mo t.ra t.ki t.co t.st t.en t.ms t.bk t.lg t.eo t.ro 23 rfl
  replace H:=H.box_9 (w+1) (c.o 0) (c.o 1) (c.o 2) (c.o 3) (c.o 4) (c.o 5) (c.o 6) (.slice aR c.nr cR) (.slice aD c.nd cD) 28 zs
  replace H:=H.box_7 (w+2) (.slice none 0 0) (.slice none 0 0) (.slice none 0 0) false (0:Int) (0:Int) (.slice none 0 0) 35 zs
  replace H:=H.lone (w+3) (0:Int) 36 zs
  obtain⟨V,hV⟩:∃V,((((w.alloc (.cells #[t.mo,t.ra,t.ki,t.co,t.st,t.en,t.ms,t.bk,t.lg,t.eo,t.ro] 23)).alloc (.cells #[(c.o 0),(c.o 1),(c.o 2),(c.o 3),(c.o 4),(c.o 5),(c.o 6),.slice aR c.nr cR,.slice aD c.nd cD] 28)).alloc (.cells #[.slice none 0 0,.slice none 0 0,.slice none 0 0,false,(0:Int),(0:Int),.slice none 0 0] 35)).alloc (.cells #[(0:Int)] 36))=V:=⟨_,rfl⟩
  have hVs:V.heap.size=w.heap.size+4:=by rw[←hV];simp
  rw[hV] at H ⊢
  clear hV
  obtain⟨ct0,ct1,ct2,ct3,ct4,ct5,ct6,ct7,ct8,ct9,ct10⟩:=H.cells11 w
  have lt:=zA0 ct0
  obtain⟨cc0,cc1,cc2,cc3,cc4,cc5,cc6,cc7,cc8⟩:=H.cells9 (w+1)
  have lc:=zA0 cc0
  have HVs:=zh hVs
  clear hVs
  go_upto_region 2 with (first
    | (refine zPl zr _ _ zr t.mo t.ra t.ki t.co t.st t.en t.ms t.bk t.lg t.eo t.ro (c.o 0) (c.o 1) (c.o 2) (c.o 3) (c.o 4) (c.o 5) (c.o 6) (.slice aR c.nr cR) (.slice aD c.nd cD) zr zr ?_)
    | (refine zPm (V:=V) zr _ _ zr _ #[t.mo,t.ra,t.ki,t.co,t.st,t.en,t.ms,t.bk,t.lg,t.eo,t.ro,(c.o 0),(c.o 1),(c.o 2),(c.o 3),(c.o 4),(c.o 5),(c.o 6),.slice aR c.nr cR,.slice aD c.nd cD,.slice none 0 0,.slice none 0 0,.slice none 0 0,false,(0:Int),(0:Int),.slice none 0 0] zr zr zr zr (by simp[Value.oneCell']) ?_)
    | go_in)
  go_upto_region 3 with fail
  clear ct0 ct1 ct2 ct3 ct4 ct5 ct6 ct7 ct8 ct9 ct10 lt cc0 cc1 cc2 cc3 cc4 cc5 cc6 cc7 cc8 lc
  obtain⟨n1,n2,n3,n4⟩:=zQv V V.heap.size t c aR cR aD cD rfl
  replace H:=H.alloc (.cells #[t.mo,t.ra,t.ki,t.co,t.st,t.en,t.ms,t.bk,t.lg,t.eo,t.ro,(c.o 0),(c.o 1),(c.o 2),(c.o 3),(c.o 4),(c.o 5),(c.o 6),.slice aR c.nr cR,.slice aD c.nd cD,.slice none 0 0,.slice none 0 0,.slice none 0 0,false,(0:Int),(0:Int),.slice none 0 0] 89)
  obtain⟨m0,m1,m2,m3,m4,m5,m6⟩:=n3
  replace H:=(((((((((((((((H.add (f:=zAw V.heap.size t) n1).add (f:=zAj V.heap.size c aR cR aD cD) n2).add (f:=.cell V.heap.size 20 (.slice none 0 0)) m0).add (f:=.cell V.heap.size 21 (.slice none 0 0)) m1).add (f:=.cell V.heap.size 22 (.slice none 0 0)) m2).add (f:=.cell V.heap.size 23 false) m3).add (f:=.cell V.heap.size 24 (0:Int)) m4).add (f:=.cell V.heap.size 25 (0:Int)) m5).add (f:=.cell V.heap.size 26 (.slice none 0 0)) m6).add (f:=.free V.heap.size 20) (n4 20 zd)).add (f:=.free V.heap.size 21) (n4 21 zd)).add (f:=.free V.heap.size 22) (n4 22 zd)).add (f:=.free V.heap.size 23) (n4 23 zd)).add (f:=.free V.heap.size 24) (n4 24 zd)).add (f:=.free V.heap.size 25) (n4 25 zd)).add (f:=.free V.heap.size 26) (n4 26 zd)
  clear n1 n2 n4 m0 m1 m2 m3 m4 m5 m6
  go_wp2_with fail
  with_reducible refine (zM8 _).mono ?_
  rintro e w1 ⟨Bs,rfl,s0,s1,s2,s3,s4,hb⟩
  replace H:=H.below hb
  clear hb hmf
  replace H:=(((((H.add (f:=.cell Bs 0 (.func (.func 77) #[] #[])) s0).add (f:=.cell Bs 1 (.func (.func 78) #[] #[])) s1).add (f:=.cell Bs 2 (.func (.func 79) #[] #[])) s2).add (f:=.cell Bs 3 (.func (.func 80) #[] #[])) s3).add (f:=.cell Bs 4 (.func (.func 81) #[] #[])) s4)
  clear s0 s1 s2 s3 s4
  have hVs:=HVs.out
  clear HVs
  obtain⟨B,hB4⟩:∃B,V.heap.size=B:=⟨_,rfl⟩
  rw[hB4] at hVs
  obtain⟨Be,hB3⟩:∃B,w.heap.size+3=B:=⟨_,rfl⟩
  obtain⟨Bp,hB2⟩:∃B,w.heap.size+2=B:=⟨_,rfl⟩
  rw[hB4,hB3,hB2] at H
  rw[hB4,hB3,hB2]
  have hB:w.heap.size≤B:=zo
  have hE:w.heap.size≤Be:=zo
  have hQ:w.heap.size≤Bp:=zo
  have neE:Be≠B:=zo
  have neP:Bp≠Be:=zo
  have neQ:Bp≠B:=zo
  have ltE:Be<B:=zo
  have ltP:Bp<B:=zo
  clear hB2 hB3 hB4 hVs
  have HGS:=zh (zO6 Be Bp Bs)
  replace H:Held w (.cell B 20 (.slice none 0 0)::.cell B 21 (.slice none 0 0)::.cell B 22 (.slice none 0 0)::.cell B 23 false::.cell B 24 (0:Int)::.cell B 25 (0:Int)::.cell B 26 (.slice none 0 0)::.free B 20::.free B 21::.free B 22::.free B 23::.free B 24::.free B 25::.free B 26::zAw B t::zAj B c aR cR aD cD::calF c aR cR aD cD::zAg::[.cell Be 0 (0:Int),.free Be 0,.cell Bp 0 (.slice none 0 0),.cell Bp 1 (.slice none 0 0),.cell Bp 2 (.slice none 0 0),.cell Bp 3 false,.cell Bp 4 (0:Int),.cell Bp 5 (0:Int),.cell Bp 6 (.slice none 0 0),.free Bp 0,.free Bp 1,.free Bp 2,.free Bp 3,.free Bp 4,.free Bp 5,.free Bp 6,.cell Bs 0 (.func (.func 77) #[] #[]),.cell Bs 1 (.func (.func 78) #[] #[]),.cell Bs 2 (.func (.func 79) #[] #[]),.cell Bs 3 (.func (.func 80) #[] #[]),.cell Bs 4 (.func (.func 81) #[] #[])]) w1:=H.sub (fun f hf=>by
    simp only[List.mem_cons,List.not_mem_nil,or_false] at hf
    rcases hf with rfl | rfl | rfl | rfl | rfl | rfl | rfl | rfl | rfl | rfl | rfl | rfl | rfl | rfl | rfl | rfl | rfl | rfl | rfl | rfl | rfl | rfl | rfl | rfl | rfl | rfl | rfl | rfl | rfl | rfl | rfl | rfl | rfl | rfl | rfl | rfl | rfl | rfl | rfl
    all_goals (repeat (first | with_reducible exact List.mem_cons_self | with_reducible apply List.mem_cons_of_mem)))
  go_wp2_with fail
  go_loopw [8,15] (fun s8 i wr=>(i=.int .i64 0∧Held w (.cell B 20 (.slice none 0 0)::.cell B 21 (.slice none 0 0)::.cell B 22 (.slice none 0 0)::.cell B 23 false::.cell B 24 (0:Int)::.cell B 25 (0:Int)::.cell B 26 (.slice none 0 0)::.free B 20::.free B 21::.free B 22::.free B 23::.free B 24::.free B 25::.free B 26::zAw B t::zAj B c aR cR aD cD::calF c aR cR aD cD::zAg::[.cell Be 0 (0:Int),.free Be 0,.cell Bp 0 (.slice none 0 0),.cell Bp 1 (.slice none 0 0),.cell Bp 2 (.slice none 0 0),.cell Bp 3 false,.cell Bp 4 (0:Int),.cell Bp 5 (0:Int),.cell Bp 6 (.slice none 0 0),.free Bp 0,.free Bp 1,.free Bp 2,.free Bp 3,.free Bp 4,.free Bp 5,.free Bp 6,.cell Bs 0 (.func (.func 77) #[] #[]),.cell Bs 1 (.func (.func 78) #[] #[]),.cell Bs 2 (.func (.func 79) #[] #[]),.cell Bs 3 (.func (.func 80) #[] #[]),.cell Bs 4 (.func (.func 81) #[] #[])]) wr)∨(i=.int .i64 1∧t.code=0∧∃a0 c0,Held w (.cell B 20 (.slice a0 (x.q+1+1) c0)::.cell B 21 (.slice none 0 0)::.cell B 22 (.slice none 0 0)::.cell B 23 false::.cell B 24 (0:Int)::.cell B 25 (0:Int)::.cell B 26 (.slice none 0 0)::.free B 20::.free B 21::.free B 22::.free B 23::.free B 24::.free B 25::.free B 26::zAw B t::zAj B c aR cR aD cD::calF c aR cR aD cD::zAg::zAb a0 (t.dd x.X x.q) (x.q+1+1) c0::[.cell Be 0 (0:Int),.free Be 0,.cell Bp 0 (.slice none 0 0),.cell Bp 1 (.slice none 0 0),.cell Bp 2 (.slice none 0 0),.cell Bp 3 false,.cell Bp 4 (0:Int),.cell Bp 5 (0:Int),.cell Bp 6 (.slice none 0 0),.free Bp 0,.free Bp 1,.free Bp 2,.free Bp 3,.free Bp 4,.free Bp 5,.free Bp 6,.cell Bs 0 (.func (.func 77) #[] #[]),.cell Bs 1 (.func (.func 78) #[] #[]),.cell Bs 2 (.func (.func 79) #[] #[]),.cell Bs 3 (.func (.func 80) #[] #[]),.cell Bs 4 (.func (.func 81) #[] #[])]) wr)∨(i=.int .i64 2∧t.code=0∧fst1 x.C (x.q+1+1)=0∧∃a0 c0 a1 c1,Held w (.cell B 21 (.slice a1 (x.q+1+1) c1)::.cell B 20 (.slice a0 (x.q+1+1) c0)::.cell B 22 (.slice none 0 0)::.cell B 23 false::.cell B 24 (0:Int)::.cell B 25 (0:Int)::.cell B 26 (.slice none 0 0)::.free B 20::.free B 21::.free B 22::.free B 23::.free B 24::.free B 25::.free B 26::zAw B t::zAj B c aR cR aD cD::calF c aR cR aD cD::zAg::zAb a0 (t.dd x.X x.q) (x.q+1+1) c0::zAb a1 x.V (x.q+1+1) c1::[.cell Be 0 (0:Int),.free Be 0,.cell Bp 0 (.slice none 0 0),.cell Bp 1 (.slice none 0 0),.cell Bp 2 (.slice none 0 0),.cell Bp 3 false,.cell Bp 4 (0:Int),.cell Bp 5 (0:Int),.cell Bp 6 (.slice none 0 0),.free Bp 0,.free Bp 1,.free Bp 2,.free Bp 3,.free Bp 4,.free Bp 5,.free Bp 6,.cell Bs 0 (.func (.func 77) #[] #[]),.cell Bs 1 (.func (.func 78) #[] #[]),.cell Bs 2 (.func (.func 79) #[] #[]),.cell Bs 3 (.func (.func 80) #[] #[]),.cell Bs 4 (.func (.func 81) #[] #[])]) wr)∨(i=.int .i64 3∧t.code=0∧fst1 x.C (x.q+1+1)=0∧∃a0 c0 a1 c1,Held w (.cell B 25 (fr t.ms)::.cell B 24 (.int .i64 (x.V (x.q+1)))::.cell B 23 t.eo::.cell B 21 (.slice a1 (x.q+1+1) c1)::.cell B 20 (.slice a0 (x.q+1+1) c0)::.cell B 22 (.slice none 0 0)::.cell B 26 (.slice none 0 0)::.free B 20::.free B 21::.free B 22::.free B 23::.free B 24::.free B 25::.free B 26::zAw B t::zAj B c aR cR aD cD::calF c aR cR aD cD::zAg::zAb a0 (t.dd x.X x.q) (x.q+1+1) c0::zAb a1 x.V (x.q+1+1) c1::[.cell Be 0 (0:Int),.free Be 0,.cell Bp 0 (.slice none 0 0),.cell Bp 1 (.slice none 0 0),.cell Bp 2 (.slice none 0 0),.cell Bp 3 false,.cell Bp 4 (0:Int),.cell Bp 5 (0:Int),.cell Bp 6 (.slice none 0 0),.free Bp 0,.free Bp 1,.free Bp 2,.free Bp 3,.free Bp 4,.free Bp 5,.free Bp 6,.cell Bs 0 (.func (.func 77) #[] #[]),.cell Bs 1 (.func (.func 78) #[] #[]),.cell Bs 2 (.func (.func 79) #[] #[]),.cell Bs 3 (.func (.func 80) #[] #[]),.cell Bs 4 (.func (.func 81) #[] #[])]) wr)∨(i=.int .i64 4∧t.code=0∧fst1 x.C (x.q+1+1)=0∧fst1 x.GC (x.ns t)=0∧∃a0 c0 a1 c1 a3 c3,Held w (.cell B 26 (.slice a3 (x.ns t) c3)::.cell B 25 (fr t.ms)::.cell B 24 (.int .i64 (x.V (x.q+1)))::.cell B 23 t.eo::.cell B 21 (.slice a1 (x.q+1+1) c1)::.cell B 20 (.slice a0 (x.q+1+1) c0)::.cell B 22 (.slice none 0 0)::.free B 20::.free B 21::.free B 22::.free B 23::.free B 24::.free B 25::.free B 26::zAw B t::zAj B c aR cR aD cD::calF c aR cR aD cD::zAg::zAb a0 (t.dd x.X x.q) (x.q+1+1) c0::zAb a1 x.V (x.q+1+1) c1::zAb a3 x.GV (x.ns t) c3::[.cell Be 0 (0:Int),.free Be 0,.cell Bp 0 (.slice none 0 0),.cell Bp 1 (.slice none 0 0),.cell Bp 2 (.slice none 0 0),.cell Bp 3 false,.cell Bp 4 (0:Int),.cell Bp 5 (0:Int),.cell Bp 6 (.slice none 0 0),.free Bp 0,.free Bp 1,.free Bp 2,.free Bp 3,.free Bp 4,.free Bp 5,.free Bp 6,.cell Bs 0 (.func (.func 77) #[] #[]),.cell Bs 1 (.func (.func 78) #[] #[]),.cell Bs 2 (.func (.func 79) #[] #[]),.cell Bs 3 (.func (.func 80) #[] #[]),.cell Bs 4 (.func (.func 81) #[] #[])]) wr)∨(i=.int .i64 5∧x.code t=0∧∃a0 c0 a1 c1 a3 c3 a2 c2,Held w (.cell B 22 (.slice a2 (x.q+1) c2)::.cell B 26 (.slice a3 (x.ns t) c3)::.cell B 25 (fr t.ms)::.cell B 24 (.int .i64 (x.V (x.q+1)))::.cell B 23 t.eo::.cell B 21 (.slice a1 (x.q+1+1) c1)::.cell B 20 (.slice a0 (x.q+1+1) c0)::.free B 20::.free B 21::.free B 22::.free B 23::.free B 24::.free B 25::.free B 26::zAw B t::zAj B c aR cR aD cD::calF c aR cR aD cD::zAg::zAb a0 (t.dd x.X x.q) (x.q+1+1) c0::zAb a1 x.V (x.q+1+1) c1::zAb a3 x.GV (x.ns t) c3::[.cell Be 0 (0:Int),.free Be 0,.cell Bp 0 (.slice none 0 0),.cell Bp 1 (.slice none 0 0),.cell Bp 2 (.slice none 0 0),.cell Bp 3 false,.cell Bp 4 (0:Int),.cell Bp 5 (0:Int),.cell Bp 6 (.slice none 0 0),.free Bp 0,.free Bp 1,.free Bp 2,.free Bp 3,.free Bp 4,.free Bp 5,.free Bp 6,.cell Bs 0 (.func (.func 77) #[] #[]),.cell Bs 1 (.func (.func 78) #[] #[]),.cell Bs 2 (.func (.func 79) #[] #[]),.cell Bs 3 (.func (.func 80) #[] #[]),.cell Bs 4 (.func (.func 81) #[] #[])]) wr∧∃N,Be<N∧Bp<N∧wr.ownsRow N 48 2 (.slice a2 (x.q+1) c2) (x.q+1) (rl x.P x.Q (x.q+1)))) (fun _ i _=>5-(intOf i).toNat)
  case atStart=>exact Or.inl ⟨rfl,H⟩
  case round=>
    clear H
    rcases hrel with⟨rfl,H⟩ | ⟨rfl,hc,a0,c0,H⟩ | ⟨rfl,hc,hz1,a0,c0,a1,c1,H⟩ | ⟨rfl,hc,hz1,a0,c0,a1,c1,H⟩ | ⟨rfl,hc,hz1,hz2,a0,c0,a1,c1,a3,c3,H⟩ | ⟨rfl,hx,a0,c0,a1,c1,a3,c3,a2,c2,H,N,hN1,hN2,OW⟩
    · have s0:=H.cell Bs 0 (.func (.func 77) #[] #[])
      have ls:=zA0 s0
      go_wp2_with fail
      clear s0 ls
      by_cases hc:t.code=0
      · with_reducible refine (zLl t c aR cR aD cD B x [.cell Be 0 (0:Int),.free Be 0,.cell Bp 0 (.slice none 0 0),.cell Bp 1 (.slice none 0 0),.cell Bp 2 (.slice none 0 0),.cell Bp 3 false,.cell Bp 4 (0:Int),.cell Bp 5 (0:Int),.cell Bp 6 (.slice none 0 0),.free Bp 0,.free Bp 1,.free Bp 2,.free Bp 3,.free Bp 4,.free Bp 5,.free Bp 6,.cell Bs 0 (.func (.func 77) #[] #[]),.cell Bs 1 (.func (.func 78) #[] #[]),.cell Bs 2 (.func (.func 79) #[] #[]),.cell Bs 3 (.func (.func 80) #[] #[]),.cell Bs 4 (.func (.func 81) #[] #[])] HGS.out w _ HF.out HC.out hB hc HP.out H).mono ?_
        rintro e w2 ⟨a0,c0,rfl,H⟩
        have ce:=H.cell Be 0 _
        have fe:=H.frozen Be 0
        have le:=zA0 ce
        go_wp2_with fail
        go_roundw
        case rel=>exact Or.inr (Or.inl ⟨rfl,hc,a0,c0,by rw[zA2 ce];exact H⟩)
        case measure=>simp[intOf]
      · with_reducible refine (zLk t c aR cR aD cD B x [.cell Be 0 (0:Int),.free Be 0,.cell Bp 0 (.slice none 0 0),.cell Bp 1 (.slice none 0 0),.cell Bp 2 (.slice none 0 0),.cell Bp 3 false,.cell Bp 4 (0:Int),.cell Bp 5 (0:Int),.cell Bp 6 (.slice none 0 0),.free Bp 0,.free Bp 1,.free Bp 2,.free Bp 3,.free Bp 4,.free Bp 5,.free Bp 6,.cell Bs 0 (.func (.func 77) #[] #[]),.cell Bs 1 (.func (.func 78) #[] #[]),.cell Bs 2 (.func (.func 79) #[] #[]),.cell Bs 3 (.func (.func 80) #[] #[]),.cell Bs 4 (.func (.func 81) #[] #[])] HGS.out w _ HF.out HC.out hB hc H).mono ?_
        rintro e w2 ⟨rfl,H⟩
        have hz:=hc
        have hx:=(show x.code t=t.code by unfold Pl.code;rw[if_pos hc])
        obtain⟨z,hze⟩:∃z,t.code=z:=⟨_,rfl⟩
        rw[hze] at hz hx ⊢
        have nz:(z != 0)=true:=by simpa using hz
        clear hze
        have ce:=H.cell Be 0 _
        have fe:=H.frozen Be 0
        have le:=zA0 ce
        go_upto_region 9 with fail
        clear ce fe le
        replace H:Held w [.cell Be 0 (0:Int),.free Be 0,.cell Bp 0 (.slice none 0 0),.cell Bp 1 (.slice none 0 0),.cell Bp 2 (.slice none 0 0),.cell Bp 3 false,.cell Bp 4 (0:Int),.cell Bp 5 (0:Int),.cell Bp 6 (.slice none 0 0),.free Bp 0,.free Bp 1,.free Bp 2,.free Bp 3,.free Bp 4,.free Bp 5,.free Bp 6] w2:=H.sub (fun f hf=>by
          simp only[List.mem_cons,List.not_mem_nil,or_false] at hf
          rcases hf with rfl | rfl | rfl | rfl | rfl | rfl | rfl | rfl | rfl | rfl | rfl | rfl | rfl | rfl | rfl | rfl
          all_goals (repeat (first | with_reducible exact List.mem_cons_self | with_reducible apply List.mem_cons_of_mem)))
        replace H:=Held.put17 H (.int .i64 z) hE (zA1 trivial (zA1 (Or.inl neP) (zA1 (Or.inl neP) (zA1 (Or.inl neP) (zA1 (Or.inl neP) (zA1 (Or.inl neP) (zA1 (Or.inl neP) (zA1 (Or.inl neP) (zA1 trivial (zA1 trivial (zA1 trivial (zA1 trivial (zA1 trivial (zA1 trivial (zA1 trivial (fun f hf=>absurd hf (List.not_mem_nil)))))))))))))))))
        obtain⟨V,hV⟩:∃V,World.setCell w2 ⟨Be,0,none⟩ (.int .i64 z)=V:=⟨_,rfl⟩
        rw[hV] at H ⊢
        clear hV
        obtain⟨cp0,cp1,cp2,cp3,cp4,cp5,cp6⟩:=H.cells7 Bp
        obtain⟨fp0,fp1,fp2,fp3,fp4,fp5,fp6⟩:=H.frozens7 Bp
        have ce:=H.cell Be 0 _
        have fe:=H.frozen Be 0
        have le:=zA0 ce
        have lp:=zA0 cp0
        go_region
        simp only[zA2 cp0,zA2 cp1,zA2 cp2,zA2 cp3,zA2 cp4,zA2 cp5,zA2 cp6,zA2 ce]
        go_wp2
        replace H:=H.drew
        obtain⟨V2,hV2⟩:∃V2,World.drew V=V2:=⟨_,rfl⟩
        rw[hV2] at H ⊢
        clear hV2 ce fe le lp cp0 fp0 cp1 fp1 cp2 fp2 cp3 fp3 cp4 fp4 cp5 fp5 cp6 fp6
        obtain⟨cp0,cp1,cp2,cp3,cp4,cp5,cp6⟩:=H.cells7 Bp
        have ce:=H.cell Be 0 _
        have lp:=zA0 cp0
        refine leaves_cons (f:=53) (args:=#[.pointer (some ⟨Be,0,none⟩),.pointer (some ⟨B,0,none⟩),.pointer (some ⟨Bp,0,none⟩)]) zs (by simp[go_sem]) ?_
        refine (zG0 Be B Bp z .returning _ ce hz).mono ?_
        rintro e u' w3 ⟨rfl,rfl,rfl⟩
        simp[Leaves,settle,results,Tryz.results26,go_sem,cp0,cp1,cp2,cp3,cp4,cp5,cp6,ce,lp]
        exact⟨zDr hx hz,H.old⟩
    · have s0:=H.cell Bs 1 (.func (.func 78) #[] #[])
      have ls:=zA0 s0
      go_wp2_with fail
      clear s0 ls
      have hP:=HP.out
      have hS:=HS.out hc
      have hM:=HM.out
      have hq:=hS.q
      have hK:=hS.k
      have hdd:∀j,j<(x.q+1+1)→1≤(t.dd x.X x.q) j∧(t.dd x.X x.q) j≤3652059:=fun j hj=>hP.dday hc zo
      with_reducible refine (zOh t c aR cR aD cD B x [.cell Be 0 (0:Int),.free Be 0,.cell Bp 0 (.slice none 0 0),.cell Bp 1 (.slice none 0 0),.cell Bp 2 (.slice none 0 0),.cell Bp 3 false,.cell Bp 4 (0:Int),.cell Bp 5 (0:Int),.cell Bp 6 (.slice none 0 0),.free Bp 0,.free Bp 1,.free Bp 2,.free Bp 3,.free Bp 4,.free Bp 5,.free Bp 6,.cell Bs 0 (.func (.func 77) #[] #[]),.cell Bs 1 (.func (.func 78) #[] #[]),.cell Bs 2 (.func (.func 79) #[] #[]),.cell Bs 3 (.func (.func 80) #[] #[]),.cell Bs 4 (.func (.func 81) #[] #[])] HGS.out w _ HF.out HC.out hB a0 c0 (fun j hj=>(hdd j hj).1) hM zo (fun j hj=>by have:=hdd j hj;omega) (fun j hj=>hP.roll j zo) H).mono ?_
      rintro e w2 ⟨rfl,Hg,hok⟩
      clear H
      by_cases hz1:fst1 x.C (x.q+1+1)=0
      · obtain⟨a1,c1,H⟩:=hok hz1
        clear Hg hok
        rw[hz1]
        have ce:=H.cell Be 0 _
        have fe:=H.frozen Be 0
        have le:=zA0 ce
        clear hdd hP hS hM hq hK
        go_wp2_with fail
        go_roundw
        case rel=>exact Or.inr (Or.inr (Or.inl ⟨rfl,hc,hz1,a0,c0,a1,c1,by rw[zA2 ce];exact H⟩))
        case measure=>simp[intOf]
      · have H:=Hg
        clear Hg hok hdd hP hS hM hq hK
        have hz:=hz1
        have hx:=(show x.code t=fst1 x.C (x.q+1+1) by unfold Pl.code;rw[if_neg zo,if_pos hz1])
        obtain⟨z,hze⟩:∃z,fst1 x.C (x.q+1+1)=z:=⟨_,rfl⟩
        rw[hze] at hz hx ⊢
        have nz:(z != 0)=true:=by simpa using hz
        clear hze
        have ce:=H.cell Be 0 _
        have fe:=H.frozen Be 0
        have le:=zA0 ce
        go_upto_region 9 with fail
        clear ce fe le
        replace H:Held w [.cell Be 0 (0:Int),.free Be 0,.cell Bp 0 (.slice none 0 0),.cell Bp 1 (.slice none 0 0),.cell Bp 2 (.slice none 0 0),.cell Bp 3 false,.cell Bp 4 (0:Int),.cell Bp 5 (0:Int),.cell Bp 6 (.slice none 0 0),.free Bp 0,.free Bp 1,.free Bp 2,.free Bp 3,.free Bp 4,.free Bp 5,.free Bp 6] w2:=H.sub (fun f hf=>by
          simp only[List.mem_cons,List.not_mem_nil,or_false] at hf
          rcases hf with rfl | rfl | rfl | rfl | rfl | rfl | rfl | rfl | rfl | rfl | rfl | rfl | rfl | rfl | rfl | rfl
          all_goals (repeat (first | with_reducible exact List.mem_cons_self | with_reducible apply List.mem_cons_of_mem)))
        replace H:=Held.put17 H (.int .i64 z) hE (zA1 trivial (zA1 (Or.inl neP) (zA1 (Or.inl neP) (zA1 (Or.inl neP) (zA1 (Or.inl neP) (zA1 (Or.inl neP) (zA1 (Or.inl neP) (zA1 (Or.inl neP) (zA1 trivial (zA1 trivial (zA1 trivial (zA1 trivial (zA1 trivial (zA1 trivial (zA1 trivial (fun f hf=>absurd hf (List.not_mem_nil)))))))))))))))))
        obtain⟨V,hV⟩:∃V,World.setCell w2 ⟨Be,0,none⟩ (.int .i64 z)=V:=⟨_,rfl⟩
        rw[hV] at H ⊢
        clear hV
        obtain⟨cp0,cp1,cp2,cp3,cp4,cp5,cp6⟩:=H.cells7 Bp
        obtain⟨fp0,fp1,fp2,fp3,fp4,fp5,fp6⟩:=H.frozens7 Bp
        have ce:=H.cell Be 0 _
        have fe:=H.frozen Be 0
        have le:=zA0 ce
        have lp:=zA0 cp0
        go_region
        simp only[zA2 cp0,zA2 cp1,zA2 cp2,zA2 cp3,zA2 cp4,zA2 cp5,zA2 cp6,zA2 ce]
        go_wp2
        replace H:=H.drew
        obtain⟨V2,hV2⟩:∃V2,World.drew V=V2:=⟨_,rfl⟩
        rw[hV2] at H ⊢
        clear hV2 ce fe le lp cp0 fp0 cp1 fp1 cp2 fp2 cp3 fp3 cp4 fp4 cp5 fp5 cp6 fp6
        obtain⟨cp0,cp1,cp2,cp3,cp4,cp5,cp6⟩:=H.cells7 Bp
        have ce:=H.cell Be 0 _
        have lp:=zA0 cp0
        refine leaves_cons (f:=53) (args:=#[.pointer (some ⟨Be,0,none⟩),.pointer (some ⟨B,0,none⟩),.pointer (some ⟨Bp,0,none⟩)]) zs (by simp[go_sem]) ?_
        refine (zG0 Be B Bp z .returning _ ce hz).mono ?_
        rintro e u' w3 ⟨rfl,rfl,rfl⟩
        simp[Leaves,settle,results,Tryz.results26,go_sem,cp0,cp1,cp2,cp3,cp4,cp5,cp6,ce,lp]
        exact⟨zDr hx hz,H.old⟩
    · have s0:=H.cell Bs 2 (.func (.func 79) #[] #[])
      have ls:=zA0 s0
      go_wp2_with fail
      clear s0 ls
      have hP:=HP.out
      have hS:=HS.out hc
      have hM:=HM.out
      have hq:=hS.q
      have hK:=hS.k
      have hdd:∀j,j<(x.q+1+1)→1≤(t.dd x.X x.q) j∧(t.dd x.X x.q) j≤3652059:=fun j hj=>hP.dday hc zo
      have hd1:∀j,j<(x.q+1+1)→1≤x.V j:=fun j hj=>by
        have h:=hP.roll j zo
        rw[zB8.1 hz1 j zo] at h
        exact h.day
      with_reducible refine (zOg t c aR cR aD cD B x [.cell Be 0 (0:Int),.free Be 0,.cell Bp 0 (.slice none 0 0),.cell Bp 1 (.slice none 0 0),.cell Bp 2 (.slice none 0 0),.cell Bp 3 false,.cell Bp 4 (0:Int),.cell Bp 5 (0:Int),.cell Bp 6 (.slice none 0 0),.free Bp 0,.free Bp 1,.free Bp 2,.free Bp 3,.free Bp 4,.free Bp 5,.free Bp 6,.cell Bs 0 (.func (.func 77) #[] #[]),.cell Bs 1 (.func (.func 78) #[] #[]),.cell Bs 2 (.func (.func 79) #[] #[]),.cell Bs 3 (.func (.func 80) #[] #[]),.cell Bs 4 (.func (.func 81) #[] #[])] HGS.out w _ HF.out HC.out hB a0 c0 a1 c1 (fun j hj=>(hdd j hj).1) hd1 hq H).mono ?_
      rintro e w2 ⟨rfl,H⟩
      clear hd1
      have ce:=H.cell Be 0 _
      have fe:=H.frozen Be 0
      have le:=zA0 ce
      clear hdd hP hS hM hq hK
      go_wp2_with fail
      go_roundw
      case rel=>exact Or.inr (Or.inr (Or.inr (Or.inl ⟨rfl,hc,hz1,a0,c0,a1,c1,by rw[zA2 ce];exact H⟩)))
      case measure=>simp[intOf]
    · have s0:=H.cell Bs 3 (.func (.func 80) #[] #[])
      have ls:=zA0 s0
      go_wp2_with fail
      clear s0 ls
      have hP:=HP.out
      have hS:=HS.out hc
      have hM:=HM.out
      have hq:=hS.q
      have hK:=hS.k
      have hdd:∀j,j<(x.q+1+1)→1≤(t.dd x.X x.q) j∧(t.dd x.X x.q) j≤3652059:=fun j hj=>hP.dday hc zo
      by_cases hk:t.co=6
      · have hns:x.ns t=x.K:=by unfold Pl.ns;rw[if_pos hk]
        with_reducible refine (put_refs t c aR cR aD cD B x [.cell Be 0 (0:Int),.free Be 0,.cell Bp 0 (.slice none 0 0),.cell Bp 1 (.slice none 0 0),.cell Bp 2 (.slice none 0 0),.cell Bp 3 false,.cell Bp 4 (0:Int),.cell Bp 5 (0:Int),.cell Bp 6 (.slice none 0 0),.free Bp 0,.free Bp 1,.free Bp 2,.free Bp 3,.free Bp 4,.free Bp 5,.free Bp 6,.cell Bs 0 (.func (.func 77) #[] #[]),.cell Bs 1 (.func (.func 78) #[] #[]),.cell Bs 2 (.func (.func 79) #[] #[]),.cell Bs 3 (.func (.func 80) #[] #[]),.cell Bs 4 (.func (.func 81) #[] #[])] HGS.out w _ HF.out HC.out hB a0 c0 a1 c1 hk hc hP hM zo (fun j hj=>by have:=hP.gday hc hj;omega) H).mono ?_
        rintro e w2 ⟨rfl,Hg,hok⟩
        have HK6:=zh hk
        clear H hk
        by_cases hz2:fst1 x.GC x.K=0
        · obtain⟨a3,c3,H⟩:=hok hz2
          clear Hg hok
          rw[hz2]
          have ce:=H.cell Be 0 _
          have fe:=H.frozen Be 0
          have le:=zA0 ce
          clear hdd hP hS hM hq hK
          go_wp2_with fail
          go_roundw
          case rel=>exact Or.inr (Or.inr (Or.inr (Or.inr (Or.inl ⟨rfl,hc,hz1,by rw[hns];exact hz2,a0,c0,a1,c1,a3,c3,by rw[hns,zA2 ce];exact H⟩))))
          case measure=>simp[intOf]
        · have H:=Hg
          clear Hg hok hdd hP hS hM hq hK
          have hz:=hz2
          have hx:=(show x.code t=fst1 x.GC x.K by unfold Pl.code;rw[if_neg zo,if_neg (not_not_intro hz1),if_pos (by rw[hns];exact hz2),hns])
          obtain⟨z,hze⟩:∃z,fst1 x.GC x.K=z:=⟨_,rfl⟩
          rw[hze] at hz hx ⊢
          have nz:(z != 0)=true:=by simpa using hz
          clear hze
          have ce:=H.cell Be 0 _
          have fe:=H.frozen Be 0
          have le:=zA0 ce
          go_upto_region 9 with fail
          clear ce fe le
          replace H:Held w [.cell Be 0 (0:Int),.free Be 0,.cell Bp 0 (.slice none 0 0),.cell Bp 1 (.slice none 0 0),.cell Bp 2 (.slice none 0 0),.cell Bp 3 false,.cell Bp 4 (0:Int),.cell Bp 5 (0:Int),.cell Bp 6 (.slice none 0 0),.free Bp 0,.free Bp 1,.free Bp 2,.free Bp 3,.free Bp 4,.free Bp 5,.free Bp 6] w2:=H.sub (fun f hf=>by
            simp only[List.mem_cons,List.not_mem_nil,or_false] at hf
            rcases hf with rfl | rfl | rfl | rfl | rfl | rfl | rfl | rfl | rfl | rfl | rfl | rfl | rfl | rfl | rfl | rfl
            all_goals (repeat (first | with_reducible exact List.mem_cons_self | with_reducible apply List.mem_cons_of_mem)))
          replace H:=Held.put17 H (.int .i64 z) hE (zA1 trivial (zA1 (Or.inl neP) (zA1 (Or.inl neP) (zA1 (Or.inl neP) (zA1 (Or.inl neP) (zA1 (Or.inl neP) (zA1 (Or.inl neP) (zA1 (Or.inl neP) (zA1 trivial (zA1 trivial (zA1 trivial (zA1 trivial (zA1 trivial (zA1 trivial (zA1 trivial (fun f hf=>absurd hf (List.not_mem_nil)))))))))))))))))
          obtain⟨V,hV⟩:∃V,World.setCell w2 ⟨Be,0,none⟩ (.int .i64 z)=V:=⟨_,rfl⟩
          rw[hV] at H ⊢
          clear hV
          obtain⟨cp0,cp1,cp2,cp3,cp4,cp5,cp6⟩:=H.cells7 Bp
          obtain⟨fp0,fp1,fp2,fp3,fp4,fp5,fp6⟩:=H.frozens7 Bp
          have ce:=H.cell Be 0 _
          have fe:=H.frozen Be 0
          have le:=zA0 ce
          have lp:=zA0 cp0
          go_region
          simp only[zA2 cp0,zA2 cp1,zA2 cp2,zA2 cp3,zA2 cp4,zA2 cp5,zA2 cp6,zA2 ce]
          go_wp2
          replace H:=H.drew
          obtain⟨V2,hV2⟩:∃V2,World.drew V=V2:=⟨_,rfl⟩
          rw[hV2] at H ⊢
          clear hV2 ce fe le lp cp0 fp0 cp1 fp1 cp2 fp2 cp3 fp3 cp4 fp4 cp5 fp5 cp6 fp6
          obtain⟨cp0,cp1,cp2,cp3,cp4,cp5,cp6⟩:=H.cells7 Bp
          have ce:=H.cell Be 0 _
          have lp:=zA0 cp0
          refine leaves_cons (f:=53) (args:=#[.pointer (some ⟨Be,0,none⟩),.pointer (some ⟨B,0,none⟩),.pointer (some ⟨Bp,0,none⟩)]) zs (by simp[go_sem]) ?_
          refine (zG0 Be B Bp z .returning _ ce hz).mono ?_
          rintro e u' w3 ⟨rfl,rfl,rfl⟩
          simp[Leaves,settle,results,Tryz.results26,go_sem,cp0,cp1,cp2,cp3,cp4,cp5,cp6,ce,lp]
          exact⟨zDr hx hz,H.old⟩
      · have hns:x.ns t=0:=by unfold Pl.ns;rw[if_neg hk]
        with_reducible refine (zJv t c aR cR aD cD B x [.cell Be 0 (0:Int),.free Be 0,.cell Bp 0 (.slice none 0 0),.cell Bp 1 (.slice none 0 0),.cell Bp 2 (.slice none 0 0),.cell Bp 3 false,.cell Bp 4 (0:Int),.cell Bp 5 (0:Int),.cell Bp 6 (.slice none 0 0),.free Bp 0,.free Bp 1,.free Bp 2,.free Bp 3,.free Bp 4,.free Bp 5,.free Bp 6,.cell Bs 0 (.func (.func 77) #[] #[]),.cell Bs 1 (.func (.func 78) #[] #[]),.cell Bs 2 (.func (.func 79) #[] #[]),.cell Bs 3 (.func (.func 80) #[] #[]),.cell Bs 4 (.func (.func 81) #[] #[])] HGS.out w _ HF.out HC.out hB a0 c0 a1 c1 hk H).mono ?_
        rintro e w2 ⟨rfl,H⟩
        have HK6:=zh hk
        clear hk
        have ce:=H.cell Be 0 _
        have fe:=H.frozen Be 0
        have le:=zA0 ce
        clear hdd hP hS hM hq hK
        go_wp2_with fail
        go_roundw
        case rel=>exact Or.inr (Or.inr (Or.inr (Or.inr (Or.inl ⟨rfl,hc,hz1,by rw[hns];rfl,a0,c0,a1,c1,none,0,by rw[hns,zA2 ce];exact (H.add (f:=zAb none x.GV 0 0) (zC9 _ _)).sub (fun f hf=>by
              simp only[List.mem_cons,List.append_eq,List.cons_append,List.nil_append,List.not_mem_nil,or_false] at hf
              rcases hf with rfl | rfl | rfl | rfl | rfl | rfl | rfl | rfl | rfl | rfl | rfl | rfl | rfl | rfl | rfl | rfl | rfl | rfl | rfl | rfl | rfl | rfl | rfl | rfl | rfl | rfl | rfl | rfl | rfl | rfl | rfl | rfl | rfl | rfl | rfl | rfl | rfl | rfl | rfl | rfl | rfl | rfl
              all_goals (repeat (first | exact hf | with_reducible exact List.mem_cons_self | with_reducible apply List.mem_cons_of_mem)))⟩))))
        case measure=>simp[intOf]
    · have s0:=H.cell Bs 4 (.func (.func 81) #[] #[])
      have ls:=zA0 s0
      go_wp2_with fail
      clear s0 ls
      have hP:=HP.out
      have hS:=HS.out hc
      have hM:=HM.out
      have hq:=hS.q
      have hK:=hS.k
      have hdd:∀j,j<(x.q+1+1)→1≤(t.dd x.X x.q) j∧(t.dd x.X x.q) j≤3652059:=fun j hj=>hP.dday hc zo
      have hd1:∀j,j<(x.q+1+1)→1≤x.V j:=fun j hj=>by
        have h:=hP.roll j zo
        rw[zB8.1 hz1 j zo] at h
        exact h.day
      have hnk:(x.ns t)≤x.K:=by unfold Pl.ns;split <;> omega
      have hd3:∀j,j<(x.ns t)→1≤x.GV j:=fun j hj=>by
        have h:=hP.grid j zo
        rw[zB8.1 hz2 j hj] at h
        exact h.day
      have HWR1:Hid (Be<wr.heap.size):=zh (H.lt Be 0 (0:Int))
      have HWR2:Hid (Bp<wr.heap.size):=zh (H.lt Bp 0 (.slice none 0 0))
      with_reducible refine (zSd t c aR cR aD cD B x [.cell Be 0 (0:Int),.free Be 0,.cell Bp 0 (.slice none 0 0),.cell Bp 1 (.slice none 0 0),.cell Bp 2 (.slice none 0 0),.cell Bp 3 false,.cell Bp 4 (0:Int),.cell Bp 5 (0:Int),.cell Bp 6 (.slice none 0 0),.free Bp 0,.free Bp 1,.free Bp 2,.free Bp 3,.free Bp 4,.free Bp 5,.free Bp 6,.cell Bs 0 (.func (.func 77) #[] #[]),.cell Bs 1 (.func (.func 78) #[] #[]),.cell Bs 2 (.func (.func 79) #[] #[]),.cell Bs 3 (.func (.func 80) #[] #[]),.cell Bs 4 (.func (.func 81) #[] #[])] HGS.out w _ HF.out HC.out hB a0 c0 a1 c1 a3 c3 (fun j hj=>(hdd j hj).1) hd1 hd3 hq zo (H.lt B 20 _) hP.part H).mono ?_
      rintro e w2 ⟨rfl,Hg,hBw,hok⟩
      clear hd1 hd3 hnk
      by_cases hz3:fst1 x.PC (x.q+1)=0
      · obtain⟨a2,c2,H,OW⟩:=hok hz3
        have hxx:x.code t=0:=by unfold Pl.code;rw[if_neg zo,if_neg (not_not_intro hz1),if_neg (not_not_intro hz2)];exact hz3
        clear Hg hok
        rw[hz3]
        have ce:=H.cell Be 0 _
        have fe:=H.frozen Be 0
        have le:=zA0 ce
        clear hdd hP hS hM hq hK
        have hN1:=HWR1.out
        have hN2:=HWR2.out
        go_wp2_with fail
        go_roundw
        case rel=>exact Or.inr (Or.inr (Or.inr (Or.inr (Or.inr (⟨rfl,hxx,a0,c0,a1,c1,a3,c3,a2,c2,by rw[zA2 ce];exact H,_,hN1,hN2,by rw[zA2 ce];exact OW⟩)))))
        case measure=>simp[intOf]
      · have H:=Hg
        clear Hg hok hdd hP hS hM hq hK
        have hz:=hz3
        have hx:=(show x.code t=fst1 x.PC (x.q+1) by unfold Pl.code;rw[if_neg zo,if_neg (not_not_intro hz1),if_neg (not_not_intro hz2)])
        obtain⟨z,hze⟩:∃z,fst1 x.PC (x.q+1)=z:=⟨_,rfl⟩
        rw[hze] at hz hx ⊢
        have nz:(z != 0)=true:=by simpa using hz
        clear hze
        have ce:=H.cell Be 0 _
        have fe:=H.frozen Be 0
        have le:=zA0 ce
        go_upto_region 9 with fail
        clear ce fe le
        replace H:Held w [.cell Be 0 (0:Int),.free Be 0,.cell Bp 0 (.slice none 0 0),.cell Bp 1 (.slice none 0 0),.cell Bp 2 (.slice none 0 0),.cell Bp 3 false,.cell Bp 4 (0:Int),.cell Bp 5 (0:Int),.cell Bp 6 (.slice none 0 0),.free Bp 0,.free Bp 1,.free Bp 2,.free Bp 3,.free Bp 4,.free Bp 5,.free Bp 6] w2:=H.sub (fun f hf=>by
          simp only[List.mem_cons,List.not_mem_nil,or_false] at hf
          rcases hf with rfl | rfl | rfl | rfl | rfl | rfl | rfl | rfl | rfl | rfl | rfl | rfl | rfl | rfl | rfl | rfl
          all_goals (repeat (first | with_reducible exact List.mem_cons_self | with_reducible apply List.mem_cons_of_mem)))
        replace H:=Held.put17 H (.int .i64 z) hE (zA1 trivial (zA1 (Or.inl neP) (zA1 (Or.inl neP) (zA1 (Or.inl neP) (zA1 (Or.inl neP) (zA1 (Or.inl neP) (zA1 (Or.inl neP) (zA1 (Or.inl neP) (zA1 trivial (zA1 trivial (zA1 trivial (zA1 trivial (zA1 trivial (zA1 trivial (zA1 trivial (fun f hf=>absurd hf (List.not_mem_nil)))))))))))))))))
        obtain⟨V,hV⟩:∃V,World.setCell w2 ⟨Be,0,none⟩ (.int .i64 z)=V:=⟨_,rfl⟩
        rw[hV] at H ⊢
        clear hV
        obtain⟨cp0,cp1,cp2,cp3,cp4,cp5,cp6⟩:=H.cells7 Bp
        obtain⟨fp0,fp1,fp2,fp3,fp4,fp5,fp6⟩:=H.frozens7 Bp
        have ce:=H.cell Be 0 _
        have fe:=H.frozen Be 0
        have le:=zA0 ce
        have lp:=zA0 cp0
        go_region
        simp only[zA2 cp0,zA2 cp1,zA2 cp2,zA2 cp3,zA2 cp4,zA2 cp5,zA2 cp6,zA2 ce]
        go_wp2
        replace H:=H.drew
        obtain⟨V2,hV2⟩:∃V2,World.drew V=V2:=⟨_,rfl⟩
        rw[hV2] at H ⊢
        clear hV2 ce fe le lp cp0 fp0 cp1 fp1 cp2 fp2 cp3 fp3 cp4 fp4 cp5 fp5 cp6 fp6
        obtain⟨cp0,cp1,cp2,cp3,cp4,cp5,cp6⟩:=H.cells7 Bp
        have ce:=H.cell Be 0 _
        have lp:=zA0 cp0
        refine leaves_cons (f:=53) (args:=#[.pointer (some ⟨Be,0,none⟩),.pointer (some ⟨B,0,none⟩),.pointer (some ⟨Bp,0,none⟩)]) zs (by simp[go_sem]) ?_
        refine (zG0 Be B Bp z .returning _ ce hz).mono ?_
        rintro e u' w3 ⟨rfl,rfl,rfl⟩
        simp[Leaves,settle,results,Tryz.results26,go_sem,cp0,cp1,cp2,cp3,cp4,cp5,cp6,ce,lp]
        exact⟨zDr hx hz,H.old⟩
    · have HX:=zh hx
      clear hx
      obtain⟨cp0,cp1,cp2,cp3,cp4,cp5,cp6⟩:=H.cells7 Bp
      obtain⟨fp0,fp1,fp2,fp3,fp4,fp5,fp6⟩:=H.frozens7 Bp
      have ce:=H.cell Be 0 _
      have fe:=H.frozen Be 0
      have le:=zA0 ce
      have lp:=zA0 cp0
      go_upto_region 9 with fail
      go_region
      simp only[zA2 cp0,zA2 cp1,zA2 cp2,zA2 cp3,zA2 cp4,zA2 cp5,zA2 cp6,zA2 ce]
      go_wp2
      replace H:=H.drew
      replace OW:=zAp OW ((Below.refl _ wr).drew)
      obtain⟨V2,hV2⟩:∃V2,World.drew wr=V2:=⟨_,rfl⟩
      rw[hV2] at H OW ⊢
      clear hV2 ce fe le lp cp0 fp0 cp1 fp1 cp2 fp2 cp3 fp3 cp4 fp4 cp5 fp5 cp6 fp6
      obtain⟨cp0,cp1,cp2,cp3,cp4,cp5,cp6⟩:=H.cells7 Bp
      obtain⟨fp0,fp1,fp2,fp3,fp4,fp5,fp6⟩:=H.frozens7 Bp
      have ce:=H.cell Be 0 _
      have dd0:=H.cell B 20 _
      have dd1:=H.cell B 21 _
      have dd2:=H.cell B 22 _
      have dd3:=H.cell B 23 _
      have dd4:=H.cell B 24 _
      have dd5:=H.cell B 25 _
      have dd6:=H.cell B 26 _
      refine leaves_cons (f:=53) (args:=#[.pointer (some ⟨Be,0,none⟩),.pointer (some ⟨B,0,none⟩),.pointer (some ⟨Bp,0,none⟩)]) zs (by simp[go_sem]) ?_
      refine (lay_done Be B Bp a0 a1 a2 a3 (x.q+1+1) (x.q+1+1) (x.q+1) (x.ns t) c0 c1 c2 c3 t.eo (x.V (x.q+1)) (fr t.ms) .returning _ ce dd0 dd1 dd2 dd3 dd4 dd5 dd6 cp0 cp1 cp2 cp3 cp4 cp5 cp6 fp0 fp1 fp2 fp3 fp4 fp5 fp6).mono ?_
      rintro e u' w3 ⟨rfl,rfl,rfl⟩
      clear ce cp0 fp0 dd0 cp1 fp1 dd1 cp2 fp2 dd2 cp3 fp3 dd3 cp4 fp4 dd4 cp5 fp5 dd5 cp6 fp6 dd6
      obtain⟨hc,hz1,hz2,-⟩:=Pl.good HX.out
      have hP:=HP.out
      have hd0:∀j,j<(x.q+1+1)→1≤(t.dd x.X x.q) j:=fun j hj=>(hP.dday hc zo).1
      have hd1:∀j,j<(x.q+1+1)→1≤x.V j:=fun j hj=>by
        have h:=hP.roll j zo
        rw[hz1 j zo] at h
        exact h.day
      have hnk:(x.ns t)≤x.K:=by unfold Pl.ns;split <;> omega
      have hd3:∀j,j<(x.ns t)→1≤x.GV j:=fun j hj=>by
        have h:=hP.grid j zo
        rw[hz2 j hj] at h
        exact h.day
      replace H:Held w [.cell Bp 0 (.slice none 0 0),.cell Bp 1 (.slice none 0 0),.cell Bp 2 (.slice none 0 0),.cell Bp 3 false,.cell Bp 4 (0:Int),.cell Bp 5 (0:Int),.cell Bp 6 (.slice none 0 0),.cell Be 0 (0:Int),zAb a0 (t.dd x.X x.q) (x.q+1+1) c0,zAb a1 x.V (x.q+1+1) c1,zAb a3 x.GV (x.ns t) c3] V2:=H.sub (fun f hf=>by
        simp only[List.mem_cons,List.not_mem_nil,or_false] at hf
        rcases hf with rfl | rfl | rfl | rfl | rfl | rfl | rfl | rfl | rfl | rfl | rfl
        all_goals (repeat (first | with_reducible exact List.mem_cons_self | with_reducible apply List.mem_cons_of_mem)))
      replace H:=Held.put17 H (.slice a0 (x.q+1+1) c0) hQ (zA1 (Or.inr zd) (zA1 (Or.inr zd) (zA1 (Or.inr zd) (zA1 (Or.inr zd) (zA1 (Or.inr zd) (zA1 (Or.inr zd) (zA1 (Or.inl neP.symm) (zA1 (Or.inr (fun W u ho h=>zA8 h ho (fun j hj e=>by cases e) u)) (zA1 (Or.inr (fun W u ho h=>zA8 h ho (fun j hj e=>by cases e) u)) (zA1 (Or.inr (fun W u ho h=>zA8 h ho (fun j hj e=>by cases e) u)) (fun f hf=>absurd hf (List.not_mem_nil))))))))))))
      replace OW:=ownsRow_setCell_below OW (a:=⟨Bp,0,none⟩) hN2 (.slice a0 (x.q+1+1) c0)
      replace H:Held w [.cell Bp 1 (.slice none 0 0),.cell Bp 0 (.slice a0 (x.q+1+1) c0),.cell Bp 2 (.slice none 0 0),.cell Bp 3 false,.cell Bp 4 (0:Int),.cell Bp 5 (0:Int),.cell Bp 6 (.slice none 0 0),.cell Be 0 (0:Int),zAb a0 (t.dd x.X x.q) (x.q+1+1) c0,zAb a1 x.V (x.q+1+1) c1,zAb a3 x.GV (x.ns t) c3] _:=Held.pull (xs:=[.cell Bp 0 (.slice a0 (x.q+1+1) c0)]) H
      replace H:=Held.put17 H (.slice a1 (x.q+1+1) c1) hQ (zA1 (Or.inr zd) (zA1 (Or.inr zd) (zA1 (Or.inr zd) (zA1 (Or.inr zd) (zA1 (Or.inr zd) (zA1 (Or.inr zd) (zA1 (Or.inl neP.symm) (zA1 (Or.inr (fun W u ho h=>zA8 h ho (fun j hj e=>by cases e) u)) (zA1 (Or.inr (fun W u ho h=>zA8 h ho (fun j hj e=>by cases e) u)) (zA1 (Or.inr (fun W u ho h=>zA8 h ho (fun j hj e=>by cases e) u)) (fun f hf=>absurd hf (List.not_mem_nil))))))))))))
      replace OW:=ownsRow_setCell_below OW (a:=⟨Bp,1,none⟩) hN2 (.slice a1 (x.q+1+1) c1)
      replace H:Held w [.cell Bp 2 (.slice none 0 0),.cell Bp 1 (.slice a1 (x.q+1+1) c1),.cell Bp 0 (.slice a0 (x.q+1+1) c0),.cell Bp 3 false,.cell Bp 4 (0:Int),.cell Bp 5 (0:Int),.cell Bp 6 (.slice none 0 0),.cell Be 0 (0:Int),zAb a0 (t.dd x.X x.q) (x.q+1+1) c0,zAb a1 x.V (x.q+1+1) c1,zAb a3 x.GV (x.ns t) c3] _:=Held.pull (xs:=[.cell Bp 1 (.slice a1 (x.q+1+1) c1),.cell Bp 0 (.slice a0 (x.q+1+1) c0)]) H
      replace H:=Held.put17 H (.slice a2 (x.q+1) c2) hQ (zA1 (Or.inr zd) (zA1 (Or.inr zd) (zA1 (Or.inr zd) (zA1 (Or.inr zd) (zA1 (Or.inr zd) (zA1 (Or.inr zd) (zA1 (Or.inl neP.symm) (zA1 (Or.inr (fun W u ho h=>zA8 h ho (fun j hj e=>by cases e) u)) (zA1 (Or.inr (fun W u ho h=>zA8 h ho (fun j hj e=>by cases e) u)) (zA1 (Or.inr (fun W u ho h=>zA8 h ho (fun j hj e=>by cases e) u)) (fun f hf=>absurd hf (List.not_mem_nil))))))))))))
      replace OW:=ownsRow_setCell_below OW (a:=⟨Bp,2,none⟩) hN2 (.slice a2 (x.q+1) c2)
      replace H:Held w [.cell Bp 3 false,.cell Bp 2 (.slice a2 (x.q+1) c2),.cell Bp 1 (.slice a1 (x.q+1+1) c1),.cell Bp 0 (.slice a0 (x.q+1+1) c0),.cell Bp 4 (0:Int),.cell Bp 5 (0:Int),.cell Bp 6 (.slice none 0 0),.cell Be 0 (0:Int),zAb a0 (t.dd x.X x.q) (x.q+1+1) c0,zAb a1 x.V (x.q+1+1) c1,zAb a3 x.GV (x.ns t) c3] _:=Held.pull (xs:=[.cell Bp 2 (.slice a2 (x.q+1) c2),.cell Bp 1 (.slice a1 (x.q+1+1) c1),.cell Bp 0 (.slice a0 (x.q+1+1) c0)]) H
      replace H:=Held.put17 H t.eo hQ (zA1 (Or.inr zd) (zA1 (Or.inr zd) (zA1 (Or.inr zd) (zA1 (Or.inr zd) (zA1 (Or.inr zd) (zA1 (Or.inr zd) (zA1 (Or.inl neP.symm) (zA1 (Or.inr (fun W u ho h=>zA8 h ho (fun j hj e=>by cases e) u)) (zA1 (Or.inr (fun W u ho h=>zA8 h ho (fun j hj e=>by cases e) u)) (zA1 (Or.inr (fun W u ho h=>zA8 h ho (fun j hj e=>by cases e) u)) (fun f hf=>absurd hf (List.not_mem_nil))))))))))))
      replace OW:=ownsRow_setCell_below OW (a:=⟨Bp,3,none⟩) hN2 t.eo
      replace H:Held w [.cell Bp 4 (0:Int),.cell Bp 3 t.eo,.cell Bp 2 (.slice a2 (x.q+1) c2),.cell Bp 1 (.slice a1 (x.q+1+1) c1),.cell Bp 0 (.slice a0 (x.q+1+1) c0),.cell Bp 5 (0:Int),.cell Bp 6 (.slice none 0 0),.cell Be 0 (0:Int),zAb a0 (t.dd x.X x.q) (x.q+1+1) c0,zAb a1 x.V (x.q+1+1) c1,zAb a3 x.GV (x.ns t) c3] _:=Held.pull (xs:=[.cell Bp 3 t.eo,.cell Bp 2 (.slice a2 (x.q+1) c2),.cell Bp 1 (.slice a1 (x.q+1+1) c1),.cell Bp 0 (.slice a0 (x.q+1+1) c0)]) H
      replace H:=Held.put17 H (.int .i64 (x.V (x.q+1))) hQ (zA1 (Or.inr zd) (zA1 (Or.inr zd) (zA1 (Or.inr zd) (zA1 (Or.inr zd) (zA1 (Or.inr zd) (zA1 (Or.inr zd) (zA1 (Or.inl neP.symm) (zA1 (Or.inr (fun W u ho h=>zA8 h ho (fun j hj e=>by injection e with _ e;have:=hd0 j hj;omega) u)) (zA1 (Or.inr (fun W u ho h=>zA8 h ho (fun j hj e=>by injection e with _ e;have:=hd1 j hj;omega) u)) (zA1 (Or.inr (fun W u ho h=>zA8 h ho (fun j hj e=>by injection e with _ e;have:=hd3 j hj;omega) u)) (fun f hf=>absurd hf (List.not_mem_nil))))))))))))
      replace OW:=ownsRow_setCell_below OW (a:=⟨Bp,4,none⟩) hN2 (.int .i64 (x.V (x.q+1)))
      replace H:Held w [.cell Bp 5 (0:Int),.cell Bp 4 (.int .i64 (x.V (x.q+1))),.cell Bp 3 t.eo,.cell Bp 2 (.slice a2 (x.q+1) c2),.cell Bp 1 (.slice a1 (x.q+1+1) c1),.cell Bp 0 (.slice a0 (x.q+1+1) c0),.cell Bp 6 (.slice none 0 0),.cell Be 0 (0:Int),zAb a0 (t.dd x.X x.q) (x.q+1+1) c0,zAb a1 x.V (x.q+1+1) c1,zAb a3 x.GV (x.ns t) c3] _:=Held.pull (xs:=[.cell Bp 4 (.int .i64 (x.V (x.q+1))),.cell Bp 3 t.eo,.cell Bp 2 (.slice a2 (x.q+1) c2),.cell Bp 1 (.slice a1 (x.q+1+1) c1),.cell Bp 0 (.slice a0 (x.q+1+1) c0)]) H
      replace H:=Held.put17 H (fr t.ms) hQ (zA1 (Or.inr zd) (zA1 (Or.inr zd) (zA1 (Or.inr zd) (zA1 (Or.inr zd) (zA1 (Or.inr zd) (zA1 (Or.inr zd) (zA1 (Or.inl neP.symm) (zA1 (Or.inr (fun W u ho h=>zA8 h ho (fun j hj e=>by injection e with _ e;have:=hd0 j hj;omega) u)) (zA1 (Or.inr (fun W u ho h=>zA8 h ho (fun j hj e=>by injection e with _ e;have:=hd1 j hj;omega) u)) (zA1 (Or.inr (fun W u ho h=>zA8 h ho (fun j hj e=>by injection e with _ e;have:=hd3 j hj;omega) u)) (fun f hf=>absurd hf (List.not_mem_nil))))))))))))
      replace OW:=ownsRow_setCell_below OW (a:=⟨Bp,5,none⟩) hN2 (fr t.ms)
      replace H:Held w [.cell Bp 6 (.slice none 0 0),.cell Bp 5 (fr t.ms),.cell Bp 4 (.int .i64 (x.V (x.q+1))),.cell Bp 3 t.eo,.cell Bp 2 (.slice a2 (x.q+1) c2),.cell Bp 1 (.slice a1 (x.q+1+1) c1),.cell Bp 0 (.slice a0 (x.q+1+1) c0),.cell Be 0 (0:Int),zAb a0 (t.dd x.X x.q) (x.q+1+1) c0,zAb a1 x.V (x.q+1+1) c1,zAb a3 x.GV (x.ns t) c3] _:=Held.pull (xs:=[.cell Bp 5 (fr t.ms),.cell Bp 4 (.int .i64 (x.V (x.q+1))),.cell Bp 3 t.eo,.cell Bp 2 (.slice a2 (x.q+1) c2),.cell Bp 1 (.slice a1 (x.q+1+1) c1),.cell Bp 0 (.slice a0 (x.q+1+1) c0)]) H
      replace H:=Held.put17 H (.slice a3 (x.ns t) c3) hQ (zA1 (Or.inr zd) (zA1 (Or.inr zd) (zA1 (Or.inr zd) (zA1 (Or.inr zd) (zA1 (Or.inr zd) (zA1 (Or.inr zd) (zA1 (Or.inl neP.symm) (zA1 (Or.inr (fun W u ho h=>zA8 h ho (fun j hj e=>by cases e) u)) (zA1 (Or.inr (fun W u ho h=>zA8 h ho (fun j hj e=>by cases e) u)) (zA1 (Or.inr (fun W u ho h=>zA8 h ho (fun j hj e=>by cases e) u)) (fun f hf=>absurd hf (List.not_mem_nil))))))))))))
      replace OW:=ownsRow_setCell_below OW (a:=⟨Bp,6,none⟩) hN2 (.slice a3 (x.ns t) c3)
      have hBl:∀g,a2=some g→w.heap.size≤g.block:=fun g hg=>by
        subst hg
        have:=(World.ownsRow.lt OW g.block rfl).1
        omega
      obtain⟨a2',c2',e2,hrat⟩:=own_rats OW
      injection e2 with e2 _ e3
      subst e2 e3
      obtain⟨cp0,cp1,cp2,cp3,cp4,cp5,cp6⟩:=H.cells7 Bp
      have ce:=H.cell Be 0 _
      have lp:=zA0 cp0
      have hA:=H.days (ao:=a0) (X:=(t.dd x.X x.q)) (n:=(x.q+1+1)) (cap:=c0)
      have hA1:=H.days (ao:=a1) (X:=x.V) (n:=(x.q+1+1)) (cap:=c1)
      have hA3:=H.days (ao:=a3) (X:=x.GV) (n:=(x.ns t)) (cap:=c3)
      have hOld:=H.old
      clear H OW hd0 hd1 hd3 hnk hP hz1 hz2
      obtain⟨W9,hW9⟩:∃W9,(((((((V2.setCell ⟨Bp,0,none⟩ (.slice a0 (x.q+1+1) c0)).setCell ⟨Bp,1,none⟩ (.slice a1 (x.q+1+1) c1)).setCell ⟨Bp,2,none⟩ (.slice a2 (x.q+1) c2)).setCell ⟨Bp,3,none⟩ t.eo).setCell ⟨Bp,4,none⟩ (.int .i64 (x.V (x.q+1)))).setCell ⟨Bp,5,none⟩ (fr t.ms)).setCell ⟨Bp,6,none⟩ (.slice a3 (x.ns t) c3))=W9:=⟨_,rfl⟩
      rw[hW9] at cp0 cp1 cp2 cp3 cp4 cp5 cp6 ce lp hA hA1 hA3 hOld hrat ⊢
      clear hW9
      simp[Leaves,settle,results,Tryz.results26,go_sem,cp0,cp1,cp2,cp3,cp4,cp5,cp6,ce,lp]
      exact⟨zLi a0 a1 a2 a3 c0 c1 c2 c3 HX.out hA hA1 hrat hA3 hBl,hOld⟩
end Go.Proofs.YtpfgdfpaoldhcaaGreatDoor
