/- Several texts in one: ScTellsB. -/
import Derived.Test.YtpfgdfpaoldhcaaGreatDoorSuBM
import Derived.Test.YtpfgdfpaoldhcaaGreatDoorSvAB
set_option maxHeartbeats 8000000
set_option maxRecDepth 100000
set_option linter.unusedVariables false
set_option linter.unusedSimpArgs false
namespace Go.Proofs.YtpfgdfpaoldhcaaGreatDoor
open Go.RowKit
def OneB (e:Ending):Prop:=∃b,e=.returned (.bool b)
theorem OneB.of (b:Bool):OneB (.returned b):=⟨b,rfl⟩
theorem short16_some (t:Tm) (w:World):Calls Tryz.prog 25 #[.agg #[t.mo,t.ra,t.ki,t.co,t.st,t.en,t.ms,t.bk,t.lg,t.eo,t.ro],(60:Int)] w fun e w'=>OneB e∧Below w w w':=by
 have H:=Held.start w
 obtain⟨d,hd⟩:∃d,IntKind.i64.wrap (t.en-t.st)=d:=⟨_,rfl⟩
 go_enter Tryz.func25,Tryz.ntmps25
 by_cases hs:t.st≤t.en
 ·by_cases h:d≤1860
  ·skip
   have e1:decide (t.st≤t.en)=true:=decide_eq_true hs
   have e2:decide (d≤1860)=true:=decide_eq_true h
   clear hs h
   go_wp2
   go_ret
   exact⟨OneB.of _,(H.alloc _).old⟩
  ·skip
   have e1:decide (t.st≤t.en)=true:=decide_eq_true hs
   have e2:decide (d≤1860)=false:=decide_eq_false h
   clear hs h
   go_wp2
   go_ret
   exact⟨OneB.of _,(H.alloc _).old⟩
 ·by_cases h:d≤1860
  ·skip
   have e1:decide (t.st≤t.en)=false:=decide_eq_false hs
   have e2:decide (d≤1860)=true:=decide_eq_true h
   clear hs h
   go_wp2
   go_ret
   exact⟨OneB.of _,(H.alloc _).old⟩
  ·skip
   have e1:decide (t.st≤t.en)=false:=decide_eq_false hs
   have e2:decide (d≤1860)=false:=decide_eq_false h
   clear hs h
   go_wp2
   go_ret
   exact⟨OneB.of _,(H.alloc _).old⟩
theorem short17_bad (t:Tm) (c:Ca) (aR:Option Addr) (cR:Nat) (aD:Option Addr) (cD:Nat) (y:Int) (w:World) (hC:CalAt w c aR cR aD cD) (hF:decide (c.nr≤12∧c.nd≤60)=true) (hM:true=true↔c.May) (hc:t.code=y) (h0:y≠0):Calls Tryz.prog 10 #[.agg #[t.mo,t.ra,t.ki,t.co,t.st,t.en,t.ms,t.bk,t.lg,t.eo,t.ro],.agg #[(c.o 0),(c.o 1),(c.o 2),(c.o 3),(c.o 4),(c.o 5),(c.o 6),.slice aR c.nr cR,.slice aD c.nd cD],(60:Int)] w fun e w'=>e=.returned true∧Below w w w':=by
 have H:=(Held.start w).add (f:=calF c aR cR aD cD) hC
 have RM:=zh (fun v h=>zLo c aR cR aD cD true v h hM)
 have RF:=zh (fun v=>zKy c aR cR aD cD true v hF)
 have RC:=zh (fun v=>zEv t.mo t.ra t.ki t.co t.st t.en t.ms t.bk t.lg t.eo t.ro y v hc)
 have RS:=zh (fun v=>short16_some t v)
 have E0:Hid ((y != 0)=true):=zh (by simpa using h0)
 clear hc h0 hC hM hF
 go_enter Tryz.func10,Tryz.ntmps10
 go_wp2_with fail
 replace H:=H.box_11 w t.mo t.ra t.ki t.co t.st t.en t.ms t.bk t.lg t.eo t.ro 23 rfl
 replace H:=H.box_9 (w+1) (c.o 0) (c.o 1) (c.o 2) (c.o 3) (c.o 4) (c.o 5) (c.o 6) (.slice aR c.nr cR) (.slice aD c.nd cD) 28 zs
 revert H
 with_reducible refine zG (fun _=>RF.out _) ?_
 intro w1 H
 obtain⟨cc0,cc1,cc2,cc3,cc4,cc5,cc6,cc7,cc8⟩:=H.cells9 (w+1)
 have lc:=zA0 cc0
 go_wp2_with fail
 clear cc0 cc1 cc2 cc3 cc4 cc5 cc6 cc7 cc8 lc
 revert H
 with_reducible refine zG (fun H=>RM.out _ (H.cal (c:=c) (aR:=aR) (cR:=cR) (aD:=aD) (cD:=cD))) ?_
 intro w2 H
 obtain⟨ct0,ct1,ct2,ct3,ct4,ct5,ct6,ct7,ct8,ct9,ct10⟩:=H.cells11 w
 have lt:=zA0 ct0
 go_wp2_with fail
 clear ct0 ct1 ct2 ct3 ct4 ct5 ct6 ct7 ct8 ct9 ct10 lt
 revert H
 with_reducible refine zG (fun _=>RC.out _) ?_
 intro w3 H
 obtain⟨ct0,ct1,ct2,ct3,ct4,ct5,ct6,ct7,ct8,ct9,ct10⟩:=H.cells11 w
 have lt:=zA0 ct0
 go_wp2_with fail
 clear ct0 ct1 ct2 ct3 ct4 ct5 ct6 ct7 ct8 ct9 ct10 lt
 with_reducible refine (RS.out _).mono ?_
 rintro e w4 ⟨⟨b,rfl⟩,hb⟩
 replace H:=H.below hb
 clear hb
 have e0:=E0.out
 go_wp2
 go_ret
 exact⟨rfl,H.old⟩
theorem sctells_far (t:Tm) (c:Ca) (aR:Option Addr) (cR:Nat) (aD:Option Addr) (cD:Nat) (w:World) (hL:FactsS w) (hC:CalAt w c aR cR aD cD) (hsh:∀v,CalAt v c aR cR aD cD→Calls Tryz.prog 10 #[.agg #[t.mo,t.ra,t.ki,t.co,t.st,t.en,t.ms,t.bk,t.lg,t.eo,t.ro],.agg #[(c.o 0),(c.o 1),(c.o 2),(c.o 3),(c.o 4),(c.o 5),(c.o 6),.slice aR c.nr cR,.slice aD c.nd cD],(60:Int)] v fun e w'=>e=.returned false∧Below v v w'):Calls Tryz.prog 3 #[.agg #[t.mo,t.ra,t.ki,t.co,t.st,t.en,t.ms,t.bk,t.lg,t.eo,t.ro],.agg #[(c.o 0),(c.o 1),(c.o 2),(c.o 3),(c.o 4),(c.o 5),(c.o 6),.slice aR c.nr cR,.slice aD c.nd cD]] w fun e w'=>e=.returned true∧Below w w w':=by
 have H:=((Held.start w).add (f:=zAg) hL).add (f:=calF c aR cR aD cD) hC
 have SHT:=zh hsh
 clear hL hC hsh
 go_enter Tryz.func3,Tryz.ntmps3
 go_wp2_with fail
 replace H:=H.box_11 w t.mo t.ra t.ki t.co t.st t.en t.ms t.bk t.lg t.eo t.ro 23 rfl
 replace H:=H.box_9 (w+1) (c.o 0) (c.o 1) (c.o 2) (c.o 3) (c.o 4) (c.o 5) (c.o 6) (.slice aR c.nr cR) (.slice aD c.nd cD) 28 zs
 revert H
 with_reducible refine zG (fun H=>zD0 _ (H.factsS)) ?_
 intro w1 H
 obtain⟨ct0,ct1,ct2,ct3,ct4,ct5,ct6,ct7,ct8,ct9,ct10⟩:=H.cells11 w
 have lt:=zA0 ct0
 obtain⟨cc0,cc1,cc2,cc3,cc4,cc5,cc6,cc7,cc8⟩:=H.cells9 (w+1)
 have lc:=zA0 cc0
 go_wp2_with fail
 clear ct0 ct1 ct2 ct3 ct4 ct5 ct6 ct7 ct8 ct9 ct10 lt cc0 cc1 cc2 cc3 cc4 cc5 cc6 cc7 cc8 lc
 revert H
 with_reducible refine zG (fun H=>SHT.out _ (H.cal (c:=c) (aR:=aR) (cR:=cR) (aD:=aD) (cD:=cD))) ?_
 intro w2 H
 go_wp2
 go_ret
 exact⟨rfl,H.old⟩
theorem sctells_main (t:Tm) (c:Ca) (aR:Option Addr) (cR:Nat) (aD:Option Addr) (cD:Nat) (x:Pl) (w:World) (hL:FactsS w) (hC:CalAt w c aR cR aD cD) (hF:c.Few) (hM:c.May) (hx:PlanIs t c x) (hS:t.code=0→x.Short) (hsh:∀v,CalAt v c aR cR aD cD→Calls Tryz.prog 10 #[.agg #[t.mo,t.ra,t.ki,t.co,t.st,t.en,t.ms,t.bk,t.lg,t.eo,t.ro],.agg #[(c.o 0),(c.o 1),(c.o 2),(c.o 3),(c.o 4),(c.o 5),(c.o 6),.slice aR c.nr cR,.slice aD c.nd cD],(60:Int)] v fun e w'=>e=.returned true∧Below v v w'):Calls Tryz.prog 3 #[.agg #[t.mo,t.ra,t.ki,t.co,t.st,t.en,t.ms,t.bk,t.lg,t.eo,t.ro],.agg #[(c.o 0),(c.o 1),(c.o 2),(c.o 3),(c.o 4),(c.o 5),(c.o 6),.slice aR c.nr cR,.slice aD c.nd cD]] w fun e w'=>e=.returned true∧Below w w w':=by
 have H:=((Held.start w).add (f:=zAg) hL).add (f:=calF c aR cR aD cD) hC
 have SHT:=zh hsh
 have O1:Hid (∀v,FactsS v→CalAt v c aR cR aD cD→Calls Tryz.prog 11 #[.agg #[t.mo,t.ra,t.ki,t.co,t.st,t.en,t.ms,t.bk,t.lg,t.eo,t.ro],.agg #[(c.o 0),(c.o 1),(c.o 2),(c.o 3),(c.o 4),(c.o 5),(c.o 6),.slice aR c.nr cR,.slice aD c.nd cD]] v fun e w'=>PlanOut x t v.heap.size e w'∧Below v v w'):=zh (fun v h g=>zIv t c aR cR aD cD x v h g hM hx hS)
 have O2:Hid (∀v,CalAt v c aR cR aD cD→Calls Tryz.prog 12 #[.agg #[t.mo,t.ra,t.ki,t.co,t.st,t.en,t.ms,t.bk,t.lg,t.eo,t.ro],.agg #[(c.o 0),(c.o 1),(c.o 2),(c.o 3),(c.o 4),(c.o 5),(c.o 6),.slice aR c.nr cR,.slice aD c.nd cD]] v fun e w'=>PlanOut x t v.heap.size e w'∧Below v v w'):=zh (fun v g=>by
  by_cases hc:t.code=0
  ·exact rof17_yes t c aR cR aD cD x v g hc hF hM hx (hS hc)
  ·exact rof17_no t c aR cR aD cD x _ v g rfl hc)
 have n1:x.n t≤2000:=by
  unfold Pl.n
  split
  ·next h=>have:=(hS (Pl.good h).1).q;omega
  ·omega
 have n2:x.np t≤2000:=by
  unfold Pl.np
  split
  ·next h=>have:=(hS (Pl.good h).1).q;omega
  ·omega
 have n3:x.ng t≤2000:=by
  unfold Pl.ng Pl.ns
  split
  ·next h=>have:=(hS (Pl.good h).1).k;split <;> omega
  ·omega
 obtain⟨y,hy⟩:∃y,x.code t=y:=⟨_,rfl⟩
 obtain⟨N1,hN1⟩:∃z,x.n t=z:=⟨_,rfl⟩
 obtain⟨N2,hN2⟩:∃z,x.np t=z:=⟨_,rfl⟩
 obtain⟨N3,hN3⟩:∃z,x.ng t=z:=⟨_,rfl⟩
 obtain⟨eo,heo⟩:∃z,x.eo t=z:=⟨_,rfl⟩
 obtain⟨en,hen⟩:∃z,x.en t=z:=⟨_,rfl⟩
 obtain⟨fq,hfq⟩:∃z,x.f t=z:=⟨_,rfl⟩
 have PX:Hid (∀n0 e W,PlanOut x t n0 e W→∃a0 a1 a2 a3 c0 c1 c2 c3,e=.returned (.tuple #[.agg #[.slice a0 N1 c0,.slice a1 N1 c1,.slice a2 N2 c2,eo,en,fq,.slice a3 N3 c3],.int .i64 y])∧DaysAt W a0 (t.dd x.X x.q) N1 c0∧DaysAt W a1 x.V N1 c1∧RatAt W a2 x.P x.Q N2 c2∧DaysAt W a3 x.GV N3 c3):=zh (fun n0 e W h=>by
  obtain⟨a0,a1,a2,a3,c0,c1,c2,c3,h0,h1,h2,h3,h4,-⟩:=h
  rw[hN1,hN2,hN3,heo,hen,hfq,hy] at h0
  rw[hN1] at h1 h2
  rw[hN2] at h3
  rw[hN3] at h4
  exact⟨a0,a1,a2,a3,c0,c1,c2,c3,h0,h1,h2,h3,h4⟩)
 rw[hN1] at n1
 rw[hN2] at n2
 rw[hN3] at n3
 have E0:Hid ((y==y)=true):=zh zs
 clear hF hM hx hS hy hN1 hN2 hN3 heo hen hfq
 clear hL hC hsh
 go_enter Tryz.func3,Tryz.ntmps3
 go_wp2_with fail
 replace H:=H.box_11 w t.mo t.ra t.ki t.co t.st t.en t.ms t.bk t.lg t.eo t.ro 23 rfl
 replace H:=H.box_9 (w+1) (c.o 0) (c.o 1) (c.o 2) (c.o 3) (c.o 4) (c.o 5) (c.o 6) (.slice aR c.nr cR) (.slice aD c.nd cD) 28 zs
 revert H
 with_reducible refine zG (fun H=>zD0 _ (H.factsS)) ?_
 intro w1 H
 obtain⟨ct0,ct1,ct2,ct3,ct4,ct5,ct6,ct7,ct8,ct9,ct10⟩:=H.cells11 w
 have lt:=zA0 ct0
 obtain⟨cc0,cc1,cc2,cc3,cc4,cc5,cc6,cc7,cc8⟩:=H.cells9 (w+1)
 have lc:=zA0 cc0
 go_wp2_with fail
 clear ct0 ct1 ct2 ct3 ct4 ct5 ct6 ct7 ct8 ct9 ct10 lt cc0 cc1 cc2 cc3 cc4 cc5 cc6 cc7 cc8 lc
 revert H
 with_reducible refine zG (fun H=>SHT.out _ (H.cal (c:=c) (aR:=aR) (cR:=cR) (aD:=aD) (cD:=cD))) ?_
 intro w2 H
 obtain⟨ct0,ct1,ct2,ct3,ct4,ct5,ct6,ct7,ct8,ct9,ct10⟩:=H.cells11 w
 have lt:=zA0 ct0
 obtain⟨cc0,cc1,cc2,cc3,cc4,cc5,cc6,cc7,cc8⟩:=H.cells9 (w+1)
 have lc:=zA0 cc0
 go_wp2_with fail
 clear ct0 ct1 ct2 ct3 ct4 ct5 ct6 ct7 ct8 ct9 ct10 lt cc0 cc1 cc2 cc3 cc4 cc5 cc6 cc7 cc8 lc
 with_reducible refine (O1.out _ (H.factsS) (H.cal (c:=c) (aR:=aR) (cR:=cR) (aD:=aD) (cD:=cD))).mono ?_
 rintro e w3 ⟨hp,hb⟩
 obtain⟨a0,a1,a2,a3,p0,p1,p2,p3,rfl,hd0,hd1,hd2,hd3⟩:=PX.out _ _ _ hp
 replace H:=((((H.below hb).add (f:=zAb a0 (t.dd x.X x.q) N1 p0) hd0).add (f:=zAb a1 x.V N1 p1) hd1).add (f:=ratF a2 x.P x.Q N2 p2) hd2).add (f:=zAb a3 x.GV N3 p3) hd3
 clear hb hp hd0 hd1 hd2 hd3
 go_upto_region 5 with fail
 replace H:=H.box_7 w3 (.slice a0 N1 p0) (.slice a1 N1 p1) (.slice a2 N2 p2) eo en fq (.slice a3 N3 p3) 35 rfl
 revert H
 generalize World.alloc _ _=W5
 intro H
 obtain⟨ct0,ct1,ct2,ct3,ct4,ct5,ct6,ct7,ct8,ct9,ct10⟩:=H.cells11 w
 have lt:=zA0 ct0
 obtain⟨cc0,cc1,cc2,cc3,cc4,cc5,cc6,cc7,cc8⟩:=H.cells9 (w+1)
 have lc:=zA0 cc0
 go_wp2_with fail
 clear ct0 ct1 ct2 ct3 ct4 ct5 ct6 ct7 ct8 ct9 ct10 lt cc0 cc1 cc2 cc3 cc4 cc5 cc6 cc7 cc8 lc
 with_reducible refine (O2.out _ (H.cal (c:=c) (aR:=aR) (cR:=cR) (aD:=aD) (cD:=cD))).mono ?_
 rintro e w4 ⟨hp,hb⟩
 obtain⟨b0,b1,b2,b3,q0,q1,q2,q3,rfl,hd0,hd1,hd2,hd3⟩:=PX.out _ _ _ hp
 replace H:=((((H.below hb).add (f:=zAb b0 (t.dd x.X x.q) N1 q0) hd0).add (f:=zAb b1 x.V N1 q1) hd1).add (f:=ratF b2 x.P x.Q N2 q2) hd2).add (f:=zAb b3 x.GV N3 q3) hd3
 clear hb hp hd0 hd1 hd2 hd3
 go_upto_region 6 with fail
 replace H:=H.box_7 w4 (.slice b0 N1 q0) (.slice b1 N1 q1) (.slice b2 N2 q2) eo en fq (.slice b3 N3 q3) 35 rfl
 revert H
 generalize World.alloc _ _=W6
 intro H
 obtain⟨cp0,cp1,cp2,cp3,cp4,cp5,cp6⟩:=H.cells7 w3
 have lp:=zA0 cp0
 obtain⟨cq0,cq1,cq2,cq3,cq4,cq5,cq6⟩:=H.cells7 w4
 have lq:=zA0 cq0
 go_wp2_with fail
 clear cp0 cp1 cp2 cp3 cp4 cp5 cp6 lp cq0 cq1 cq2 cq3 cq4 cq5 cq6 lq
 revert H
 with_reducible refine zG (fun H=>same_yes a0 a1 a2 a3 b0 b1 b2 b3 N1 N2 N3 p0 p1 p2 p3 q0 q1 q2 q3 eo en fq (t.dd x.X x.q) x.V x.GV x.P x.Q (t.dd x.X x.q) x.V x.GV x.P x.Q _ n1 n2 n3 (H.days (ao:=a0) (X:=(t.dd x.X x.q)) (n:=N1) (cap:=p0)) (H.days (ao:=a1) (X:=x.V) (n:=N1) (cap:=p1)) (H.rat (ao:=a2) (P:=x.P) (Q:=x.Q) (n:=N2) (cap:=p2)) (H.days (ao:=a3) (X:=x.GV) (n:=N3) (cap:=p3)) (H.days (ao:=b0) (X:=(t.dd x.X x.q)) (n:=N1) (cap:=q0)) (H.days (ao:=b1) (X:=x.V) (n:=N1) (cap:=q1)) (H.rat (ao:=b2) (P:=x.P) (Q:=x.Q) (n:=N2) (cap:=q2)) (H.days (ao:=b3) (X:=x.GV) (n:=N3) (cap:=q3)) (fun _ _=>rfl) (fun _ _=>rfl) (fun _ _=>⟨rfl,rfl⟩) (fun _ _=>rfl)) ?_
 intro w5 H
 have e0:=E0.out
 go_wp2
 go_ret
 exact⟨rfl,H.old⟩
theorem sctells_walk (t:Tm) (c:Ca) (aR:Option Addr) (cR:Nat) (aD:Option Addr) (cD:Nat) (w:World) (hL:FactsS w) (hC:CalAt w c aR cR aD cD):Calls Tryz.prog 3 #[.agg #[t.mo,t.ra,t.ki,t.co,t.st,t.en,t.ms,t.bk,t.lg,t.eo,t.ro],.agg #[(c.o 0),(c.o 1),(c.o 2),(c.o 3),(c.o 4),(c.o 5),(c.o 6),.slice aR c.nr cR,.slice aD c.nd cD]] w fun e w'=>e=.returned true∧Below w w w':=by
 obtain⟨bM,hM⟩:=zQ3 c.May
 by_cases hF:c.nr≤12∧c.nd≤60
 ·cases bM
  ·exact sctells_far t c aR cR aD cD w hL hC (fun v g=>zM4 t c aR cR aD cD 60 false v g (decide_eq_true hF) hM)
  ·by_cases hc:t.code=0
   ·by_cases h:t.en-t.st≤31*60
    ·obtain⟨x,hx,hS⟩:=plan_is t c (fun _=>by omega)
     exact sctells_main t c aR cR aD cD x w hL hC hF (hM.1 rfl) hx hS (fun v g=>zEe t c aR cR aD cD 60 true v g hc zo ⟨fun _=>⟨hF,hM.1 rfl,h⟩,fun _=>rfl⟩)
    ·exact sctells_far t c aR cR aD cD w hL hC (fun v g=>zEe t c aR cR aD cD 60 false v g hc zo ⟨fun k=>(by cases k),fun k=>absurd k.2.2 h⟩)
   ·obtain⟨x,hx,hS⟩:=plan_is t c (fun k=>absurd k hc)
    exact sctells_main t c aR cR aD cD x w hL hC hF (hM.1 rfl) hx hS (fun v g=>short17_bad t c aR cR aD cD _ v g (decide_eq_true hF) hM rfl hc)
 ·exact sctells_far t c aR cR aD cD w hL hC (fun v g=>zM3 t c aR cR aD cD bM 60 false v g (decide_eq_false hF) hM)
end Go.Proofs.YtpfgdfpaoldhcaaGreatDoor
