/- Several texts in one: ScOf, GIcR, CoRef, ScRofA. -/
import Derived.Test.YtpfgdfpaoldhcaaGreatDoorSuBK
import Derived.Test.YtpfgdfpaoldhcaaGreatDoorSuBB
set_option maxHeartbeats 8000000
set_option maxRecDepth 100000
set_option linter.unusedVariables false
set_option linter.unusedSimpArgs false
namespace Go.Proofs.YtpfgdfpaoldhcaaGreatDoor
open Go.RowKit
theorem RatAt.set {W:World} {ao:Option Addr} {P Q:Nat→Int} {n cap B o:Nat} (h:RatAt W ao P Q n cap) (hne:∀g,ao=some g→g.block≠B) (u:Value):RatAt (W.setCell ⟨B,o,none⟩ u) ao P Q n cap:=
 ⟨h.1,fun hn=>by
  obtain⟨b,off,e,hc⟩:=h.2 hn
  have:=hne _ e
  exact⟨b,off,e,fun j hj=>⟨zA3 (hc j hj).1 (Or.inl this) u,zA3 (hc j hj).2 (Or.inl this) u⟩⟩⟩
theorem PlanIs.pos {t:Tm} {c:Ca} {x:Pl} (h:PlanIs t c x):(∀j,j<x.n t→1≤t.dd x.X x.q j)∧(∀j,j<x.n t→1≤x.V j)∧∀j,j<x.ng t→1≤x.GV j:=by
 by_cases hx:x.code t=0
 ·obtain⟨hc,h1,h2,-⟩:=Pl.good hx
  have hn:x.n t=x.q+1+1:=by unfold Pl.n;rw[if_pos hx]
  have hg:x.ng t=x.ns t:=by unfold Pl.ng;rw[if_pos hx]
  have hk:x.ns t≤x.K:=by unfold Pl.ns;split <;> omega
  rw[hn,hg]
  refine⟨fun j hj=>(h.dday hc zo).1,fun j hj=>?_,fun j hj=>?_⟩
  ·have g:=h.roll j zo
   rw[h1 j zo] at g
   exact g.day
  ·have g:=h.grid j zo
   rw[h2 j hj] at g
   exact g.day
 ·have hn:x.n t=0:=by unfold Pl.n;rw[if_neg hx]
  have hg:x.ng t=0:=by unfold Pl.ng;rw[if_neg hx]
  rw[hn,hg]
  exact⟨fun j hj=>absurd hj (Nat.not_lt_zero j),fun j hj=>absurd hj (Nat.not_lt_zero j),fun j hj=>absurd hj (Nat.not_lt_zero j)⟩
theorem zIv (t:Tm) (c:Ca) (aR:Option Addr) (cR:Nat) (aD:Option Addr) (cD:Nat) (x:Pl) (w:World) (hF:FactsS w) (hC:CalAt w c aR cR aD cD) (hM:c.May) (hP:PlanIs t c x) (hS:t.code=0→x.Short):Calls Tryz.prog 11 #[.agg #[t.mo,t.ra,t.ki,t.co,t.st,t.en,t.ms,t.bk,t.lg,t.eo,t.ro],.agg #[(c.o 0),(c.o 1),(c.o 2),(c.o 3),(c.o 4),(c.o 5),(c.o 6),.slice aR c.nr cR,.slice aD c.nd cD]] w fun e w'=>PlanOut x t w.heap.size e w'∧Below w w w':=by
 have H:=((Held.start w).add (f:=zAg) hF).add (f:=calF c aR cR aD cD) hC
 have LA:=zh (fun v h1 h2=>slay_any t c aR cR aD cD x v h1 h2 hM hP hS)
 obtain⟨p0,p1,p3⟩:=hP.pos
 clear hF hC hM hP hS
 go_enter Tryz.func11,Tryz.ntmps11
 go_wp2_with fail
 replace H:=H.alloc (.cells #[t.mo,t.ra,t.ki,t.co,t.st,t.en,t.ms,t.bk,t.lg,t.eo,t.ro] 23)
 replace H:=H.alloc (.cells #[(c.o 0),(c.o 1),(c.o 2),(c.o 3),(c.o 4),(c.o 5),(c.o 6),.slice aR c.nr cR,.slice aD c.nd cD] 28)
 replace H:=H.box_7 (w+2) (.slice none 0 0) (.slice none 0 0) (.slice none 0 0) false (0:Int) (0:Int) (.slice none 0 0) 35 zs
 with_reducible refine (LA.out _ (H.factsS) (H.cal (c:=c) (aR:=aR) (cR:=cR) (aD:=aD) (cD:=cD))).mono ?_
 rintro e w1 ⟨⟨a0,a1,a2,a3,c0,c1,c2,c3,rfl,hd0,hd1,hd2,hd3,hbl⟩,hb⟩
 replace H:=H.below hb
 have hne:∀g,a2=some g→g.block≠w.heap.size+2:=fun g hg=>by have:=hbl g hg;simp at this;omega
 have hbl2:∀g,a2=some g→w.heap.size≤g.block:=fun g hg=>by have:=hbl g hg;simp at this;omega
 clear hb LA hbl
 have k0:=H.cell (w+2) 0 _
 have f0:=H.frozen (w+2) 0
 have k1:=H.cell (w+2) 1 _
 have f1:=H.frozen (w+2) 1
 have k2:=H.cell (w+2) 2 _
 have f2:=H.frozen (w+2) 2
 have k3:=H.cell (w+2) 3 _
 have f3:=H.frozen (w+2) 3
 have k4:=H.cell (w+2) 4 _
 have f4:=H.frozen (w+2) 4
 have k5:=H.cell (w+2) 5 _
 have f5:=H.frozen (w+2) 5
 have k6:=H.cell (w+2) 6 _
 have f6:=H.frozen (w+2) 6
 have lk:=zA0 k0
 replace hd0:=zA8 hd0 k0 (fun j hj e=>by cases e) (.slice a0 (x.n t) c0)
 replace hd0:=zA8 hd0 (zA3 k1 (Or.inr zd) _) (fun j hj e=>by cases e) (.slice a1 (x.n t) c1)
 replace hd0:=zA8 hd0 (zA3 (zA3 k2 (Or.inr zd) _) (Or.inr zd) _) (fun j hj e=>by cases e) (.slice a2 (x.np t) c2)
 replace hd0:=zA8 hd0 (zA3 (zA3 (zA3 k3 (Or.inr zd) _) (Or.inr zd) _) (Or.inr zd) _) (fun j hj e=>by cases e) (x.eo t)
 replace hd0:=zA8 hd0 (zA3 (zA3 (zA3 (zA3 k4 (Or.inr zd) _) (Or.inr zd) _) (Or.inr zd) _) (Or.inr zd) _) (fun j hj e=>by injection e with _ e;have:=p0 j hj;omega) (x.en t)
 replace hd0:=zA8 hd0 (zA3 (zA3 (zA3 (zA3 (zA3 k5 (Or.inr zd) _) (Or.inr zd) _) (Or.inr zd) _) (Or.inr zd) _) (Or.inr zd) _) (fun j hj e=>by injection e with _ e;have:=p0 j hj;omega) (x.f t)
 replace hd0:=zA8 hd0 (zA3 (zA3 (zA3 (zA3 (zA3 (zA3 k6 (Or.inr zd) _) (Or.inr zd) _) (Or.inr zd) _) (Or.inr zd) _) (Or.inr zd) _) (Or.inr zd) _) (fun j hj e=>by cases e) (.slice a3 (x.ng t) c3)
 replace hd1:=zA8 hd1 k0 (fun j hj e=>by cases e) (.slice a0 (x.n t) c0)
 replace hd1:=zA8 hd1 (zA3 k1 (Or.inr zd) _) (fun j hj e=>by cases e) (.slice a1 (x.n t) c1)
 replace hd1:=zA8 hd1 (zA3 (zA3 k2 (Or.inr zd) _) (Or.inr zd) _) (fun j hj e=>by cases e) (.slice a2 (x.np t) c2)
 replace hd1:=zA8 hd1 (zA3 (zA3 (zA3 k3 (Or.inr zd) _) (Or.inr zd) _) (Or.inr zd) _) (fun j hj e=>by cases e) (x.eo t)
 replace hd1:=zA8 hd1 (zA3 (zA3 (zA3 (zA3 k4 (Or.inr zd) _) (Or.inr zd) _) (Or.inr zd) _) (Or.inr zd) _) (fun j hj e=>by injection e with _ e;have:=p1 j hj;omega) (x.en t)
 replace hd1:=zA8 hd1 (zA3 (zA3 (zA3 (zA3 (zA3 k5 (Or.inr zd) _) (Or.inr zd) _) (Or.inr zd) _) (Or.inr zd) _) (Or.inr zd) _) (fun j hj e=>by injection e with _ e;have:=p1 j hj;omega) (x.f t)
 replace hd1:=zA8 hd1 (zA3 (zA3 (zA3 (zA3 (zA3 (zA3 k6 (Or.inr zd) _) (Or.inr zd) _) (Or.inr zd) _) (Or.inr zd) _) (Or.inr zd) _) (Or.inr zd) _) (fun j hj e=>by cases e) (.slice a3 (x.ng t) c3)
 replace hd3:=zA8 hd3 k0 (fun j hj e=>by cases e) (.slice a0 (x.n t) c0)
 replace hd3:=zA8 hd3 (zA3 k1 (Or.inr zd) _) (fun j hj e=>by cases e) (.slice a1 (x.n t) c1)
 replace hd3:=zA8 hd3 (zA3 (zA3 k2 (Or.inr zd) _) (Or.inr zd) _) (fun j hj e=>by cases e) (.slice a2 (x.np t) c2)
 replace hd3:=zA8 hd3 (zA3 (zA3 (zA3 k3 (Or.inr zd) _) (Or.inr zd) _) (Or.inr zd) _) (fun j hj e=>by cases e) (x.eo t)
 replace hd3:=zA8 hd3 (zA3 (zA3 (zA3 (zA3 k4 (Or.inr zd) _) (Or.inr zd) _) (Or.inr zd) _) (Or.inr zd) _) (fun j hj e=>by injection e with _ e;have:=p3 j hj;omega) (x.en t)
 replace hd3:=zA8 hd3 (zA3 (zA3 (zA3 (zA3 (zA3 k5 (Or.inr zd) _) (Or.inr zd) _) (Or.inr zd) _) (Or.inr zd) _) (Or.inr zd) _) (fun j hj e=>by injection e with _ e;have:=p3 j hj;omega) (x.f t)
 replace hd3:=zA8 hd3 (zA3 (zA3 (zA3 (zA3 (zA3 (zA3 k6 (Or.inr zd) _) (Or.inr zd) _) (Or.inr zd) _) (Or.inr zd) _) (Or.inr zd) _) (Or.inr zd) _) (fun j hj e=>by cases e) (.slice a3 (x.ng t) c3)
 replace hd2:=hd2.set (B:=w.heap.size+2) (o:=0) hne (.slice a0 (x.n t) c0)
 replace hd2:=hd2.set (B:=w.heap.size+2) (o:=1) hne (.slice a1 (x.n t) c1)
 replace hd2:=hd2.set (B:=w.heap.size+2) (o:=2) hne (.slice a2 (x.np t) c2)
 replace hd2:=hd2.set (B:=w.heap.size+2) (o:=3) hne (x.eo t)
 replace hd2:=hd2.set (B:=w.heap.size+2) (o:=4) hne (x.en t)
 replace hd2:=hd2.set (B:=w.heap.size+2) (o:=5) hne (x.f t)
 replace hd2:=hd2.set (B:=w.heap.size+2) (o:=6) hne (.slice a3 (x.ng t) c3)
 have hO:Below w w (((((((w1.setCell ⟨w+2,0,none⟩ (.slice a0 (x.n t) c0)).setCell ⟨w+2,1,none⟩ (.slice a1 (x.n t) c1)).setCell ⟨w+2,2,none⟩ (.slice a2 (x.np t) c2)).setCell ⟨w+2,3,none⟩ (x.eo t)).setCell ⟨w+2,4,none⟩ (x.en t)).setCell ⟨w+2,5,none⟩ (x.f t)).setCell ⟨w+2,6,none⟩ (.slice a3 (x.ng t) c3)):=(((((((H.old.setCell (p:=⟨w+2,0,none⟩) zs (.slice a0 (x.n t) c0)).setCell (p:=⟨w+2,1,none⟩) zs (.slice a1 (x.n t) c1)).setCell (p:=⟨w+2,2,none⟩) zs (.slice a2 (x.np t) c2)).setCell (p:=⟨w+2,3,none⟩) zs (x.eo t)).setCell (p:=⟨w+2,4,none⟩) zs (x.en t)).setCell (p:=⟨w+2,5,none⟩) zs (x.f t)).setCell (p:=⟨w+2,6,none⟩) zs (.slice a3 (x.ng t) c3))
 have HD0:=zh hd0
 have HD1:=zh hd1
 have HD2:=zh hd2
 have HD3:=zh hd3
 have HO:=zh hO
 have HBL:=zh hbl2
 clear H hd0 hd1 hd2 hd3 hO p0 p1 p3 hne hbl2
 go_wp2
 refine bodyPost_ret (v:=.tuple #[.agg #[.slice a0 (x.n t) c0,.slice a1 (x.n t) c1,.slice a2 (x.np t) c2,(x.eo t),(x.en t),(x.f t),.slice a3 (x.ng t) c3],(x.code t)]) (by simp[results,Tryz.results11,go_sem,k0,k1,k2,k3,k4,k5,k6,lk]) rfl ⟨⟨a0,a1,a2,a3,c0,c1,c2,c3,rfl,HD0.out,HD1.out,HD2.out,HD3.out,HBL.out⟩,HO.out⟩
theorem zEz (n d p q c:Int) (w:World) (n0:0≤n) (n1:n<9223372036854775808) (d0:0<d) (d1:d<9223372036854775808) (h:rN n d=p∧rD n d=q∧rE n d=c) :
  Calls Tryz.prog 70 #[n,d] w fun e w'=>e=.returned (.tuple #[.agg #[p,q],c])∧Below w w w':=by
 obtain⟨rfl,rfl,rfl⟩:=h;exact zDt n d w n0 n1 d0 d1
theorem zEy (an ad bn bd p q c:Int) (w:World) (ha:zAi an ad=true) (hb:zAi bn bd=true) (h:rN (an*bd+bn*ad) (ad*bd)=p∧rD (an*bd+bn*ad) (ad*bd)=q∧rE (an*bd+bn*ad) (ad*bd)=c) :
  Calls Tryz.prog 18 #[.agg #[an,ad],.agg #[bn,bd]] w fun e w'=>e=.returned (.tuple #[.agg #[p,q],c])∧Below w w w':=by
 obtain⟨rfl,rfl,rfl⟩:=h;exact zHu an ad bn bd w ha hb
theorem zG1 (X:Nat→Int) (f a b:Int) (k:Nat) (hf:1≤f∧f≤12) (hab:a≤b) (hX:Rising X (k+2)) (hk:k≤1203) (hd:0<zAs a b (X k) (X (k+1))) :
  ∃p1 q1:Int,(rN (zAs a b (X k) (X (k+1))) (f*(X (k+1)-X k))=p1∧rD (zAs a b (X k) (X (k+1))) (f*(X (k+1)-X k))=q1∧rE (zAs a b (X k) (X (k+1))) (f*(X (k+1)-X k))=0) ∧
   zAi p1 q1=true∧zAi (vP X k f a b).num (vP X k f a b).den=true ∧
   rN ((vP X k f a b).num*q1+p1*(vP X k f a b).den) ((vP X k f a b).den*q1)=(vP X (k+1) f a b).num∧rD ((vP X k f a b).num*q1+p1*(vP X k f a b).den) ((vP X k f a b).den*q1)=(vP X (k+1) f a b).den ∧
   rE ((vP X k f a b).num*q1+p1*(vP X k f a b).den) ((vP X k f a b).den*q1)=0:=by
 have hle:=hX.2 k zo
 have b0:=hX.1 k zo
 have b1:=hX.1 (k+1) zo
 obtain⟨z,k1,_⟩:=zJb hab hle hd
 have hh:0<zAs a b (X k) (X (k+1))∧zAs a b (X k) (X (k+1))≤X (k+1)-X k∧X (k+1)-X k≤3652058:=⟨hd,k1,zo⟩
 have hr:=zH0 f ⟨(zAs a b (X k) (X (k+1)),X (k+1)-X k),hh⟩ hf
 have hs:=zG3 f ⟨(zAs a b (X k) (X (k+1)),X (k+1)-X k),hh⟩ hf
 have sb:=zG2 f ⟨(zAs a b (X k) (X (k+1)),X (k+1)-X k),hh⟩ hf
 have hv:=zG5 X k f a b (hX.less zo) zo hf hab
 have hv':=zG5 X (k+1) f a b hX zo hf hab
 dsimp only at hr hs sb
 refine⟨_,_,⟨rfl,rfl,?_⟩,hr,hv,?_⟩
 ·refine (zCo ((zCa _ _).2 ?_)).2.2
  have:=m_le (zAs a b (X k) (X (k+1))) (f*(X (k+1)-X k)) zo zo
  omega
 ·rw[zH7,zHw f a b _ _ hf hab hle hd] at hv' ⊢
  rw[hs.1,hs.2] at hr ⊢
  have:=add_is _ _ hv hr hv'
  exact⟨this.1,this.2.1,this.2.2⟩
theorem zEx (X:Nat→Int) (f a b:Int) (k:Nat) (hab:a≤b) (hX:Rising X (k+2)) (hd:¬0<zAs a b (X k) (X (k+1))):vP X (k+1) f a b=vP X k f a b:=by
 rw[zH7,dy_no hab (hX.2 k zo) hd]
 simp[Rat.div_def,Rat.add_zero,Rat.zero_mul]
theorem zqg0k {P:Prop} (h:P:=by
 go_enter Tryz.func50,Tryz.ntmps50
 go_wp2_with fail
 replace H:=H.pair w (0:Int) (0:Int) 48 rfl
 with_reducible refine (D0.out _).mono ?_
 rintro e w1 ⟨rfl,rfl⟩
 go_wp2_with fail
 with_reducible refine (D1.out _).mono ?_
 rintro e w1 ⟨rfl,rfl⟩
 obtain⟨cz0,cz1⟩:=H.cells2 w
 obtain⟨fz0,fz1⟩:=H.frozens2 w
 have lz:=zA0 cz0
 have HK:=H.old
 clear H
 go_wp2_with fail
 exact bodyPost_ret (v:=.tuple #[.agg #[(0:Int),(0:Int)],(3:Int)]) (by simp[results,Tryz.results50,go_sem,cz0,cz1,lz]) rfl ⟨rfl,by repeat (first | exact HK | refine Below.drew ?_ | refine Below.setCell ?_ zw _ | refine Below.alloc ?_ zw _)⟩):P:=h
theorem zOy (a b:Int) (ao:Option Addr) (n cap:Nat) (X:Nat→Int) (f:Int) (w:World) (hn:n≤100) (hR:RowAt w ao X n cap) (hd:a<1∨3652059<a) :
  Calls Tryz.prog 50 #[a,b,.slice ao n cap,f] w fun e w'=>e=.returned (.tuple #[.agg #[(0:Int),(0:Int)],(3:Int)])∧Below w w w':=by
 have H:=(Held.start w).add (f:=rowF ao X n cap) hR
 clear hR
 have D0:=zh (fun v=>zBf a false v zu)
 have D1:=zh (fun v=>zBf b _ v rfl)
 clear hd
 exact zqg0k
theorem zOz (a b:Int) (ao:Option Addr) (n cap:Nat) (X:Nat→Int) (f:Int) (w:World) (hn:n≤100) (hR:RowAt w ao X n cap) (hd:1≤a∧a≤3652059) (hd2:b<1∨3652059<b) :
  Calls Tryz.prog 50 #[a,b,.slice ao n cap,f] w fun e w'=>e=.returned (.tuple #[.agg #[(0:Int),(0:Int)],(3:Int)])∧Below w w w':=by
 have H:=(Held.start w).add (f:=rowF ao X n cap) hR
 clear hR
 have D0:=zh (fun v=>zBf a true v zu)
 have D1:=zh (fun v=>zBf b false v zu)
 clear hd hd2
 exact zqg0k
theorem zLu (a b:Int) (ao:Option Addr) (n cap:Nat) (X:Nat→Int) (f:Int) (w:World) (hn:n≤100) (hR:RowAt w ao X n cap) (hd:1≤a∧a≤3652059) (hd2:1≤b∧b≤3652059) (hab:b<a) :
  Calls Tryz.prog 50 #[a,b,.slice ao n cap,f] w fun e w'=>e=.returned (.tuple #[.agg #[(0:Int),(0:Int)],(4:Int)])∧Below w w w':=by
 have H:=(Held.start w).add (f:=rowF ao X n cap) hR
 clear hR
 have D0:=zh (fun v=>zBf a true v zu)
 have D1:=zh (fun v=>zBf b true v zu)
 clear hd hd2
 go_enter Tryz.func50,Tryz.ntmps50
 go_wp2_with fail
 replace H:=H.pair w (0:Int) (0:Int) 48 rfl
 with_reducible refine (D0.out _).mono ?_
 rintro e w1 ⟨rfl,rfl⟩
 go_wp2_with fail
 with_reducible refine (D1.out _).mono ?_
 rintro e w1 ⟨rfl,rfl⟩
 obtain⟨cz0,cz1⟩:=H.cells2 w
 obtain⟨fz0,fz1⟩:=H.frozens2 w
 have lz:=zA0 cz0
 have HK:=H.old
 clear H
 go_wp2_with fail
 exact bodyPost_ret (v:=.tuple #[.agg #[(0:Int),(0:Int)],(4:Int)]) (by simp[results,Tryz.results50,go_sem,cz0,cz1,lz]) rfl ⟨rfl,by repeat (first | exact HK | refine Below.drew ?_ | refine Below.setCell ?_ zw _ | refine Below.alloc ?_ zw _)⟩
theorem zqa9i {P:Prop} (h:P:=by
 obtain⟨cz0,cz1⟩:=H.cells2 w
 obtain⟨fz0,fz1⟩:=H.frozens2 w
 have lz:=zA0 cz0
 have HK:=H.old
 clear H
 go_wp2_with fail
 exact bodyPost_ret (v:=.tuple #[.agg #[(0:Int),(0:Int)],(5:Int)]) (by simp[results,Tryz.results50,go_sem,cz0,cz1,lz]) rfl ⟨rfl,by repeat (first | exact HK | refine Below.drew ?_ | refine Below.setCell ?_ zw _ | refine Below.alloc ?_ zw _)⟩):P:=h
theorem zT8 (a b:Int) (ao:Option Addr) (n cap:Nat) (X:Nat→Int) (f:Int) (w:World) (hn:n≤100) (hR:RowAt w ao X n cap) (hd:1≤a∧a≤3652059) (hd2:1≤b∧b≤3652059) (hab:a≤b) (hm:¬MayX X n f) :
  Calls Tryz.prog 50 #[a,b,.slice ao n cap,f] w fun e w'=>e=.returned (.tuple #[.agg #[(0:Int),(0:Int)],(5:Int)])∧Below w w w':=by
 have H:=(Held.start w).add (f:=rowF ao X n cap) hR
 clear hR
 have D0:=zh (fun v=>zBf a true v zu)
 have D1:=zh (fun v=>zBf b true v zu)
 have C:=zh (fun v h2=>zMw ao n cap X f false v hn h2 ⟨fun h=>(by cases h),fun h=>absurd h hm⟩)
 clear hd hd2 hm
 go_enter Tryz.func50,Tryz.ntmps50
 go_wp2_with fail
 replace H:=H.pair w (0:Int) (0:Int) 48 rfl
 with_reducible refine (D0.out _).mono ?_
 rintro e w1 ⟨rfl,rfl⟩
 go_wp2_with fail
 with_reducible refine (D1.out _).mono ?_
 rintro e w1 ⟨rfl,rfl⟩
 go_wp2_with fail
 revert H
 with_reducible refine zG (fun H=>C.out _ (H.row)) ?_
 intro w2 H
 exact zqa9i
theorem zP0 (a b:Int) (ao:Option Addr) (n cap:Nat) (X:Nat→Int) (f:Int) (w:World) (hn:n≤100) (hR:RowAt w ao X n cap) (hd:1≤a∧a≤3652059) (hd2:1≤b∧b≤3652059) (hab:a≤b) (hm:MayX X n f) (hx:a<X 0) :
  Calls Tryz.prog 50 #[a,b,.slice ao n cap,f] w fun e w'=>e=.returned (.tuple #[.agg #[(0:Int),(0:Int)],(5:Int)])∧Below w w w':=by
 have H:=(Held.start w).add (f:=rowF ao X n cap) hR
 clear hR
 have D0:=zh (fun v=>zBf a true v zu)
 have D1:=zh (fun v=>zBf b true v zu)
 have C:=zh (fun v h2=>zMw ao n cap X f true v hn h2 ⟨fun _=>hm,fun _=>rfl⟩)
 have k2:=hm.1
 clear hd hd2 hm
 go_enter Tryz.func50,Tryz.ntmps50
 go_wp2_with fail
 replace H:=H.pair w (0:Int) (0:Int) 48 rfl
 with_reducible refine (D0.out _).mono ?_
 rintro e w1 ⟨rfl,rfl⟩
 go_wp2_with fail
 with_reducible refine (D1.out _).mono ?_
 rintro e w1 ⟨rfl,rfl⟩
 go_wp2_with fail
 revert H
 with_reducible refine zG (fun H=>C.out _ (H.row)) ?_
 intro w2 H
 obtain⟨B,off,rfl,hC⟩:=(H.row).2 zo
 obtain⟨m,rfl⟩:∃m,n=m+1:=⟨n-1,zo⟩
 have c0:=hC 0 zo
 rw[Nat.add_zero] at c0
 have cm:=hC m zo
 clear hC
 exact zqa9i
theorem zP1 (a b:Int) (ao:Option Addr) (n cap:Nat) (X:Nat→Int) (f:Int) (w:World) (hn:n≤100) (hR:RowAt w ao X n cap) (hd:1≤a∧a≤3652059) (hd2:1≤b∧b≤3652059) (hab:a≤b) (hm:MayX X n f) (hx0:X 0≤a) (hx:X (n-1)<b) :
  Calls Tryz.prog 50 #[a,b,.slice ao n cap,f] w fun e w'=>e=.returned (.tuple #[.agg #[(0:Int),(0:Int)],(5:Int)])∧Below w w w':=by
 have H:=(Held.start w).add (f:=rowF ao X n cap) hR
 clear hR
 have D0:=zh (fun v=>zBf a true v zu)
 have D1:=zh (fun v=>zBf b true v zu)
 have C:=zh (fun v h2=>zMw ao n cap X f true v hn h2 ⟨fun _=>hm,fun _=>rfl⟩)
 have k2:=hm.1
 clear hd hd2 hm
 go_enter Tryz.func50,Tryz.ntmps50
 go_wp2_with fail
 replace H:=H.pair w (0:Int) (0:Int) 48 rfl
 with_reducible refine (D0.out _).mono ?_
 rintro e w1 ⟨rfl,rfl⟩
 go_wp2_with fail
 with_reducible refine (D1.out _).mono ?_
 rintro e w1 ⟨rfl,rfl⟩
 go_wp2_with fail
 revert H
 with_reducible refine zG (fun H=>C.out _ (H.row)) ?_
 intro w2 H
 obtain⟨B,off,rfl,hC⟩:=(H.row).2 zo
 obtain⟨m,rfl⟩:∃m,n=m+1:=⟨n-1,zo⟩
 rw[Nat.add_sub_cancel] at hx
 have c0:=hC 0 zo
 rw[Nat.add_zero] at c0
 have cm:=hC m zo
 clear hC
 exact zqa9i
end Go.Proofs.YtpfgdfpaoldhcaaGreatDoor
namespace Go.Proofs.YtpfgdfpaoldhcaaGreatDoor
open Go.RowKit
theorem row_of {W:World} {B off n cap:Nat} {X:Nat→Int} (hcap:n≤cap) (h:Cells W B off X n):RowAt W (some ⟨B,off,none⟩) X n cap:=⟨hcap,fun _=>⟨B,off,rfl,h⟩⟩
def RGo (w:World) (O:Nat) (s0 s1:Int) (W:World):Prop:=Held w [.cell O 0 s0,.cell O 1 s1,.free O 0,.free O 1,.cell w.heap.size 0 (0:Int),.cell w.heap.size 1 (0:Int),.free w.heap.size 0,.free w.heap.size 1] W
theorem zF0 {w W:World} {O:Nat} {s0 s1 s2 s3 S2 S3:Int} {fs:List Fact} (h:Held w fs W) (hO:w.heap.size<O) (e2:S2=s2) (e3:S3=s3)
  (m0:Fact.cell O 0 s0∈fs) (m1:Fact.cell O 1 s1∈fs) (m2:Fact.free O 0∈fs) (m3:Fact.free O 1∈fs) (m4:Fact.cell w.heap.size 0 (0:Int)∈fs) (m5:Fact.cell w.heap.size 1 (0:Int)∈fs) (m6:Fact.free w.heap.size 0∈fs) (m7:Fact.free w.heap.size 1∈fs) :
  RGo w O S2 S3 ((W.setCell ⟨O,0,none⟩ s2).setCell ⟨O,1,none⟩ s3):=by
 subst e2 e3
 have c0:=h.cell _ _ _ m0
 have c1:=h.cell _ _ _ m1
 have c4:=h.cell _ _ _ m4
 have c5:=h.cell _ _ _ m5
 have f2:=h.frozen _ _ m2
 have f3:=h.frozen _ _ m3
 have f6:=h.frozen _ _ m6
 have f7:=h.frozen _ _ m7
 have l0:=zA0 c0
 have l4:=zA0 c4
 have H0:Held w [] ((W.setCell ⟨O,0,none⟩ S2).setCell ⟨O,1,none⟩ S3):=⟨(h.old.setCell zx _).setCell zx _,fun f hf=>by cases hf⟩
 have d:O≠w.heap.size:=zo
 refine (((((((H0.add (f:=.free w.heap.size 1) ⟨by simpa using l4,by rw[World.frozen?_setCell,World.frozen?_setCell];exact f7⟩).add (f:=.free w.heap.size 0) ⟨by simpa using l4,by rw[World.frozen?_setCell,World.frozen?_setCell];exact f6⟩).add (f:=.cell w.heap.size 1 _) ?_).add (f:=.cell w.heap.size 0 _) ?_).add (f:=.free O 1) ⟨by simpa using l0,by rw[World.frozen?_setCell,World.frozen?_setCell];exact f3⟩).add (f:=.free O 0) ⟨by simpa using l0,by rw[World.frozen?_setCell,World.frozen?_setCell];exact f2⟩).add (f:=.cell O 1 _) ?_).add (f:=.cell O 0 _) ?_
 ·exact (World.cell?_setCell_far _ ⟨O,1,none⟩ ⟨w,1,none⟩ _ d).trans ((World.cell?_setCell_far _ ⟨O,0,none⟩ ⟨w,1,none⟩ _ d).trans c5)
 ·exact (World.cell?_setCell_far _ ⟨O,1,none⟩ ⟨w,0,none⟩ _ d).trans ((World.cell?_setCell_far _ ⟨O,0,none⟩ ⟨w,0,none⟩ _ d).trans c4)
 ·exact World.cell?_setCell_same' _ _ _ (by rw[World.cell?_setCell_other _ _ _ _ zs,c1];rfl)
 ·exact (World.cell?_setCell_other _ _ _ _ zs).trans (World.cell?_setCell_same' _ _ _ (by rw[c0];rfl))
theorem zqbrm {P:Prop} (h:P:=by
 obtain⟨s2,hs2⟩:∃s2,(vP X (k+1) f a b).num=s2:=⟨_,rfl⟩
 obtain⟨s3,hs3⟩:∃s3,((vP X (k+1) f a b).den:Int)=s3:=⟨_,rfl⟩
 obtain⟨s0,hs0⟩:∃s0,(vP X k f a b).num=s0:=⟨_,rfl⟩
 obtain⟨s1,hs1⟩:∃s1,((vP X k f a b).den:Int)=s1:=⟨_,rfl⟩
 rw[hs0,hs1] at r0 AP G0
 rw[hs2,hs3] at AP
 have C2:=zh (fun v=>zEy s0 s1 p1 q1 s2 s3 0 v r0 r1 AP)
 have ES:Hid (vP X (k+1) f a b=vP X (k+1) f a b∧(vP X (k+1) f a b).num=s2∧((vP X (k+1) f a b).den:Int)=s3):=zh ⟨rfl,hs2,hs3⟩
 clear NP r1 r0 AP hs0 hs1 hs2 hs3 D
 obtain⟨co0,co1⟩:=G0.cells2 O
 go_wp2_with fail
 with_reducible refine (C1.out _).mono ?_
 rintro e w3 ⟨rfl,hb⟩
 replace G0:=G0.below hb
 clear hb co0 co1
 obtain⟨co0,co1⟩:=G0.cells2 O
 have lo:=zA0 co0
 go_wp2_with fail
 replace G0:=G0.pair w3.heap.size p1 q1 48 rfl
 with_reducible refine (C2.out _).mono ?_
 rintro e w4 ⟨rfl,hb⟩
 replace G0:=G0.below hb
 clear hb co0 co1 lo
 obtain⟨co0,co1⟩:=G0.cells2 O
 obtain⟨fo0,fo1⟩:=G0.frozens2 O
 have lo:=zA0 co0
 go_wp2_with fail
 go_roundw
 case rel=>exact⟨k+1,zo,by go_num,Held.alloc (zF0 (s0:=s0) (s1:=s1) G0 hO2 ES.out.2.1 ES.out.2.2 zm zm zm zm zm zm zm zm) _⟩
 case measure=>simp[intOf];omega):P:=h
theorem zq7lq {P:Prop} (h:P:=by
 go_wp2_with fail
 go_roundw
 case rel=>exact⟨k+1,zo,by go_num,G0⟩
 case measure=>simp[intOf];omega):P:=h
theorem zqu7h {P:Prop} (h:P:=by
 have EV:=zh (zEx X f a b k hab (HX.out.less zo) zo)
 rw[←EV.out] at G0
 clear D EV
 exact zq7lq):P:=h
theorem zTb (a b p q:Int) (B off m cap:Nat) (X:Nat→Int) (f:Int) (w:World) (hm1:1≤m) (hmm:m<100) (hcap:m+1≤cap) (hC:Cells w B off X (m+1)) (hd:1≤a∧a≤3652059) (hd2:1≤b∧b≤3652059) (hab:a≤b) (hm:MayX X (m+1) f) (hx0:X 0≤a) (hx:b≤X m) (hp:p=(vP X m f a b).num) (hq:q=((vP X m f a b).den:Int)) :
  Calls Tryz.prog 50 #[a,b,.slice (some ⟨B,off,none⟩) (m+1) cap,f] w fun e w'=>e=.returned (.tuple #[.agg #[p,q],(0:Int)])∧Below w w w':=by
 have H:=(Held.start w).add (f:=zDy B off X (m+1)) hC
 have D0:=zh (fun v=>zBf a true v zu)
 have D1:=zh (fun v=>zBf b true v zu)
 have C:=zh (fun v h2=>zMw (some ⟨B,off,none⟩) (m+1) cap X f true v zo h2 ⟨fun _=>hm,fun _=>rfl⟩)
 have hf:=hm.2.2.1
 have HX:=zh hm.2.2.2.1
 have HC:=zh hC
 have c0:=hC 0 zo
 rw[Nat.add_zero] at c0
 have cm:=hC m zo
 have FIN:Hid (p=(vP X m f a b).num∧q=((vP X m f a b).den:Int)):=zh ⟨hp,hq⟩
 clear hm hC hp hq
 go_enter Tryz.func50,Tryz.ntmps50
 go_wp2_with fail
 replace H:=H.pair w (0:Int) (0:Int) 48 rfl
 with_reducible refine (D0.out _).mono ?_
 rintro e w1 ⟨rfl,rfl⟩
 go_wp2_with fail
 with_reducible refine (D1.out _).mono ?_
 rintro e w1 ⟨rfl,rfl⟩
 go_wp2_with fail
 with_reducible refine (C.out _ (row_of hcap (H.cells))).mono ?_
 rintro e w2 ⟨rfl,hb⟩
 replace H:=H.below hb
 clear hb c0 cm
 have hC:=H.cells
 have c0:=hC 0 zo
 rw[Nat.add_zero] at c0
 have cm:=hC m zo
 clear hC
 go_wp2_with fail
 have hO2:=H.lt w.heap.size 0 (0:Int)
 replace H:=H.pair w2.heap.size (0:Int) (1:Int) 48 rfl
 obtain⟨O,eO⟩:∃O,w2.heap.size=O:=⟨_,rfl⟩
 rw[eO] at H hO2 ⊢
 have HR:=zh (H.sub (gs:=[.cell O 0 (0:Int),.cell O 1 (1:Int),.free O 0,.free O 1,.cell w.heap.size 0 (0:Int),.cell w.heap.size 1 (0:Int),.free w.heap.size 0,.free w.heap.size 1]) (by intro f hf;simp only[List.mem_cons,List.mem_nil_iff,or_false] at hf ⊢;rcases hf with h | h | h | h | h | h | h | h <;> simp[h]))
 clear H c0 cm eO
 go_loopw [14,15,16,17,18,19,20,21,22] (fun i _ _ _ _ _ _ _ _ wr=>∃k:Nat,k≤m∧i=.int .i64 ((k:Int)+1)∧RGo w O (vP X k f a b).num (vP X k f a b).den wr) (fun i _ _ _ _ _ _ _ _ _=>m+1-(intOf i).toNat)
 case atStart=>exact⟨0,zo,rfl,by rw[zMd];exact HR.out⟩
 case round=>
  obtain⟨k,hk,rfl,HG⟩:=hrel
  have G0:=HG
  unfold RGo at G0
  clear HG
  have KC:=zh (HC.out.kept G0.old)
  by_cases hlt:k<m
  ·have ck:=KC.out k zo
   have ck1:=KC.out (k+1) zo
   have b0:=HX.out.1 k zo
   have b1:=HX.out.1 (k+1) zo
   have b2:=HX.out.2 k zo
   by_cases he:X k=X (k+1)
   ·have t1:(X k==X (k+1))=true:=by simpa using he
    have EV:=zh (zEx X f a b k hab (HX.out.less zo) (by unfold zAs;omega))
    rw[←EV.out] at G0
    clear EV he
    exact zq7lq
   ·have t1:(X k==X (k+1))=false:=by simpa using he
    clear he
    by_cases c1:a<X k
    ·by_cases c2:X (k+1)<b
     ·have D:zAs a b (X k) (X (k+1))=X (k+1)-X k:=by unfold zAs;omega
      by_cases hd:X k<X (k+1)
      ·obtain⟨p1,q1,NP,r1,r0,AP⟩:=zG1 X f a b k hf hab (HX.out.less zo) zo zo
       rw[D] at NP
       have FB:0<f*(X (k+1)-X k)∧f*(X (k+1)-X k)≤43824696:=⟨Int.mul_pos zo zo,by have:=Int.mul_le_mul hf.2 (show X (k+1)-X k≤3652058 by omega) zo zo;omega⟩
       have C1:=zh (fun v=>zEz (X (k+1)-X k) (f*(X (k+1)-X k)) p1 q1 0 v zo zo zo zo NP)
       exact zqbrm
      ·exact zqu7h
     ·have D:zAs a b (X k) (X (k+1))=b-X k:=by unfold zAs;omega
      by_cases hd:X k<b
      ·obtain⟨p1,q1,NP,r1,r0,AP⟩:=zG1 X f a b k hf hab (HX.out.less zo) zo zo
       rw[D] at NP
       have FB:0<f*(X (k+1)-X k)∧f*(X (k+1)-X k)≤43824696:=⟨Int.mul_pos zo zo,by have:=Int.mul_le_mul hf.2 (show X (k+1)-X k≤3652058 by omega) zo zo;omega⟩
       have C1:=zh (fun v=>zEz (b-X k) (f*(X (k+1)-X k)) p1 q1 0 v zo zo zo zo NP)
       exact zqbrm
      ·exact zqu7h
    ·by_cases c2:X (k+1)<b
     ·have D:zAs a b (X k) (X (k+1))=X (k+1)-a:=by unfold zAs;omega
      by_cases hd:a<X (k+1)
      ·obtain⟨p1,q1,NP,r1,r0,AP⟩:=zG1 X f a b k hf hab (HX.out.less zo) zo zo
       rw[D] at NP
       have FB:0<f*(X (k+1)-X k)∧f*(X (k+1)-X k)≤43824696:=⟨Int.mul_pos zo zo,by have:=Int.mul_le_mul hf.2 (show X (k+1)-X k≤3652058 by omega) zo zo;omega⟩
       have C1:=zh (fun v=>zEz (X (k+1)-a) (f*(X (k+1)-X k)) p1 q1 0 v zo zo zo zo NP)
       exact zqbrm
      ·exact zqu7h
     ·have D:zAs a b (X k) (X (k+1))=b-a:=by unfold zAs;omega
      by_cases hd:a<b
      ·obtain⟨p1,q1,NP,r1,r0,AP⟩:=zG1 X f a b k hf hab (HX.out.less zo) zo zo
       rw[D] at NP
       have FB:0<f*(X (k+1)-X k)∧f*(X (k+1)-X k)≤43824696:=⟨Int.mul_pos zo zo,by have:=Int.mul_le_mul hf.2 (show X (k+1)-X k≤3652058 by omega) zo zo;omega⟩
       have C1:=zh (fun v=>zEz (b-a) (f*(X (k+1)-X k)) p1 q1 0 v zo zo zo zo NP)
       exact zqbrm
      ·exact zqu7h
  ·obtain rfl:k=m:=zo
   have E0:=FIN.out.1
   have E1:=FIN.out.2
   rw[←E0,←E1] at G0
   clear E0 E1
   obtain⟨co0,co1⟩:=G0.cells2 O
   obtain⟨cz0,cz1⟩:=G0.cells2 w
   obtain⟨fz0,fz1⟩:=G0.frozens2 w
   have lz:=zA0 cz0
   have lo:=zA0 co0
   have HK:=G0.old
   clear G0
   go_wp2_with fail
   exact bodyPost_ret (v:=.tuple #[.agg #[p,q],(0:Int)]) (by simp[results,Tryz.results50,go_sem,cz0,cz1,lz]) rfl ⟨rfl,by repeat (first | exact HK | refine Below.drew ?_ | refine Below.setCell ?_ zw _ | refine Below.alloc ?_ zw _)⟩
theorem rpart_is (a b:Int) (ao:Option Addr) (n cap:Nat) (X:Nat→Int) (f p q c:Int) (w:World) (hn:n≤100) (hR:RowAt w ao X n cap) (hI:IcIs X n f a b p q c) :
  Calls Tryz.prog 50 #[a,b,.slice ao n cap,f] w fun e w'=>e=.returned (.tuple #[.agg #[p,q],c])∧Below w w w':=by
 rcases hI with⟨h1,rfl,rfl,rfl⟩ | ⟨h1,h2,rfl,rfl,rfl⟩ | ⟨h1,h2,h3,rfl,rfl,rfl⟩ | ⟨h1,h2,h3,hp,hq,rfl⟩
 ·unfold zFv at h1
  by_cases k:a<1∨3652059<a
  ·exact zOy a b ao n cap X f w hn hR k
  ·exact zOz a b ao n cap X f w hn hR zo zo
 ·exact zLu a b ao n cap X f w hn hR h1.1 h1.2 h2
 ·by_cases k:MayX X n f
  ·by_cases k2:X 0≤a
   ·have k3:X (n-1)<b:=Int.not_le.1 (fun z=>h3 ⟨k,k2,z⟩)
    exact zP1 a b ao n cap X f w hn hR h1.1 h1.2 h2 k k2 k3
   ·exact zP0 a b ao n cap X f w hn hR h1.1 h1.2 h2 k zo
  ·exact zT8 a b ao n cap X f w hn hR h1.1 h1.2 h2 k
 ·obtain⟨hm,h4,h5⟩:=h3
  have h6:=hm.1
  obtain⟨B,off,rfl,hC⟩:=hR.2 zo
  obtain⟨m,rfl⟩:∃m,n=m+1:=⟨n-1,zo⟩
  rw[Nat.add_sub_cancel] at h5 hp hq
  exact zTb a b p q B off m cap X f w zo zo hR.1 hC h1.1 h1.2 h2 hm h4 h5 hp hq
end Go.Proofs.YtpfgdfpaoldhcaaGreatDoor
namespace Go.Proofs.YtpfgdfpaoldhcaaGreatDoor
open Go.RowKit
theorem zqj8r {P:Prop} (h:P:=by
 intro w1 H
 obtain⟨cz0,cz1⟩:=H.cells2 (w+1)
 have lz:=H.lt (w+1) 0 (0:Int) i0_
 obtain⟨fz0,fz1⟩:=H.frozens2 (w+1)
 have HK:=H.old
 clear H
 go_wp2_with fail
 exact bodyPost_ret (v:=.tuple #[.agg #[p,q],c]) (by simp[results,Tryz.results19,go_sem,cz0,cz1,lz]) rfl ⟨rfl,by repeat (first | exact HK | refine Below.drew ?_ | refine Below.setCell ?_ zw _ | refine Below.alloc ?_ zw _)⟩):P:=h
theorem rpt_0 (a b:Int) (t:Bool) (en f:Int) (ao:Option Addr) (n cap:Nat) (X:Nat→Int) (p q c:Int) (w:World) (h:zBd (uX t) a b p q c) :
  Calls Tryz.prog 19 #[(0:Int),a,b,.agg #[t,en,f,.slice ao n cap]] w fun e w'=>e=.returned (.tuple #[.agg #[p,q],c])∧Below w w w':=by
 have H:=(Held.start w)
 have C:=zh h
 clear h
 go_enter Tryz.func19,Tryz.ntmps19
 go_wp2_with fail
 replace H:=H.alloc (.cells #[t,en,f,.slice ao n cap] 33)
 replace H:=(H.pair (w+1) (0:Int) (0:Int) 48 zs)
 revert H
 with_reducible refine zG (fun _=>rus_any a b p q c t _ C.out) ?_
 exact zqj8r
theorem rpt_1 (a b:Int) (t:Bool) (en f:Int) (ao:Option Addr) (n cap:Nat) (X:Nat→Int) (p q c:Int) (w:World) (h:zBd eX a b p q c) :
  Calls Tryz.prog 19 #[(1:Int),a,b,.agg #[t,en,f,.slice ao n cap]] w fun e w'=>e=.returned (.tuple #[.agg #[p,q],c])∧Below w w w':=by
 have H:=(Held.start w)
 have C:=zh h
 clear h
 go_enter Tryz.func19,Tryz.ntmps19
 go_wp2_with fail
 replace H:=H.alloc (.cells #[t,en,f,.slice ao n cap] 33)
 replace H:=(H.pair (w+1) (0:Int) (0:Int) 48 zs)
 revert H
 with_reducible refine zG (fun _=>re_any a b p q c _ C.out) ?_
 exact zqj8r
theorem rpt_2 (a b:Int) (t:Bool) (en f:Int) (ao:Option Addr) (n cap:Nat) (X:Nat→Int) (p q c:Int) (w:World) (h:zBd (iX (decide (b=en))) a b p q c) :
  Calls Tryz.prog 19 #[(2:Int),a,b,.agg #[t,en,f,.slice ao n cap]] w fun e w'=>e=.returned (.tuple #[.agg #[p,q],c])∧Below w w w':=by
 have H:=(Held.start w)
 have C:=zh h
 clear h
 go_enter Tryz.func19,Tryz.ntmps19
 go_wp2_with fail
 replace H:=H.alloc (.cells #[t,en,f,.slice ao n cap] 33)
 replace H:=(H.pair (w+1) (0:Int) (0:Int) 48 zs)
 revert H
 with_reducible refine zG (fun _=>zT3 a b en p q c _ C.out) ?_
 exact zqj8r
theorem rpt_3 (a b:Int) (t:Bool) (en f:Int) (ao:Option Addr) (n cap:Nat) (X:Nat→Int) (p q c:Int) (w:World) (h:AcIs aX 360 a b p q c) :
  Calls Tryz.prog 19 #[(3:Int),a,b,.agg #[t,en,f,.slice ao n cap]] w fun e w'=>e=.returned (.tuple #[.agg #[p,q],c])∧Below w w w':=by
 have H:=(Held.start w)
 have C:=zh h
 clear h
 go_enter Tryz.func19,Tryz.ntmps19
 go_wp2_with fail
 replace H:=H.alloc (.cells #[t,en,f,.slice ao n cap] 33)
 replace H:=(H.pair (w+1) (0:Int) (0:Int) 48 zs)
 revert H
 with_reducible refine zG (fun _=>zOl a b p q c _ C.out) ?_
 exact zqj8r
theorem rpt_4 (a b:Int) (t:Bool) (en f:Int) (ao:Option Addr) (n cap:Nat) (X:Nat→Int) (p q c:Int) (w:World) (h:AcIs aX 365 a b p q c) :
  Calls Tryz.prog 19 #[(4:Int),a,b,.agg #[t,en,f,.slice ao n cap]] w fun e w'=>e=.returned (.tuple #[.agg #[p,q],c])∧Below w w w':=by
 have H:=(Held.start w)
 have C:=zh h
 clear h
 go_enter Tryz.func19,Tryz.ntmps19
 go_wp2_with fail
 replace H:=H.alloc (.cells #[t,en,f,.slice ao n cap] 33)
 replace H:=(H.pair (w+1) (0:Int) (0:Int) 48 zs)
 revert H
 with_reducible refine zG (fun _=>zOn a b p q c _ C.out) ?_
 exact zqj8r
theorem rpt_5 (a b:Int) (t:Bool) (en f:Int) (ao:Option Addr) (n cap:Nat) (X:Nat→Int) (p q c:Int) (w:World) (h:AcIs yX 133590 a b p q c) :
  Calls Tryz.prog 19 #[(5:Int),a,b,.agg #[t,en,f,.slice ao n cap]] w fun e w'=>e=.returned (.tuple #[.agg #[p,q],c])∧Below w w w':=by
 have H:=(Held.start w)
 have C:=zh h
 clear h
 go_enter Tryz.func19,Tryz.ntmps19
 go_wp2_with fail
 replace H:=H.alloc (.cells #[t,en,f,.slice ao n cap] 33)
 replace H:=(H.pair (w+1) (0:Int) (0:Int) 48 zs)
 revert H
 with_reducible refine zG (fun _=>zK0 a b p q c _ C.out) ?_
 exact zqj8r
theorem rpt_6 (a b:Int) (t:Bool) (en f:Int) (ao:Option Addr) (n cap:Nat) (X:Nat→Int) (p q c:Int) (w:World) (hn:n≤100) (hR:RowAt w ao X n cap) (h:IcIs X n f a b p q c) :
  Calls Tryz.prog 19 #[(6:Int),a,b,.agg #[t,en,f,.slice ao n cap]] w fun e w'=>e=.returned (.tuple #[.agg #[p,q],c])∧Below w w w':=by
 have H:=((Held.start w).add (f:=rowF ao X n cap) hR)
 have C:=zh h
 clear h
 go_enter Tryz.func19,Tryz.ntmps19
 go_wp2_with fail
 replace H:=H.alloc (.cells #[t,en,f,.slice ao n cap] 33)
 replace H:=(H.pair (w+1) (0:Int) (0:Int) 48 zs)
 revert H
 with_reducible refine zG (fun H=>rpart_is a b ao n cap X f p q c _ hn (H.row i4_) C.out) ?_
 exact zqj8r
theorem rpt_out (k a b:Int) (t:Bool) (en f:Int) (ao:Option Addr) (n cap:Nat) (w:World) (h:k<0∨6<k) :
  Calls Tryz.prog 19 #[k,a,b,.agg #[t,en,f,.slice ao n cap]] w fun e w'=>e=.returned (.tuple #[.agg #[(0:Int),(0:Int)],(1:Int)])∧Below w w w':=by
 have HK:=Below.refl w.heap.size w
 have n0:decide (k=0)=false:=zx
 have n1:decide (k=1)=false:=zx
 have n2:decide (k=2)=false:=zx
 have n3:decide (k=3)=false:=zx
 have n4:decide (k=4)=false:=zx
 have n5:decide (k=5)=false:=zx
 have n6:decide (k=6)=false:=zx
 go_enter Tryz.func19,Tryz.ntmps19
 go_wp2
 exact bodyPost_ret (v:=.tuple #[.agg #[(0:Int),(0:Int)],(1:Int)]) (by simp[results,Tryz.results19,go_sem]) rfl ⟨rfl,by repeat (first | exact HK | refine Below.drew ?_ | refine Below.setCell ?_ zw _ | refine Below.alloc ?_ zw _)⟩
theorem rpart10_any (k a b:Int) (t:Bool) (en f:Int) (ao:Option Addr) (n cap:Nat) (X:Nat→Int) (p q c:Int) (w:World) (hn:n≤100) (hR:RowAt w ao X n cap) (h:CoIs k a b t en f X n p q c) :
  Calls Tryz.prog 19 #[k,a,b,.agg #[t,en,f,.slice ao n cap]] w fun e w'=>e=.returned (.tuple #[.agg #[p,q],c])∧Below w w w':=by
 rcases h with⟨rfl,h⟩ | ⟨rfl,h⟩ | ⟨rfl,h⟩ | ⟨rfl,h⟩ | ⟨rfl,h⟩ | ⟨rfl,h⟩ | ⟨rfl,h⟩ | ⟨h,rfl,rfl,rfl⟩
 ·exact rpt_0 a b t en f ao n cap X p q c w h
 ·exact rpt_1 a b t en f ao n cap X p q c w h
 ·exact rpt_2 a b t en f ao n cap X p q c w h
 ·exact rpt_3 a b t en f ao n cap X p q c w h
 ·exact rpt_4 a b t en f ao n cap X p q c w h
 ·exact rpt_5 a b t en f ao n cap X p q c w h
 ·exact rpt_6 a b t en f ao n cap X p q c w hn hR h
 ·exact rpt_out k a b t en f ao n cap w h
theorem rof_dd (t:Tm) (X E:Nat→Int) (m q:Nat) (w:World) (hc:t.code=0) (hm : -100≤t.ms∧t.ms≤100) (hWk:t.Walk X E m) (hq:t.q X E m=q) :
  Calls Tryz.prog 27 #[.agg #[t.mo,t.ra,t.ki,t.co,t.st,t.en,t.ms,t.bk,t.lg,t.eo,t.ro]] w fun e w'=>∃ao cap,e=.returned (.tuple #[.slice ao (q+1+1) cap,(0:Int)])∧DaysAt w' ao (t.dd X q) (q+1+1) cap∧Below w w w':=by
 have ho:=(t.of_zero hc).2.2.1
 have hD:=hWk.days_is ho
 rw[hq] at hD
 have h:Calls Tryz.prog 27 #[.agg #[t.mo,t.ra,t.ki,t.co,t.st,t.en,t.ms,t.bk,t.lg,t.eo,t.ro]] w fun e w'=>∃ao cap,e=.returned (.tuple #[.slice ao (dl (t.dd X q) (q+2)).length cap,(0:Int)])∧DaysAt w' ao (ld (dl (t.dd X q) (q+2))) (dl (t.dd X q) (q+2)).length cap∧Below w w w':=by
  obtain⟨mo,ra,ki,co,st,en,ms,bk,lg,eo,ro⟩:=t
  cases bk
  ·exact rof_false mo ra ki co st en ms lg eo ro X E m _ w ho hc hm hWk hD
  ·exact rof_true mo ra ki co st en ms lg eo ro X E m _ w ho hc hm hWk hD
 exact zql5c
theorem rgrid_dd (t:Tm) (X E:Nat→Int) (m:Nat) (w:World) (hc:t.code=0) (hm : -100≤t.ms∧t.ms≤100) (hWk:t.Walk X E m) :
  Calls Tryz.prog 30 #[.agg #[t.mo,t.ra,t.ki,t.co,t.st,t.en,t.ms,t.bk,t.lg,t.eo,t.ro]] w fun e w'=>∃ao cap,e=.returned (.tuple #[.slice ao (gl E m) cap,(0:Int)])∧DaysAt w' ao (ld (t.grid X (gl E m))) (gl E m) cap∧Below w w w':=by
 obtain⟨mo,ra,ki,co,st,en,ms,bk,lg,eo,ro⟩:=t
 cases bk
 ·exact rgrid_false mo ra ki co st en ms lg eo ro X E m w hc hm hWk
 ·exact rgrid_true mo ra ki co st en ms lg eo ro X E m w hc hm hWk
structure PRow (S:Nat) (u0 u1 u3 u4 u5 u6:Value) (P Q:Nat→Int) (k:Nat) (v:Value) (W:World):Prop where
 c0:W.cell? ⟨S,0,none⟩=some u0
 c1:W.cell? ⟨S,1,none⟩=some u1
 c2:W.cell? ⟨S,2,none⟩=some v
 c3:W.cell? ⟨S,3,none⟩=some u3
 c4:W.cell? ⟨S,4,none⟩=some u4
 c5:W.cell? ⟨S,5,none⟩=some u5
 c6:W.cell? ⟨S,6,none⟩=some u6
 fz:W.frozen? ⟨S,2,none⟩=false
 own:W.ownsRow (S+1) 48 2 v k (rl P Q k)
theorem PRow.start (W:World) (u0 u1 u3 u4 u5 u6:Value) (P Q:Nat→Int):PRow W.heap.size u0 u1 u3 u4 u5 u6 P Q 0 (.slice none 0 0) (W.alloc (.cells #[u0,u1,.slice none 0 0,u3,u4,u5,u6] 35)):=
 ⟨zn,zn,zn,zn,zn,zn,zn,by simp[go_sem],World.ownsRow_nil _ _ _ _⟩
section
variable {S:Nat} {u0 u1 u3 u4 u5 u6:Value} {P Q:Nat→Int} {k:Nat} {v:Value} {W W':World}
theorem PRow.onto (h:PRow S u0 u1 u3 u4 u5 u6 P Q k v W) (hb:Below W W W'):PRow S u0 u1 u3 u4 u5 u6 P Q k v W':=
 ⟨keep hb (zA0 h.c0) h.c0,keep hb (zA0 h.c1) h.c1,keep hb (zA0 h.c2) h.c2,keep hb (zA0 h.c3) h.c3,keep hb (zA0 h.c4) h.c4,keep hb (zA0 h.c5) h.c5,keep hb (zA0 h.c6) h.c6,zA6 hb (zA0 h.c2) h.fz,zAp h.own hb⟩
theorem PRow.put {cs:Array Value} {T:TypeId} {v':Value} {w1:World} (h:PRow S u0 u1 u3 u4 u5 u6 P Q k v W) (hg:(W.alloc (.cells cs T)).grownBy w1 v.ownBlock) (ho:w1.ownsRow (S+1) 48 2 v' (k+1) (rl P Q k++[.int .i64 (P k),.int .i64 (Q k)])) :
  PRow S u0 u1 u3 u4 u5 u6 P Q (k+1) v' (w1.setCell ⟨S,2,none⟩ v')∧w1.cell? ⟨S,2,none⟩=some v∧w1.frozen? ⟨S,2,none⟩=false:=by
 have ne:∀o,some (⟨S,o,none⟩:Addr).block≠v.ownBlock:=fun o e=>by have:=(h.own.lt S e.symm).1;omega
 have up:∀{o x},W.cell? ⟨S,o,none⟩=some x→w1.cell? ⟨S,o,none⟩=some x:=fun {o x} hc=>hg.cell (keep ((Below.refl _ W).alloc (Nat.le_refl _) _) (zA0 hc) hc) (ne o)
 have l2:=zA0 h.c2
 have fz:w1.frozen? ⟨S,2,none⟩=false:=by
  rw[World.frozen?_of_block (hg.block S zx (ne 2))]
  exact zA6 ((Below.refl _ W).alloc (Nat.le_refl _) _) l2 h.fz
 refine⟨⟨zA3 (up h.c0) (Or.inr zd) _,zA3 (up h.c1) (Or.inr zd) _,World.cell?_setCell_same' _ _ _ (by rw[up h.c2];rfl),zA3 (up h.c3) (Or.inr zd) _,zA3 (up h.c4) (Or.inr zd) _,zA3 (up h.c5) (Or.inr zd) _,zA3 (up h.c6) (Or.inr zd) _,by simpa using fz,ownsRow_setCell_below ho (Nat.lt_succ_self S) _⟩,up h.c2,fz⟩
theorem PRow.below {cs:Array Value} {T:TypeId} {w1 W0:World} (h:PRow S u0 u1 u3 u4 u5 u6 P Q k v W) (hB:Below S W0 W) (hg:(W.alloc (.cells cs T)).grownBy w1 v.ownBlock) (v':Value):Below S W0 (w1.setCell ⟨S,2,none⟩ v'):=
 have l2:=zA0 h.c2
 (hB.trans (((Below.refl S W).alloc (Nat.le_of_lt l2) _).grown hg zx (fun k hk=>by have:=(h.own.lt k hk).1;omega))).setCell (Nat.le_refl S) _
end
theorem Pl.code_c {x:Pl} {t:Tm} (hc:t.code=0) (h:fst1 x.C (x.q+1+1)≠0):x.code t=fst1 x.C (x.q+1+1):=by
 unfold Pl.code
 rw[if_neg zo]
 exact if_pos h
theorem Pl.code_g {x:Pl} {t:Tm} (hc:t.code=0) (h:fst1 x.C (x.q+1+1)=0) (g:fst1 x.GC (x.ns t)≠0):x.code t=fst1 x.GC (x.ns t):=by
 unfold Pl.code
 rw[if_neg zo,if_neg (not_not_intro h)]
 exact if_pos g
theorem Pl.code_p {x:Pl} {t:Tm} (hc:t.code=0) (h:fst1 x.C (x.q+1+1)=0) (g:fst1 x.GC (x.ns t)=0):x.code t=fst1 x.PC (x.q+1):=by
 unfold Pl.code
 rw[if_neg zo,if_neg (not_not_intro h),if_neg (not_not_intro g)]
theorem PlanOut.no {x:Pl} {t:Tm} {n0:Nat} {W:World} {y:Int} (h:x.code t=y) (hy:y≠0):PlanOut x t n0 (.returned (.tuple #[.agg #[.slice none 0 0,.slice none 0 0,.slice none 0 0,false,(0:Int),(0:Int),.slice none 0 0],y])) W:=by
 subst h
 have e1:x.n t=0:=if_neg hy
 have e2:x.np t=0:=if_neg hy
 have e3:x.ng t=0:=if_neg hy
 have e4:x.eo t=false:=if_neg hy
 have e5:x.en t=0:=if_neg hy
 have e6:x.f t=0:=if_neg hy
 refine⟨none,none,none,none,0,0,0,0,?_,?_,?_,?_,?_,fun g e=>by cases e⟩
 ·rw[e1,e2,e3,e4,e5,e6]
 ·rw[e1];exact zC9 _ _
 ·rw[e1];exact zC9 _ _
 ·rw[e2];exact rat_none _ _ _
 ·rw[e3];exact zC9 _ _
theorem PlanOut.yes {x:Pl} {t:Tm} {n0:Nat} {W:World} (h:x.code t=0) {a0 a1 a2 a3:Option Addr} {c0 c1 c2 c3:Nat} (h0:DaysAt W a0 (t.dd x.X x.q) (x.q+1+1) c0) (h1:DaysAt W a1 x.V (x.q+1+1) c1) (h2:RatAt W a2 x.P x.Q (x.q+1) c2) (h3:DaysAt W a3 x.GV (x.ns t) c3) (hb:∀g,a2=some g→n0≤g.block) :
  PlanOut x t n0 (.returned (.tuple #[.agg #[.slice a0 (x.q+1+1) c0,.slice a1 (x.q+1+1) c1,.slice a2 (x.q+1) c2,t.eo,(x.V (x.q+1):Int),(fr t.ms),.slice a3 (x.ns t) c3],(0:Int)])) W:=by
 have e1:x.n t=x.q+1+1:=if_pos h
 have e2:x.np t=x.q+1:=if_pos h
 have e3:x.ng t=x.ns t:=if_pos h
 have e4:x.eo t=t.eo:=if_pos h
 have e5:x.en t=x.V (x.q+1):=if_pos h
 have e6:x.f t=fr t.ms:=if_pos h
 refine⟨a0,a1,a2,a3,c0,c1,c2,c3,?_,?_,?_,?_,?_,hb⟩
 ·rw[e1,e2,e3,e4,e5,e6,h]
 ·rw[e1];exact h0
 ·rw[e1];exact h1
 ·rw[e2];exact h2
 ·rw[e3];exact h3
end Go.Proofs.YtpfgdfpaoldhcaaGreatDoor
