/- Several texts in one: GTyR. -/
import Derived.Test.YtpfgdfpaoldhcaaGreatDoorSuAD
import Derived.Test.YtpfgdfpaoldhcaaGreatDoorSuAH
set_option maxHeartbeats 8000000
set_option maxRecDepth 100000
set_option linter.unusedVariables false
set_option linter.unusedSimpArgs false
namespace Go.Proofs.YtpfgdfpaoldhcaaGreatDoor
open Go.RowKit
theorem zq06f {P:Prop} (h:P:=by
 subst h
 by_cases h1:1≤n
 ·have h2:decide (1≤n∧n≤3652059)=decide (n≤3652059):=by simp[h1]
  rw[h2]
  go_enter Tryz.func31,Tryz.ntmps31
  go_wp2
  go_ret
  exact⟨rfl,Below.refl _ _⟩
 ·have h2:decide (1≤n∧n≤3652059)=false:=by simp[h1]
  have h3:decide (1≤n)=false:=by simp[h1]
  rw[h2]
  go_enter Tryz.func31,Tryz.ntmps31
  go_wp2
  go_ret
  exact⟨rfl,Below.refl _ _⟩):P:=h
theorem zBm (n:Int) (b:Bool) (w:World) (h:decide (1≤n∧n≤3652059)=b):Calls Tryz.prog 31 #[n] w fun e w'=>e=.returned b∧Below w w w':=by
 exact zq06f
theorem zTu (a b:Int) (w:World) (h:a<1∨3652059<a) :
  Calls Tryz.prog 65 #[a,b] w fun e' w'=>e'=.returned (3:Int)∧Below w w w':=by
 have H:=Held.start w
 have D1:Hid (decide (1≤a∧a≤3652059)=false):=zh (by rw[decide_eq_false_iff_not];omega)
 obtain⟨x,hx⟩:∃x,decide (1≤b∧b≤3652059)=x:=⟨_,rfl⟩
 have D2:=zh hx
 clear h hx
 go_enter Tryz.func65,Tryz.ntmps65
 go_wp2_with fail
 revert H
 with_reducible refine zG (fun _=>zBm a false _ D1.out) ?_
 intro w1 H
 go_wp2_with fail
 revert H
 with_reducible refine zG (fun _=>zBm b x _ D2.out) ?_
 intro w2 H
 go_wp2_with fail
 go_ret
 exact⟨rfl,H.old⟩
theorem zTw (a b:Int) (w:World) (h1:1≤a∧a≤3652059) (h:b<1∨3652059<b) :
  Calls Tryz.prog 65 #[a,b] w fun e' w'=>e'=.returned (3:Int)∧Below w w w':=by
 have H:=Held.start w
 have D1:Hid (decide (1≤a∧a≤3652059)=true):=zh (by rw[decide_eq_true_eq];exact h1)
 have D2:Hid (decide (1≤b∧b≤3652059)=false):=zh (by rw[decide_eq_false_iff_not];omega)
 clear h h1
 go_enter Tryz.func65,Tryz.ntmps65
 go_wp2_with fail
 revert H
 with_reducible refine zG (fun _=>zBm a true _ D1.out) ?_
 intro w1 H
 go_wp2_with fail
 revert H
 with_reducible refine zG (fun _=>zBm b false _ D2.out) ?_
 intro w2 H
 go_wp2_with fail
 go_ret
 exact⟨rfl,H.old⟩
theorem zqdfr {P:Prop} (h:P:=by
 have H:=Held.start w
 have D1:Hid (decide (1≤a∧a≤3652059)=true):=zh (by rw[decide_eq_true_eq];exact h1)
 have D2:Hid (decide (1≤b∧b≤3652059)=true):=zh (by rw[decide_eq_true_eq];exact h2)
 clear h1 h2
 go_enter Tryz.func65,Tryz.ntmps65
 go_wp2_with fail
 revert H
 with_reducible refine zG (fun _=>zBm a true _ D1.out) ?_
 intro w1 H
 go_wp2_with fail
 revert H
 with_reducible refine zG (fun _=>zBm b true _ D2.out) ?_
 intro w2 H
 go_wp2_with fail
 go_ret
 exact⟨rfl,H.old⟩):P:=h
theorem zP7 (a b:Int) (w:World) (h1:1≤a∧a≤3652059) (h2:1≤b∧b≤3652059) (h:a>b) :
  Calls Tryz.prog 65 #[a,b] w fun e' w'=>e'=.returned (4:Int)∧Below w w w':=by
 exact zqdfr
theorem zP9 (a b:Int) (w:World) (h1:1≤a∧a≤3652059) (h2:1≤b∧b≤3652059) (h:¬a>b) :
  Calls Tryz.prog 65 #[a,b] w fun e' w'=>e'=.returned (0:Int)∧Below w w w':=by
 exact zqdfr
def zAc (a b c:Int):Prop:=(((a<1∨3652059<a)∨(b<1∨3652059<b))∧c=3)∨((1≤a∧a≤3652059)∧(1≤b∧b≤3652059)∧b<a∧c=4)∨((1≤a∧a≤3652059)∧(1≤b∧b≤3652059)∧a≤b∧c=0)
theorem zA4 (a b c:Int) (w:World) (h:zAc a b c):Calls Tryz.prog 65 #[a,b] w fun e' w'=>e'=.returned c∧Below w w w':=by
 rcases h with⟨h,rfl⟩ | ⟨h1,h2,h,rfl⟩ | ⟨h1,h2,h,rfl⟩
 ·by_cases h1:a<1∨3652059<a
  ·exact zTu a b w h1
  ·exact zTw a b w zo zo
 ·exact zP7 a b w h1 h2 h
 ·exact zP9 a b w h1 h2 zo
theorem zqj05 {P:Prop} (h:P:=by
 clear hr
 go_enter Tryz.func67,Tryz.ntmps67
 go_wp2_with fail
 replace H:=(((H.triple w y1 m1 a1 86 rfl).triple (w+1) y2 m2 a2 86 zs).pair (w+2) (0:Int) (0:Int) 48 zs)
 revert H
 with_reducible refine zG (fun _=>C1.out _) ?_
 intro w1 H
 obtain⟨cz0,cz1⟩:=H.cells2 (w+2)
 have lz:=H.lt (w+2) 0 (0:Int) i0_
 obtain⟨fz0,fz1⟩:=H.frozens2 (w+2)
 have HK:=H.old
 clear H
 go_wp2_with fail
 exact bodyPost_ret (v:=.tuple #[.agg #[p,q],c]) (by simp[results,Tryz.results67,go_sem,cz0,cz1]) rfl ⟨rfl,(HK.setCell zw _).setCell zw _⟩):P:=h
theorem zT9 (y1 m1 a1 y2 m2 a2 d1 d2 p q c:Int) (w:World) (by1:1≤y1∧y1≤9999) (by2:1≤y2∧y2≤9999) (bm1:1≤m1∧m1≤12) (bm2:1≤m2∧m2≤12) (bd1:0≤d1∧d1≤31) (bd2:0≤d2∧d2≤31) (hx:360*(y2-y1)+30*(m2-m1)+(d2-d1)<0) (hr:rN 0 360=p∧rD 0 360=q∧rE 0 360=c) :
  Calls Tryz.prog 67 #[.agg #[y1,m1,a1],.agg #[y2,m2,a2],d1,d2] w fun e' w'=>e'=.returned (.tuple #[.agg #[p,q],c])∧Below w w w':=by
 have H:=Held.start w
 have C1:Hid (∀v,Calls Tryz.prog 70 #[(0:Int),(360:Int)] v fun e w'=>e=.returned (.tuple #[.agg #[p,q],c])∧Below v v w'):=zh (fun v=>by have:=zDt 0 360 v zo zo zd zd;rwa [hr.1,hr.2.1,hr.2.2] at this)
 exact zqj05
theorem zTa (y1 m1 a1 y2 m2 a2 d1 d2 x p q c:Int) (w:World) (by1:1≤y1∧y1≤9999) (by2:1≤y2∧y2≤9999) (bm1:1≤m1∧m1≤12) (bm2:1≤m2∧m2≤12) (bd1:0≤d1∧d1≤31) (bd2:0≤d2∧d2≤31) (hx:¬x<0) (he:360*(y2-y1)+30*(m2-m1)+(d2-d1)=x) (hr:rN x 360=p∧rD x 360=q∧rE x 360=c) :
  Calls Tryz.prog 67 #[.agg #[y1,m1,a1],.agg #[y2,m2,a2],d1,d2] w fun e' w'=>e'=.returned (.tuple #[.agg #[p,q],c])∧Below w w w':=by
 have H:=Held.start w
 have hb:x≤10000000:=zo
 have C1:Hid (∀v,Calls Tryz.prog 70 #[x,(360:Int)] v fun e w'=>e=.returned (.tuple #[.agg #[p,q],c])∧Below v v w'):=zh (fun v=>by have:=zDt x 360 v zo zo zd zd;rwa [hr.1,hr.2.1,hr.2.2] at this)
 exact zqj05
theorem zAe (y1 m1 a1 y2 m2 a2 d1 d2 p q:Int) (w:World) (by1:1≤y1∧y1≤9999) (by2:1≤y2∧y2≤9999) (bm1:1≤m1∧m1≤12) (bm2:1≤m2∧m2≤12) (bd1:0≤d1∧d1≤31) (bd2:0≤d2∧d2≤31) (hp:rN (px y1 m1 d1 y2 m2 d2) 360=p) (hq:rD (px y1 m1 d1 y2 m2 d2) 360=q):Calls Tryz.prog 67 #[.agg #[y1,m1,a1],.agg #[y2,m2,a2],d1,d2] w fun e' w'=>e'=.returned (.tuple #[.agg #[p,q],(0:Int)])∧Below w w w':=by
 have bd:=zSe y1 m1 d1 y2 m2 d2 by1.1 by1.2 by2.1 by2.2 bm1.1 bm1.2 bm2.1 bm2.2 bd1.1 bd1.2 bd2.1 bd2.2
 have he:=(zCo (zBz _ bd.1 bd.2)).2.2
 by_cases hx:360*(y2-y1)+30*(m2-m1)+(d2-d1)<0
 ·have e:px y1 m1 d1 y2 m2 d2=0:=by unfold px;rw[if_pos hx]
  rw[e] at hp hq he
  exact zT9 y1 m1 a1 y2 m2 a2 d1 d2 p q 0 w by1 by2 bm1 bm2 bd1 bd2 hx ⟨hp,hq,he⟩
 ·have e:px y1 m1 d1 y2 m2 d2=360*(y2-y1)+30*(m2-m1)+(d2-d1):=by unfold px;rw[if_neg hx]
  rw[e] at hp hq he
  exact zTa y1 m1 a1 y2 m2 a2 d1 d2 _ p q 0 w by1 by2 bm1 bm2 bd1 bd2 hx rfl ⟨hp,hq,he⟩
theorem zqs3r {P:Prop} (h:P:=by
 intro w4 H
 obtain⟨cz0,cz1⟩:=H.cells2 w
 have lz:=H.lt w 0 (0:Int) i12_
 obtain⟨fz0,fz1⟩:=H.frozens2 w
 have HK:=H.old
 clear H
 go_wp2_with fail
 exact bodyPost_ret (v:=.tuple #[.agg #[p,q],(0:Int)]) (by simp[results,Tryz.results45,go_sem,cz0,cz1]) rfl ⟨rfl,(HK.setCell zw _).setCell zw _⟩):P:=h
theorem re_11 (a b y1 m1 y2 m2 p q:Int) (w:World) (h1:may y1 m1 31) (ha:nb y1 m1 31=a) (h2:may y2 m2 31) (hb:nb y2 m2 31=b) (hab:a≤b)  (hp:rN (px y1 m1 30 y2 m2 30) 360=p) (hq:rD (px y1 m1 30 y2 m2 30) 360=q) :
  Calls Tryz.prog 45 #[a,b] w fun e' w'=>e'=.returned (.tuple #[.agg #[p,q],(0:Int)])∧Below w w w':=by
 have H:=Held.start w
 have b1:=zAd _ _ _ h1
 have b2:=zAd _ _ _ h2
 rw[ha] at b1
 rw[hb] at b2
 have W1:Hid (zAc a b 0):=zh (Or.inr (Or.inr ⟨b1,b2,hab,rfl⟩))
 have O1:Hid (zAf a y1 m1 31 0):=zh (Or.inl ⟨h1,ha,rfl⟩)
 have O2:Hid (zAf b y2 m2 31 0):=zh (Or.inl ⟨h2,hb,rfl⟩)
 have l1:=zAh y1 m1
 have l2:=zAh y2 m2
 obtain⟨u1,u2,u3,u4,u5,u6⟩:=h1
 obtain⟨v1,v2,v3,v4,v5,v6⟩:=h2
 have w1:0≤31∧31≤31:=zo
 have w2:0≤31∧31≤31:=zo
 clear l1 l2
 have HP:=zh hp
 have HQ:=zh hq
 clear hp hq
 clear ha hb hab u6 v6
 go_enter Tryz.func45,Tryz.ntmps45
 go_wp2_with fail
 replace H:=(H.pair w (0:Int) (0:Int) 48 rfl)
 revert H
 with_reducible refine zG (fun _=>zA4 a b 0 _ W1.out) ?_
 intro w1 H
 go_wp2_with fail
 revert H
 with_reducible refine zG (fun _=>zA5 a y1 m1 31 0 _ O1.out) ?_
 intro w2 H
 go_wp2_with fail
 replace H:=(H.triple w2 y1 m1 (31:Int) 86 rfl)
 revert H
 with_reducible refine zG (fun _=>zA5 b y2 m2 31 0 _ O2.out) ?_
 intro w3 H
 obtain⟨ca0,ca1,ca2⟩:=H.cells3 w2
 have la:=H.lt w2 0 y1 i0_
 go_wp2_with fail
 clear ca0 ca1 ca2 la
 replace H:=(H.triple w3 y2 m2 (31:Int) 86 rfl)
 revert H
 with_reducible refine zG (fun _=>zAe y1 m1 31 y2 m2 31 30 30 p q _ ⟨u1,u2⟩ ⟨v1,v2⟩ ⟨u3,u4⟩ ⟨v3,v4⟩ zo zo HP.out HQ.out) ?_
 exact zqs3r
theorem re_10 (a b y1 m1 y2 m2 d2 p q:Int) (w:World) (h1:may y1 m1 31) (ha:nb y1 m1 31=a) (h2:may y2 m2 d2) (hb:nb y2 m2 d2=b) (hab:a≤b)  (n2:d2≠31) (hp:rN (px y1 m1 30 y2 m2 d2) 360=p) (hq:rD (px y1 m1 30 y2 m2 d2) 360=q) :
  Calls Tryz.prog 45 #[a,b] w fun e' w'=>e'=.returned (.tuple #[.agg #[p,q],(0:Int)])∧Below w w w':=by
 have H:=Held.start w
 have b1:=zAd _ _ _ h1
 have b2:=zAd _ _ _ h2
 rw[ha] at b1
 rw[hb] at b2
 have W1:Hid (zAc a b 0):=zh (Or.inr (Or.inr ⟨b1,b2,hab,rfl⟩))
 have O1:Hid (zAf a y1 m1 31 0):=zh (Or.inl ⟨h1,ha,rfl⟩)
 have O2:Hid (zAf b y2 m2 d2 0):=zh (Or.inl ⟨h2,hb,rfl⟩)
 have l1:=zAh y1 m1
 have l2:=zAh y2 m2
 obtain⟨u1,u2,u3,u4,u5,u6⟩:=h1
 obtain⟨v1,v2,v3,v4,v5,v6⟩:=h2
 have w1:0≤31∧31≤31:=zo
 have w2:0≤d2∧d2≤31:=zo
 clear l1 l2
 have HP:=zh hp
 have HQ:=zh hq
 clear hp hq
 have t2:(d2==31)=false:=beq_eq_false_iff_ne.2 n2
 clear ha hb hab u6 v6
 go_enter Tryz.func45,Tryz.ntmps45
 go_wp2_with fail
 replace H:=(H.pair w (0:Int) (0:Int) 48 rfl)
 revert H
 with_reducible refine zG (fun _=>zA4 a b 0 _ W1.out) ?_
 intro w1 H
 go_wp2_with fail
 revert H
 with_reducible refine zG (fun _=>zA5 a y1 m1 31 0 _ O1.out) ?_
 intro w2 H
 go_wp2_with fail
 replace H:=(H.triple w2 y1 m1 (31:Int) 86 rfl)
 revert H
 with_reducible refine zG (fun _=>zA5 b y2 m2 d2 0 _ O2.out) ?_
 intro w3 H
 obtain⟨ca0,ca1,ca2⟩:=H.cells3 w2
 have la:=H.lt w2 0 y1 i0_
 go_wp2_with fail
 clear ca0 ca1 ca2 la
 replace H:=(H.triple w3 y2 m2 d2 86 rfl)
 revert H
 with_reducible refine zG (fun _=>zAe y1 m1 31 y2 m2 d2 30 d2 p q _ ⟨u1,u2⟩ ⟨v1,v2⟩ ⟨u3,u4⟩ ⟨v3,v4⟩ zo zo HP.out HQ.out) ?_
 exact zqs3r
theorem re_01 (a b y1 m1 d1 y2 m2 p q:Int) (w:World) (h1:may y1 m1 d1) (ha:nb y1 m1 d1=a) (h2:may y2 m2 31) (hb:nb y2 m2 31=b) (hab:a≤b)  (n1:d1≠31) (hp:rN (px y1 m1 d1 y2 m2 30) 360=p) (hq:rD (px y1 m1 d1 y2 m2 30) 360=q) :
  Calls Tryz.prog 45 #[a,b] w fun e' w'=>e'=.returned (.tuple #[.agg #[p,q],(0:Int)])∧Below w w w':=by
 have H:=Held.start w
 have b1:=zAd _ _ _ h1
 have b2:=zAd _ _ _ h2
 rw[ha] at b1
 rw[hb] at b2
 have W1:Hid (zAc a b 0):=zh (Or.inr (Or.inr ⟨b1,b2,hab,rfl⟩))
 have O1:Hid (zAf a y1 m1 d1 0):=zh (Or.inl ⟨h1,ha,rfl⟩)
 have O2:Hid (zAf b y2 m2 31 0):=zh (Or.inl ⟨h2,hb,rfl⟩)
 have l1:=zAh y1 m1
 have l2:=zAh y2 m2
 obtain⟨u1,u2,u3,u4,u5,u6⟩:=h1
 obtain⟨v1,v2,v3,v4,v5,v6⟩:=h2
 have w1:0≤d1∧d1≤31:=zo
 have w2:0≤31∧31≤31:=zo
 clear l1 l2
 have HP:=zh hp
 have HQ:=zh hq
 clear hp hq
 have t1:(d1==31)=false:=beq_eq_false_iff_ne.2 n1
 clear ha hb hab u6 v6
 go_enter Tryz.func45,Tryz.ntmps45
 go_wp2_with fail
 replace H:=(H.pair w (0:Int) (0:Int) 48 rfl)
 revert H
 with_reducible refine zG (fun _=>zA4 a b 0 _ W1.out) ?_
 intro w1 H
 go_wp2_with fail
 revert H
 with_reducible refine zG (fun _=>zA5 a y1 m1 d1 0 _ O1.out) ?_
 intro w2 H
 go_wp2_with fail
 replace H:=(H.triple w2 y1 m1 d1 86 rfl)
 revert H
 with_reducible refine zG (fun _=>zA5 b y2 m2 31 0 _ O2.out) ?_
 intro w3 H
 obtain⟨ca0,ca1,ca2⟩:=H.cells3 w2
 have la:=H.lt w2 0 y1 i0_
 go_wp2_with fail
 clear ca0 ca1 ca2 la
 replace H:=(H.triple w3 y2 m2 (31:Int) 86 rfl)
 revert H
 with_reducible refine zG (fun _=>zAe y1 m1 d1 y2 m2 31 d1 30 p q _ ⟨u1,u2⟩ ⟨v1,v2⟩ ⟨u3,u4⟩ ⟨v3,v4⟩ zo zo HP.out HQ.out) ?_
 exact zqs3r
theorem re_00 (a b y1 m1 d1 y2 m2 d2 p q:Int) (w:World) (h1:may y1 m1 d1) (ha:nb y1 m1 d1=a) (h2:may y2 m2 d2) (hb:nb y2 m2 d2=b) (hab:a≤b)  (n1:d1≠31) (n2:d2≠31) (hp:rN (px y1 m1 d1 y2 m2 d2) 360=p) (hq:rD (px y1 m1 d1 y2 m2 d2) 360=q) :
  Calls Tryz.prog 45 #[a,b] w fun e' w'=>e'=.returned (.tuple #[.agg #[p,q],(0:Int)])∧Below w w w':=by
 have H:=Held.start w
 have b1:=zAd _ _ _ h1
 have b2:=zAd _ _ _ h2
 rw[ha] at b1
 rw[hb] at b2
 have W1:Hid (zAc a b 0):=zh (Or.inr (Or.inr ⟨b1,b2,hab,rfl⟩))
 have O1:Hid (zAf a y1 m1 d1 0):=zh (Or.inl ⟨h1,ha,rfl⟩)
 have O2:Hid (zAf b y2 m2 d2 0):=zh (Or.inl ⟨h2,hb,rfl⟩)
 have l1:=zAh y1 m1
 have l2:=zAh y2 m2
 obtain⟨u1,u2,u3,u4,u5,u6⟩:=h1
 obtain⟨v1,v2,v3,v4,v5,v6⟩:=h2
 have w1:0≤d1∧d1≤31:=zo
 have w2:0≤d2∧d2≤31:=zo
 clear l1 l2
 have HP:=zh hp
 have HQ:=zh hq
 clear hp hq
 have t1:(d1==31)=false:=beq_eq_false_iff_ne.2 n1
 have t2:(d2==31)=false:=beq_eq_false_iff_ne.2 n2
 clear ha hb hab u6 v6
 go_enter Tryz.func45,Tryz.ntmps45
 go_wp2_with fail
 replace H:=(H.pair w (0:Int) (0:Int) 48 rfl)
 revert H
 with_reducible refine zG (fun _=>zA4 a b 0 _ W1.out) ?_
 intro w1 H
 go_wp2_with fail
 revert H
 with_reducible refine zG (fun _=>zA5 a y1 m1 d1 0 _ O1.out) ?_
 intro w2 H
 go_wp2_with fail
 replace H:=(H.triple w2 y1 m1 d1 86 rfl)
 revert H
 with_reducible refine zG (fun _=>zA5 b y2 m2 d2 0 _ O2.out) ?_
 intro w3 H
 obtain⟨ca0,ca1,ca2⟩:=H.cells3 w2
 have la:=H.lt w2 0 y1 i0_
 go_wp2_with fail
 clear ca0 ca1 ca2 la
 replace H:=(H.triple w3 y2 m2 d2 86 rfl)
 revert H
 with_reducible refine zG (fun _=>zAe y1 m1 d1 y2 m2 d2 d1 d2 p q _ ⟨u1,u2⟩ ⟨v1,v2⟩ ⟨u3,u4⟩ ⟨v3,v4⟩ zo zo HP.out HQ.out) ?_
 exact zqs3r
theorem re_day (a b:Int) (w:World) (h:(a<1∨3652059<a)∨(b<1∨3652059<b)) :
  Calls Tryz.prog 45 #[a,b] w fun e' w'=>e'=.returned (.tuple #[.agg #[(0:Int),(0:Int)],(3:Int)])∧Below w w w':=by
 have H:=Held.start w
 have W1:Hid (zAc a b 3):=zh (Or.inl ⟨h,rfl⟩)
 go_enter Tryz.func45,Tryz.ntmps45
 go_wp2_with fail
 replace H:=(H.pair w (0:Int) (0:Int) 48 rfl)
 revert H
 with_reducible refine zG (fun _=>zA4 a b 3 _ W1.out) ?_
 intro w1 H
 obtain⟨cz0,cz1⟩:=H.cells2 w
 have lz:=H.lt w 0 (0:Int) i0_
 obtain⟨fz0,fz1⟩:=H.frozens2 w
 have HK:=H.old
 clear H
 go_wp2_with fail
 exact bodyPost_ret (v:=.tuple #[.agg #[(0:Int),(0:Int)],(3:Int)]) (by simp[results,Tryz.results45,go_sem,cz0,cz1]) rfl ⟨rfl,(HK.setCell zw _).setCell zw _⟩
theorem re_order (a b:Int) (w:World) (h1:1≤a∧a≤3652059) (h2:1≤b∧b≤3652059) (h:b<a) :
  Calls Tryz.prog 45 #[a,b] w fun e' w'=>e'=.returned (.tuple #[.agg #[(0:Int),(0:Int)],(4:Int)])∧Below w w w':=by
 have H:=Held.start w
 have W1:Hid (zAc a b 4):=zh (Or.inr (Or.inl ⟨h1,h2,h,rfl⟩))
 go_enter Tryz.func45,Tryz.ntmps45
 go_wp2_with fail
 replace H:=(H.pair w (0:Int) (0:Int) 48 rfl)
 revert H
 with_reducible refine zG (fun _=>zA4 a b 4 _ W1.out) ?_
 intro w1 H
 obtain⟨cz0,cz1⟩:=H.cells2 w
 have lz:=H.lt w 0 (0:Int) i0_
 obtain⟨fz0,fz1⟩:=H.frozens2 w
 have HK:=H.old
 clear H
 go_wp2_with fail
 exact bodyPost_ret (v:=.tuple #[.agg #[(0:Int),(0:Int)],(4:Int)]) (by simp[results,Tryz.results45,go_sem,cz0,cz1]) rfl ⟨rfl,(HK.setCell zw _).setCell zw _⟩
theorem re_any (a b p q c:Int) (w:World) (h:zBd eX a b p q c):Calls Tryz.prog 45 #[a,b] w fun e' w'=>e'=.returned (.tuple #[.agg #[p,q],c])∧Below w w w':=by
 rcases h with⟨y1,m1,d1,y2,m2,d2,h1,ha,h2,hb,hab,hp,hq,rfl⟩ | ⟨h,rfl,rfl,rfl⟩ | ⟨h1,h2,h,rfl,rfl,rfl⟩
 ·unfold eX cutD at hp hq
  by_cases n1:d1=31
  ·subst n1
   by_cases n2:d2=31
   ·subst n2
    exact re_11 a b y1 m1 y2 m2 p q w h1 ha h2 hb hab (by simpa using hp) (by simpa using hq)
   ·rw[if_neg n2] at hp hq
    exact re_10 a b y1 m1 y2 m2 d2 p q w h1 ha h2 hb hab n2 (by simpa using hp) (by simpa using hq)
  ·rw[if_neg n1] at hp hq
   by_cases n2:d2=31
   ·subst n2
    exact re_01 a b y1 m1 d1 y2 m2 p q w h1 ha h2 hb hab n1 (by simpa using hp) (by simpa using hq)
   ·rw[if_neg n2] at hp hq
    exact re_00 a b y1 m1 d1 y2 m2 d2 p q w h1 ha h2 hb hab n1 n2 hp hq
 ·exact re_day a b w h
 ·exact re_order a b w h1 h2 h
theorem zqhpl {P:Prop} (h:P:=by
 intro w6 H
 obtain⟨cz0,cz1⟩:=H.cells2 w
 have lz:=H.lt w 0 (0:Int) i12_
 obtain⟨fz0,fz1⟩:=H.frozens2 w
 have HK:=H.old
 clear H
 go_wp2_with fail
 exact bodyPost_ret (v:=.tuple #[.agg #[p,q],(0:Int)]) (by simp[results,Tryz.results46,go_sem,cz0,cz1]) rfl ⟨rfl,(HK.setCell zw _).setCell zw _⟩):P:=h
theorem zqshs {P:Prop} (h:P:=by
 intro w5 H
 obtain⟨ca0,ca1,ca2⟩:=H.cells3 w2
 have la:=H.lt w2 0 y1 i6_
 obtain⟨cb0,cb1,cb2⟩:=H.cells3 w3
 have lb:=H.lt w3 0 y2 i0_
 go_wp2_with fail
 clear ca0 ca1 ca2 la cb0 cb1 cb2 lb
 revert H
 with_reducible refine zG (fun _=>zAe y1 m1 d1 y2 m2 d2 d1 d2 p q _ ⟨u1,u2⟩ ⟨v1,v2⟩ ⟨u3,u4⟩ ⟨v3,v4⟩ zo zo HP.out HQ.out) ?_
 exact zqhpl):P:=h
theorem risda_00 (a b y1 m1 d1 y2 m2 d2 p q:Int) (k:Int) (w:World) (h1:may y1 m1 d1) (ha:nb y1 m1 d1=a) (h2:may y2 m2 d2) (hb:nb y2 m2 d2=b) (hab:a≤b) (hl1:decide (d1=ln y1 m1)=false) (hl2:decide (d2=ln y2 m2)=false)  (hp:rN (px y1 m1 d1 y2 m2 d2) 360=p) (hq:rD (px y1 m1 d1 y2 m2 d2) 360=q) :
  Calls Tryz.prog 46 #[a,b,k] w fun e' w'=>e'=.returned (.tuple #[.agg #[p,q],(0:Int)])∧Below w w w':=by
 have H:=Held.start w
 have b1:=zAd _ _ _ h1
 have b2:=zAd _ _ _ h2
 rw[ha] at b1
 rw[hb] at b2
 have W1:Hid (zAc a b 0):=zh (Or.inr (Or.inr ⟨b1,b2,hab,rfl⟩))
 have O1:Hid (zAf a y1 m1 d1 0):=zh (Or.inl ⟨h1,ha,rfl⟩)
 have O2:Hid (zAf b y2 m2 d2 0):=zh (Or.inl ⟨h2,hb,rfl⟩)
 have l1:=zAh y1 m1
 have l2:=zAh y2 m2
 obtain⟨u1,u2,u3,u4,u5,u6⟩:=h1
 obtain⟨v1,v2,v3,v4,v5,v6⟩:=h2
 have w1:0≤d1∧d1≤31:=zo
 have w2:0≤d2∧d2≤31:=zo
 clear l1 l2
 have HP:=zh hp
 have HQ:=zh hq
 clear hp hq
 have L1:Hid (zB6 a false):=zh (zAy y1 m1 d1 ⟨u1,u2,u3,u4,u5,u6⟩ ha hl1)
 have L2:Hid (zB6 b false):=zh (zAy y2 m2 d2 ⟨v1,v2,v3,v4,v5,v6⟩ hb hl2)
 clear hl1 hl2
 clear ha hb hab u6 v6
 go_enter Tryz.func46,Tryz.ntmps46
 go_wp2_with fail
 replace H:=(H.pair w (0:Int) (0:Int) 48 rfl)
 revert H
 with_reducible refine zG (fun _=>zA4 a b 0 _ W1.out) ?_
 intro w1 H
 go_wp2_with fail
 revert H
 with_reducible refine zG (fun _=>zA5 a y1 m1 d1 0 _ O1.out) ?_
 intro w2 H
 go_wp2_with fail
 replace H:=(H.triple w2 y1 m1 d1 86 rfl)
 revert H
 with_reducible refine zG (fun _=>zA5 b y2 m2 d2 0 _ O2.out) ?_
 intro w3 H
 obtain⟨ca0,ca1,ca2⟩:=H.cells3 w2
 have la:=H.lt w2 0 y1 i0_
 go_wp2_with fail
 clear ca0 ca1 ca2 la
 replace H:=(H.triple w3 y2 m2 d2 86 rfl)
 revert H
 with_reducible refine zG (fun _=>zAn a false _ L1.out) ?_
 intro w4 H
 obtain⟨ca0,ca1,ca2⟩:=H.cells3 w2
 have la:=H.lt w2 0 y1 i6_
 obtain⟨cb0,cb1,cb2⟩:=H.cells3 w3
 have lb:=H.lt w3 0 y2 i0_
 go_wp2_with fail
 clear ca0 ca1 ca2 la cb0 cb1 cb2 lb
 revert H
 with_reducible refine zG (fun _=>zAn b false _ L2.out) ?_
 exact zqshs
theorem zqync {P:Prop} (h:P:=by
 clear ha hb hab u6 v6
 go_enter Tryz.func46,Tryz.ntmps46
 go_wp2_with fail
 replace H:=(H.pair w (0:Int) (0:Int) 48 rfl)
 revert H
 with_reducible refine zG (fun _=>zA4 a b 0 _ W1.out) ?_
 intro w1 H
 go_wp2_with fail
 revert H
 with_reducible refine zG (fun _=>zA5 a y1 m1 d1 0 _ O1.out) ?_
 intro w2 H
 go_wp2_with fail
 replace H:=(H.triple w2 y1 m1 d1 86 rfl)
 revert H
 with_reducible refine zG (fun _=>zA5 b y2 m2 d2 0 _ O2.out) ?_
 intro w3 H
 obtain⟨ca0,ca1,ca2⟩:=H.cells3 w2
 have la:=H.lt w2 0 y1 i0_
 go_wp2_with fail
 clear ca0 ca1 ca2 la
 replace H:=(H.triple w3 y2 m2 d2 86 rfl)
 revert H
 with_reducible refine zG (fun _=>zAn a false _ L1.out) ?_
 intro w4 H
 obtain⟨ca0,ca1,ca2⟩:=H.cells3 w2
 have la:=H.lt w2 0 y1 i6_
 obtain⟨cb0,cb1,cb2⟩:=H.cells3 w3
 have lb:=H.lt w3 0 y2 i0_
 go_wp2_with fail
 clear ca0 ca1 ca2 la cb0 cb1 cb2 lb
 revert H
 with_reducible refine zG (fun _=>zAn b true _ L2.out) ?_
 intro w5 H
 obtain⟨ca0,ca1,ca2⟩:=H.cells3 w2
 have la:=H.lt w2 0 y1 i6_
 obtain⟨cb0,cb1,cb2⟩:=H.cells3 w3
 have lb:=H.lt w3 0 y2 i0_
 go_wp2_with fail
 clear ca0 ca1 ca2 la cb0 cb1 cb2 lb
 revert H
 with_reducible refine zG (fun _=>zAe y1 m1 d1 y2 m2 d2 d1 30 p q _ ⟨u1,u2⟩ ⟨v1,v2⟩ ⟨u3,u4⟩ ⟨v3,v4⟩ zo zo HP.out HQ.out) ?_
 exact zqhpl):P:=h
theorem risda_01 (a b y1 m1 d1 y2 m2 d2 p q:Int) (k:Int) (w:World) (h1:may y1 m1 d1) (ha:nb y1 m1 d1=a) (h2:may y2 m2 d2) (hb:nb y2 m2 d2=b) (hab:a≤b) (hl1:decide (d1=ln y1 m1)=false) (hl2:decide (d2=ln y2 m2)=true) (hk:b≠k) (hp:rN (px y1 m1 d1 y2 m2 30) 360=p) (hq:rD (px y1 m1 d1 y2 m2 30) 360=q) :
  Calls Tryz.prog 46 #[a,b,k] w fun e' w'=>e'=.returned (.tuple #[.agg #[p,q],(0:Int)])∧Below w w w':=by
 have H:=Held.start w
 have b1:=zAd _ _ _ h1
 have b2:=zAd _ _ _ h2
 rw[ha] at b1
 rw[hb] at b2
 have W1:Hid (zAc a b 0):=zh (Or.inr (Or.inr ⟨b1,b2,hab,rfl⟩))
 have O1:Hid (zAf a y1 m1 d1 0):=zh (Or.inl ⟨h1,ha,rfl⟩)
 have O2:Hid (zAf b y2 m2 d2 0):=zh (Or.inl ⟨h2,hb,rfl⟩)
 have l1:=zAh y1 m1
 have l2:=zAh y2 m2
 obtain⟨u1,u2,u3,u4,u5,u6⟩:=h1
 obtain⟨v1,v2,v3,v4,v5,v6⟩:=h2
 have w1:0≤d1∧d1≤31:=zo
 have w2:0≤d2∧d2≤31:=zo
 clear l1 l2
 have HP:=zh hp
 have HQ:=zh hq
 clear hp hq
 have L1:Hid (zB6 a false):=zh (zAy y1 m1 d1 ⟨u1,u2,u3,u4,u5,u6⟩ ha hl1)
 have L2:Hid (zB6 b true):=zh (zAy y2 m2 d2 ⟨v1,v2,v3,v4,v5,v6⟩ hb hl2)
 clear hl1 hl2
 have t3:(b==k)=false:=beq_eq_false_iff_ne.2 hk
 exact zqync
theorem risda_02 (a b y1 m1 d1 y2 m2 d2 p q:Int) (w:World) (h1:may y1 m1 d1) (ha:nb y1 m1 d1=a) (h2:may y2 m2 d2) (hb:nb y2 m2 d2=b) (hab:a≤b) (hl1:decide (d1=ln y1 m1)=false) (hl2:decide (d2=ln y2 m2)=true) (hm:m2≠2) (hp:rN (px y1 m1 d1 y2 m2 30) 360=p) (hq:rD (px y1 m1 d1 y2 m2 30) 360=q) :
  Calls Tryz.prog 46 #[a,b,b] w fun e' w'=>e'=.returned (.tuple #[.agg #[p,q],(0:Int)])∧Below w w w':=by
 have H:=Held.start w
 have b1:=zAd _ _ _ h1
 have b2:=zAd _ _ _ h2
 rw[ha] at b1
 rw[hb] at b2
 have W1:Hid (zAc a b 0):=zh (Or.inr (Or.inr ⟨b1,b2,hab,rfl⟩))
 have O1:Hid (zAf a y1 m1 d1 0):=zh (Or.inl ⟨h1,ha,rfl⟩)
 have O2:Hid (zAf b y2 m2 d2 0):=zh (Or.inl ⟨h2,hb,rfl⟩)
 have l1:=zAh y1 m1
 have l2:=zAh y2 m2
 obtain⟨u1,u2,u3,u4,u5,u6⟩:=h1
 obtain⟨v1,v2,v3,v4,v5,v6⟩:=h2
 have w1:0≤d1∧d1≤31:=zo
 have w2:0≤d2∧d2≤31:=zo
 clear l1 l2
 have HP:=zh hp
 have HQ:=zh hq
 clear hp hq
 have L1:Hid (zB6 a false):=zh (zAy y1 m1 d1 ⟨u1,u2,u3,u4,u5,u6⟩ ha hl1)
 have L2:Hid (zB6 b true):=zh (zAy y2 m2 d2 ⟨v1,v2,v3,v4,v5,v6⟩ hb hl2)
 clear hl1 hl2
 have t3:(m2==2)=false:=beq_eq_false_iff_ne.2 hm
 exact zqync
theorem risda_03 (a b y1 m1 d1 y2 m2 d2 p q:Int) (w:World) (h1:may y1 m1 d1) (ha:nb y1 m1 d1=a) (h2:may y2 m2 d2) (hb:nb y2 m2 d2=b) (hab:a≤b) (hl1:decide (d1=ln y1 m1)=false) (hl2:decide (d2=ln y2 m2)=true) (hm:m2=2) (hp:rN (px y1 m1 d1 y2 m2 d2) 360=p) (hq:rD (px y1 m1 d1 y2 m2 d2) 360=q) :
  Calls Tryz.prog 46 #[a,b,b] w fun e' w'=>e'=.returned (.tuple #[.agg #[p,q],(0:Int)])∧Below w w w':=by
 have H:=Held.start w
 have b1:=zAd _ _ _ h1
 have b2:=zAd _ _ _ h2
 rw[ha] at b1
 rw[hb] at b2
 have W1:Hid (zAc a b 0):=zh (Or.inr (Or.inr ⟨b1,b2,hab,rfl⟩))
 have O1:Hid (zAf a y1 m1 d1 0):=zh (Or.inl ⟨h1,ha,rfl⟩)
 have O2:Hid (zAf b y2 m2 d2 0):=zh (Or.inl ⟨h2,hb,rfl⟩)
 have l1:=zAh y1 m1
 have l2:=zAh y2 m2
 obtain⟨u1,u2,u3,u4,u5,u6⟩:=h1
 obtain⟨v1,v2,v3,v4,v5,v6⟩:=h2
 have w1:0≤d1∧d1≤31:=zo
 have w2:0≤d2∧d2≤31:=zo
 clear l1 l2
 have HP:=zh hp
 have HQ:=zh hq
 clear hp hq
 have L1:Hid (zB6 a false):=zh (zAy y1 m1 d1 ⟨u1,u2,u3,u4,u5,u6⟩ ha hl1)
 have L2:Hid (zB6 b true):=zh (zAy y2 m2 d2 ⟨v1,v2,v3,v4,v5,v6⟩ hb hl2)
 clear hl1 hl2
 have t3:(m2==2)=true:=by simpa using hm
 clear hm
 clear ha hb hab u6 v6
 go_enter Tryz.func46,Tryz.ntmps46
 go_wp2_with fail
 replace H:=(H.pair w (0:Int) (0:Int) 48 rfl)
 revert H
 with_reducible refine zG (fun _=>zA4 a b 0 _ W1.out) ?_
 intro w1 H
 go_wp2_with fail
 revert H
 with_reducible refine zG (fun _=>zA5 a y1 m1 d1 0 _ O1.out) ?_
 intro w2 H
 go_wp2_with fail
 replace H:=(H.triple w2 y1 m1 d1 86 rfl)
 revert H
 with_reducible refine zG (fun _=>zA5 b y2 m2 d2 0 _ O2.out) ?_
 intro w3 H
 obtain⟨ca0,ca1,ca2⟩:=H.cells3 w2
 have la:=H.lt w2 0 y1 i0_
 go_wp2_with fail
 clear ca0 ca1 ca2 la
 replace H:=(H.triple w3 y2 m2 d2 86 rfl)
 revert H
 with_reducible refine zG (fun _=>zAn a false _ L1.out) ?_
 intro w4 H
 obtain⟨ca0,ca1,ca2⟩:=H.cells3 w2
 have la:=H.lt w2 0 y1 i6_
 obtain⟨cb0,cb1,cb2⟩:=H.cells3 w3
 have lb:=H.lt w3 0 y2 i0_
 go_wp2_with fail
 clear ca0 ca1 ca2 la cb0 cb1 cb2 lb
 revert H
 with_reducible refine zG (fun _=>zAn b true _ L2.out) ?_
 exact zqshs
theorem zql14 {P:Prop} (h:P:=by
 intro w5 H
 obtain⟨ca0,ca1,ca2⟩:=H.cells3 w2
 have la:=H.lt w2 0 y1 i6_
 obtain⟨cb0,cb1,cb2⟩:=H.cells3 w3
 have lb:=H.lt w3 0 y2 i0_
 go_wp2_with fail
 clear ca0 ca1 ca2 la cb0 cb1 cb2 lb
 revert H
 with_reducible refine zG (fun _=>zAe y1 m1 d1 y2 m2 d2 30 d2 p q _ ⟨u1,u2⟩ ⟨v1,v2⟩ ⟨u3,u4⟩ ⟨v3,v4⟩ zo zo HP.out HQ.out) ?_
 exact zqhpl):P:=h
theorem risda_10 (a b y1 m1 d1 y2 m2 d2 p q:Int) (k:Int) (w:World) (h1:may y1 m1 d1) (ha:nb y1 m1 d1=a) (h2:may y2 m2 d2) (hb:nb y2 m2 d2=b) (hab:a≤b) (hl1:decide (d1=ln y1 m1)=true) (hl2:decide (d2=ln y2 m2)=false)  (hp:rN (px y1 m1 30 y2 m2 d2) 360=p) (hq:rD (px y1 m1 30 y2 m2 d2) 360=q) :
  Calls Tryz.prog 46 #[a,b,k] w fun e' w'=>e'=.returned (.tuple #[.agg #[p,q],(0:Int)])∧Below w w w':=by
 have H:=Held.start w
 have b1:=zAd _ _ _ h1
 have b2:=zAd _ _ _ h2
 rw[ha] at b1
 rw[hb] at b2
 have W1:Hid (zAc a b 0):=zh (Or.inr (Or.inr ⟨b1,b2,hab,rfl⟩))
 have O1:Hid (zAf a y1 m1 d1 0):=zh (Or.inl ⟨h1,ha,rfl⟩)
 have O2:Hid (zAf b y2 m2 d2 0):=zh (Or.inl ⟨h2,hb,rfl⟩)
 have l1:=zAh y1 m1
 have l2:=zAh y2 m2
 obtain⟨u1,u2,u3,u4,u5,u6⟩:=h1
 obtain⟨v1,v2,v3,v4,v5,v6⟩:=h2
 have w1:0≤d1∧d1≤31:=zo
 have w2:0≤d2∧d2≤31:=zo
 clear l1 l2
 have HP:=zh hp
 have HQ:=zh hq
 clear hp hq
 have L1:Hid (zB6 a true):=zh (zAy y1 m1 d1 ⟨u1,u2,u3,u4,u5,u6⟩ ha hl1)
 have L2:Hid (zB6 b false):=zh (zAy y2 m2 d2 ⟨v1,v2,v3,v4,v5,v6⟩ hb hl2)
 clear hl1 hl2
 clear ha hb hab u6 v6
 go_enter Tryz.func46,Tryz.ntmps46
 go_wp2_with fail
 replace H:=(H.pair w (0:Int) (0:Int) 48 rfl)
 revert H
 with_reducible refine zG (fun _=>zA4 a b 0 _ W1.out) ?_
 intro w1 H
 go_wp2_with fail
 revert H
 with_reducible refine zG (fun _=>zA5 a y1 m1 d1 0 _ O1.out) ?_
 intro w2 H
 go_wp2_with fail
 replace H:=(H.triple w2 y1 m1 d1 86 rfl)
 revert H
 with_reducible refine zG (fun _=>zA5 b y2 m2 d2 0 _ O2.out) ?_
 intro w3 H
 obtain⟨ca0,ca1,ca2⟩:=H.cells3 w2
 have la:=H.lt w2 0 y1 i0_
 go_wp2_with fail
 clear ca0 ca1 ca2 la
 replace H:=(H.triple w3 y2 m2 d2 86 rfl)
 revert H
 with_reducible refine zG (fun _=>zAn a true _ L1.out) ?_
 intro w4 H
 obtain⟨ca0,ca1,ca2⟩:=H.cells3 w2
 have la:=H.lt w2 0 y1 i6_
 obtain⟨cb0,cb1,cb2⟩:=H.cells3 w3
 have lb:=H.lt w3 0 y2 i0_
 go_wp2_with fail
 clear ca0 ca1 ca2 la cb0 cb1 cb2 lb
 revert H
 with_reducible refine zG (fun _=>zAn b false _ L2.out) ?_
 exact zql14
theorem zqxw3 {P:Prop} (h:P:=by
 clear ha hb hab u6 v6
 go_enter Tryz.func46,Tryz.ntmps46
 go_wp2_with fail
 replace H:=(H.pair w (0:Int) (0:Int) 48 rfl)
 revert H
 with_reducible refine zG (fun _=>zA4 a b 0 _ W1.out) ?_
 intro w1 H
 go_wp2_with fail
 revert H
 with_reducible refine zG (fun _=>zA5 a y1 m1 d1 0 _ O1.out) ?_
 intro w2 H
 go_wp2_with fail
 replace H:=(H.triple w2 y1 m1 d1 86 rfl)
 revert H
 with_reducible refine zG (fun _=>zA5 b y2 m2 d2 0 _ O2.out) ?_
 intro w3 H
 obtain⟨ca0,ca1,ca2⟩:=H.cells3 w2
 have la:=H.lt w2 0 y1 i0_
 go_wp2_with fail
 clear ca0 ca1 ca2 la
 replace H:=(H.triple w3 y2 m2 d2 86 rfl)
 revert H
 with_reducible refine zG (fun _=>zAn a true _ L1.out) ?_
 intro w4 H
 obtain⟨ca0,ca1,ca2⟩:=H.cells3 w2
 have la:=H.lt w2 0 y1 i6_
 obtain⟨cb0,cb1,cb2⟩:=H.cells3 w3
 have lb:=H.lt w3 0 y2 i0_
 go_wp2_with fail
 clear ca0 ca1 ca2 la cb0 cb1 cb2 lb
 revert H
 with_reducible refine zG (fun _=>zAn b true _ L2.out) ?_
 intro w5 H
 obtain⟨ca0,ca1,ca2⟩:=H.cells3 w2
 have la:=H.lt w2 0 y1 i6_
 obtain⟨cb0,cb1,cb2⟩:=H.cells3 w3
 have lb:=H.lt w3 0 y2 i0_
 go_wp2_with fail
 clear ca0 ca1 ca2 la cb0 cb1 cb2 lb
 revert H
 with_reducible refine zG (fun _=>zAe y1 m1 d1 y2 m2 d2 30 30 p q _ ⟨u1,u2⟩ ⟨v1,v2⟩ ⟨u3,u4⟩ ⟨v3,v4⟩ zo zo HP.out HQ.out) ?_
 exact zqhpl):P:=h
theorem risda_11 (a b y1 m1 d1 y2 m2 d2 p q:Int) (k:Int) (w:World) (h1:may y1 m1 d1) (ha:nb y1 m1 d1=a) (h2:may y2 m2 d2) (hb:nb y2 m2 d2=b) (hab:a≤b) (hl1:decide (d1=ln y1 m1)=true) (hl2:decide (d2=ln y2 m2)=true) (hk:b≠k) (hp:rN (px y1 m1 30 y2 m2 30) 360=p) (hq:rD (px y1 m1 30 y2 m2 30) 360=q) :
  Calls Tryz.prog 46 #[a,b,k] w fun e' w'=>e'=.returned (.tuple #[.agg #[p,q],(0:Int)])∧Below w w w':=by
 have H:=Held.start w
 have b1:=zAd _ _ _ h1
 have b2:=zAd _ _ _ h2
 rw[ha] at b1
 rw[hb] at b2
 have W1:Hid (zAc a b 0):=zh (Or.inr (Or.inr ⟨b1,b2,hab,rfl⟩))
 have O1:Hid (zAf a y1 m1 d1 0):=zh (Or.inl ⟨h1,ha,rfl⟩)
 have O2:Hid (zAf b y2 m2 d2 0):=zh (Or.inl ⟨h2,hb,rfl⟩)
 have l1:=zAh y1 m1
 have l2:=zAh y2 m2
 obtain⟨u1,u2,u3,u4,u5,u6⟩:=h1
 obtain⟨v1,v2,v3,v4,v5,v6⟩:=h2
 have w1:0≤d1∧d1≤31:=zo
 have w2:0≤d2∧d2≤31:=zo
 clear l1 l2
 have HP:=zh hp
 have HQ:=zh hq
 clear hp hq
 have L1:Hid (zB6 a true):=zh (zAy y1 m1 d1 ⟨u1,u2,u3,u4,u5,u6⟩ ha hl1)
 have L2:Hid (zB6 b true):=zh (zAy y2 m2 d2 ⟨v1,v2,v3,v4,v5,v6⟩ hb hl2)
 clear hl1 hl2
 have t3:(b==k)=false:=beq_eq_false_iff_ne.2 hk
 exact zqxw3
theorem risda_12 (a b y1 m1 d1 y2 m2 d2 p q:Int) (w:World) (h1:may y1 m1 d1) (ha:nb y1 m1 d1=a) (h2:may y2 m2 d2) (hb:nb y2 m2 d2=b) (hab:a≤b) (hl1:decide (d1=ln y1 m1)=true) (hl2:decide (d2=ln y2 m2)=true) (hm:m2≠2) (hp:rN (px y1 m1 30 y2 m2 30) 360=p) (hq:rD (px y1 m1 30 y2 m2 30) 360=q) :
  Calls Tryz.prog 46 #[a,b,b] w fun e' w'=>e'=.returned (.tuple #[.agg #[p,q],(0:Int)])∧Below w w w':=by
 have H:=Held.start w
 have b1:=zAd _ _ _ h1
 have b2:=zAd _ _ _ h2
 rw[ha] at b1
 rw[hb] at b2
 have W1:Hid (zAc a b 0):=zh (Or.inr (Or.inr ⟨b1,b2,hab,rfl⟩))
 have O1:Hid (zAf a y1 m1 d1 0):=zh (Or.inl ⟨h1,ha,rfl⟩)
 have O2:Hid (zAf b y2 m2 d2 0):=zh (Or.inl ⟨h2,hb,rfl⟩)
 have l1:=zAh y1 m1
 have l2:=zAh y2 m2
 obtain⟨u1,u2,u3,u4,u5,u6⟩:=h1
 obtain⟨v1,v2,v3,v4,v5,v6⟩:=h2
 have w1:0≤d1∧d1≤31:=zo
 have w2:0≤d2∧d2≤31:=zo
 clear l1 l2
 have HP:=zh hp
 have HQ:=zh hq
 clear hp hq
 have L1:Hid (zB6 a true):=zh (zAy y1 m1 d1 ⟨u1,u2,u3,u4,u5,u6⟩ ha hl1)
 have L2:Hid (zB6 b true):=zh (zAy y2 m2 d2 ⟨v1,v2,v3,v4,v5,v6⟩ hb hl2)
 clear hl1 hl2
 have t3:(m2==2)=false:=beq_eq_false_iff_ne.2 hm
 exact zqxw3
theorem risda_13 (a b y1 m1 d1 y2 m2 d2 p q:Int) (w:World) (h1:may y1 m1 d1) (ha:nb y1 m1 d1=a) (h2:may y2 m2 d2) (hb:nb y2 m2 d2=b) (hab:a≤b) (hl1:decide (d1=ln y1 m1)=true) (hl2:decide (d2=ln y2 m2)=true) (hm:m2=2) (hp:rN (px y1 m1 30 y2 m2 d2) 360=p) (hq:rD (px y1 m1 30 y2 m2 d2) 360=q) :
  Calls Tryz.prog 46 #[a,b,b] w fun e' w'=>e'=.returned (.tuple #[.agg #[p,q],(0:Int)])∧Below w w w':=by
 have H:=Held.start w
 have b1:=zAd _ _ _ h1
 have b2:=zAd _ _ _ h2
 rw[ha] at b1
 rw[hb] at b2
 have W1:Hid (zAc a b 0):=zh (Or.inr (Or.inr ⟨b1,b2,hab,rfl⟩))
 have O1:Hid (zAf a y1 m1 d1 0):=zh (Or.inl ⟨h1,ha,rfl⟩)
 have O2:Hid (zAf b y2 m2 d2 0):=zh (Or.inl ⟨h2,hb,rfl⟩)
 have l1:=zAh y1 m1
 have l2:=zAh y2 m2
 obtain⟨u1,u2,u3,u4,u5,u6⟩:=h1
 obtain⟨v1,v2,v3,v4,v5,v6⟩:=h2
 have w1:0≤d1∧d1≤31:=zo
 have w2:0≤d2∧d2≤31:=zo
 clear l1 l2
 have HP:=zh hp
 have HQ:=zh hq
 clear hp hq
 have L1:Hid (zB6 a true):=zh (zAy y1 m1 d1 ⟨u1,u2,u3,u4,u5,u6⟩ ha hl1)
 have L2:Hid (zB6 b true):=zh (zAy y2 m2 d2 ⟨v1,v2,v3,v4,v5,v6⟩ hb hl2)
 clear hl1 hl2
 have t3:(m2==2)=true:=by simpa using hm
 clear hm
 clear ha hb hab u6 v6
 go_enter Tryz.func46,Tryz.ntmps46
 go_wp2_with fail
 replace H:=(H.pair w (0:Int) (0:Int) 48 rfl)
 revert H
 with_reducible refine zG (fun _=>zA4 a b 0 _ W1.out) ?_
 intro w1 H
 go_wp2_with fail
 revert H
 with_reducible refine zG (fun _=>zA5 a y1 m1 d1 0 _ O1.out) ?_
 intro w2 H
 go_wp2_with fail
 replace H:=(H.triple w2 y1 m1 d1 86 rfl)
 revert H
 with_reducible refine zG (fun _=>zA5 b y2 m2 d2 0 _ O2.out) ?_
 intro w3 H
 obtain⟨ca0,ca1,ca2⟩:=H.cells3 w2
 have la:=H.lt w2 0 y1 i0_
 go_wp2_with fail
 clear ca0 ca1 ca2 la
 replace H:=(H.triple w3 y2 m2 d2 86 rfl)
 revert H
 with_reducible refine zG (fun _=>zAn a true _ L1.out) ?_
 intro w4 H
 obtain⟨ca0,ca1,ca2⟩:=H.cells3 w2
 have la:=H.lt w2 0 y1 i6_
 obtain⟨cb0,cb1,cb2⟩:=H.cells3 w3
 have lb:=H.lt w3 0 y2 i0_
 go_wp2_with fail
 clear ca0 ca1 ca2 la cb0 cb1 cb2 lb
 revert H
 with_reducible refine zG (fun _=>zAn b true _ L2.out) ?_
 exact zql14
theorem zT4 (a b k:Int) (w:World) (h:(a<1∨3652059<a)∨(b<1∨3652059<b)) :
  Calls Tryz.prog 46 #[a,b,k] w fun e' w'=>e'=.returned (.tuple #[.agg #[(0:Int),(0:Int)],(3:Int)])∧Below w w w':=by
 have H:=Held.start w
 have W1:Hid (zAc a b 3):=zh (Or.inl ⟨h,rfl⟩)
 go_enter Tryz.func46,Tryz.ntmps46
 go_wp2_with fail
 replace H:=(H.pair w (0:Int) (0:Int) 48 rfl)
 revert H
 with_reducible refine zG (fun _=>zA4 a b 3 _ W1.out) ?_
 intro w1 H
 obtain⟨cz0,cz1⟩:=H.cells2 w
 have lz:=H.lt w 0 (0:Int) i0_
 obtain⟨fz0,fz1⟩:=H.frozens2 w
 have HK:=H.old
 clear H
 go_wp2_with fail
 exact bodyPost_ret (v:=.tuple #[.agg #[(0:Int),(0:Int)],(3:Int)]) (by simp[results,Tryz.results46,go_sem,cz0,cz1]) rfl ⟨rfl,(HK.setCell zw _).setCell zw _⟩
theorem zLq (a b k:Int) (w:World) (h1:1≤a∧a≤3652059) (h2:1≤b∧b≤3652059) (h:b<a) :
  Calls Tryz.prog 46 #[a,b,k] w fun e' w'=>e'=.returned (.tuple #[.agg #[(0:Int),(0:Int)],(4:Int)])∧Below w w w':=by
 have H:=Held.start w
 have W1:Hid (zAc a b 4):=zh (Or.inr (Or.inl ⟨h1,h2,h,rfl⟩))
 go_enter Tryz.func46,Tryz.ntmps46
 go_wp2_with fail
 replace H:=(H.pair w (0:Int) (0:Int) 48 rfl)
 revert H
 with_reducible refine zG (fun _=>zA4 a b 4 _ W1.out) ?_
 intro w1 H
 obtain⟨cz0,cz1⟩:=H.cells2 w
 have lz:=H.lt w 0 (0:Int) i0_
 obtain⟨fz0,fz1⟩:=H.frozens2 w
 have HK:=H.old
 clear H
 go_wp2_with fail
 exact bodyPost_ret (v:=.tuple #[.agg #[(0:Int),(0:Int)],(4:Int)]) (by simp[results,Tryz.results46,go_sem,cz0,cz1]) rfl ⟨rfl,(HK.setCell zw _).setCell zw _⟩
theorem zT3 (a b k p q c:Int) (w:World) (h:zBd (iX (decide (b=k))) a b p q c):Calls Tryz.prog 46 #[a,b,k] w fun e' w'=>e'=.returned (.tuple #[.agg #[p,q],c])∧Below w w w':=by
 rcases h with⟨y1,m1,d1,y2,m2,d2,h1,ha,h2,hb,hab,hp,hq,rfl⟩ | ⟨h,rfl,rfl,rfl⟩ | ⟨h1,h2,h,rfl,rfl,rfl⟩
 ·unfold iX fulD isB at hp hq
  by_cases n1:d1=ln y1 m1
  ·rw[if_pos n1] at hp hq
   by_cases n2:d2=ln y2 m2
   ·by_cases n3:b=k
    ·subst n3
     by_cases n4:m2=2
     ·rw[if_neg (by simp[n4])] at hp hq
      exact risda_13 a b y1 m1 d1 y2 m2 d2 p q w h1 ha h2 hb hab (decide_eq_true n1) (decide_eq_true n2) n4 hp hq
     ·rw[if_pos ⟨n2,by simp[n4]⟩] at hp hq
      exact risda_12 a b y1 m1 d1 y2 m2 d2 p q w h1 ha h2 hb hab (decide_eq_true n1) (decide_eq_true n2) n4 hp hq
    ·rw[if_pos ⟨n2,by simp[n3]⟩] at hp hq
     exact risda_11 a b y1 m1 d1 y2 m2 d2 p q k w h1 ha h2 hb hab (decide_eq_true n1) (decide_eq_true n2) n3 hp hq
   ·rw[if_neg (fun hh=>n2 hh.1)] at hp hq
    exact risda_10 a b y1 m1 d1 y2 m2 d2 p q k w h1 ha h2 hb hab (decide_eq_true n1) (decide_eq_false n2) hp hq
  ·rw[if_neg n1] at hp hq
   by_cases n2:d2=ln y2 m2
   ·by_cases n3:b=k
    ·subst n3
     by_cases n4:m2=2
     ·rw[if_neg (by simp[n4])] at hp hq
      exact risda_03 a b y1 m1 d1 y2 m2 d2 p q w h1 ha h2 hb hab (decide_eq_false n1) (decide_eq_true n2) n4 hp hq
     ·rw[if_pos ⟨n2,by simp[n4]⟩] at hp hq
      exact risda_02 a b y1 m1 d1 y2 m2 d2 p q w h1 ha h2 hb hab (decide_eq_false n1) (decide_eq_true n2) n4 hp hq
    ·rw[if_pos ⟨n2,by simp[n3]⟩] at hp hq
     exact risda_01 a b y1 m1 d1 y2 m2 d2 p q k w h1 ha h2 hb hab (decide_eq_false n1) (decide_eq_true n2) n3 hp hq
   ·rw[if_neg (fun hh=>n2 hh.1)] at hp hq
    exact risda_00 a b y1 m1 d1 y2 m2 d2 p q k w h1 ha h2 hb hab (decide_eq_false n1) (decide_eq_false n2) hp hq
 ·exact zT4 a b k w h
 ·exact zLq a b k w h1 h2 h
end Go.Proofs.YtpfgdfpaoldhcaaGreatDoor
namespace Go.Proofs.YtpfgdfpaoldhcaaGreatDoor
open Go.RowKit
theorem zqrr1 {P:Prop} (h:P:=by
 intro w1 H
 obtain⟨ca0,ca1,ca2⟩:=H.cells3 w
 have la:=H.lt w 0 y i0_
 have HK:=H.old
 clear H
 go_wp2
 go_ret
 exact⟨rfl,HK⟩):P:=h
theorem rfeb_no (n y m d:Int) (w:World) (hl:zB6 n false) :
  Calls Tryz.prog 66 #[n,.agg #[y,m,d]] w fun e' w'=>e'=.returned false∧Below w w w':=by
 have H:=Held.start w
 have L1:=zh hl
 clear hl
 go_enter Tryz.func66,Tryz.ntmps66
 go_wp2_with fail
 replace H:=(H.triple w y m d 86 rfl)
 revert H
 with_reducible refine zG (fun _=>zAn n false _ L1.out) ?_
 exact zqrr1
theorem rfeb_two (n y d:Int) (w:World) (hl:zB6 n true) :
  Calls Tryz.prog 66 #[n,.agg #[y,(2:Int),d]] w fun e' w'=>e'=.returned true∧Below w w w':=by
 have H:=Held.start w
 have L1:=zh hl
 clear hl
 go_enter Tryz.func66,Tryz.ntmps66
 go_wp2_with fail
 replace H:=(H.triple w y (2:Int) d 86 rfl)
 revert H
 with_reducible refine zG (fun _=>zAn n true _ L1.out) ?_
 exact zqrr1
theorem zOq (n y m d:Int) (w:World) (hl:zB6 n true) (hm:m≠2) :
  Calls Tryz.prog 66 #[n,.agg #[y,m,d]] w fun e' w'=>e'=.returned false∧Below w w w':=by
 have H:=Held.start w
 have L1:=zh hl
 clear hl
 have t1:(m==2)=false:=beq_eq_false_iff_ne.2 hm
 clear hm
 go_enter Tryz.func66,Tryz.ntmps66
 go_wp2_with fail
 replace H:=(H.triple w y m d 86 rfl)
 revert H
 with_reducible refine zG (fun _=>zAn n true _ L1.out) ?_
 exact zqrr1
theorem zAm (n y m d:Int) (b:Bool) (w:World) (h:may y m d) (hn:nb y m d=n) (hb:febB y m d=b):Calls Tryz.prog 66 #[n,.agg #[y,m,d]] w fun e' w'=>e'=.returned b∧Below w w w':=by
 subst hb
 unfold febB
 by_cases hl:d=ln y m
 ·by_cases hm:m=2
  ·subst hm
   rw[decide_eq_true (show (2:Int)=2∧d=ln y 2 from⟨rfl,hl⟩)]
   exact rfeb_two n y d w (zAy y 2 d h hn (decide_eq_true hl))
  ·rw[decide_eq_false (show ¬(m=2∧d=ln y m) from fun hh=>hm hh.1)]
   exact zOq n y m d w (zAy y m d h hn (decide_eq_true hl)) hm
 ·rw[decide_eq_false (show ¬(m=2∧d=ln y m) from fun hh=>hl hh.2)]
  exact rfeb_no n y m d w (zAy y m d h hn (decide_eq_false hl))
theorem zq81n {P:Prop} (h:P:=by
 intro w6 H
 obtain⟨cz0,cz1⟩:=H.cells2 w
 have lz:=H.lt w 0 (0:Int) i12_
 obtain⟨fz0,fz1⟩:=H.frozens2 w
 have HK:=H.old
 clear H
 go_wp2_with fail
 exact bodyPost_ret (v:=.tuple #[.agg #[p,q],(0:Int)]) (by simp[results,Tryz.results44,go_sem,cz0,cz1]) rfl ⟨rfl,(HK.setCell zw _).setCell zw _⟩):P:=h
theorem zq899 {P:Prop} (h:P:=by
 have F2:Hid (∀v,Calls Tryz.prog 66 #[b,.agg #[y2,m2,(31:Int)]] v fun e w'=>e=.returned g2∧Below v v w'):=zh (fun v=>zAm b y2 m2 31 g2 v ⟨v1,v2,v3,v4,v5,v6⟩ hb hf2)
 clear hf1 hf2
 clear ha hb hab u6 v6
 go_enter Tryz.func44,Tryz.ntmps44
 go_wp2_with fail
 replace H:=(H.pair w (0:Int) (0:Int) 48 rfl)
 revert H
 with_reducible refine zG (fun _=>zA4 a b 0 _ W1.out) ?_
 intro w1 H
 go_wp2_with fail
 revert H
 with_reducible refine zG (fun _=>zA5 a y1 m1 31 0 _ O1.out) ?_
 intro w2 H
 go_wp2_with fail
 replace H:=(H.triple w2 y1 m1 (31:Int) 86 rfl)
 revert H
 with_reducible refine zG (fun _=>zA5 b y2 m2 31 0 _ O2.out) ?_
 intro w3 H
 obtain⟨ca0,ca1,ca2⟩:=H.cells3 w2
 have la:=H.lt w2 0 y1 i0_
 go_wp2_with fail
 clear ca0 ca1 ca2 la
 replace H:=(H.triple w3 y2 m2 (31:Int) 86 rfl)
 revert H
 with_reducible refine zG (fun _=>F1.out _) ?_
 intro w4 H
 obtain⟨ca0,ca1,ca2⟩:=H.cells3 w2
 have la:=H.lt w2 0 y1 i6_
 obtain⟨cb0,cb1,cb2⟩:=H.cells3 w3
 have lb:=H.lt w3 0 y2 i0_
 go_wp2_with fail
 clear ca0 ca1 ca2 la cb0 cb1 cb2 lb
 revert H
 with_reducible refine zG (fun _=>F2.out _) ?_
 intro w5 H
 obtain⟨ca0,ca1,ca2⟩:=H.cells3 w2
 have la:=H.lt w2 0 y1 i6_
 obtain⟨cb0,cb1,cb2⟩:=H.cells3 w3
 have lb:=H.lt w3 0 y2 i0_
 go_wp2_with fail
 clear ca0 ca1 ca2 la cb0 cb1 cb2 lb
 revert H
 with_reducible refine zG (fun _=>zAe y1 m1 31 y2 m2 31 30 30 p q _ ⟨u1,u2⟩ ⟨v1,v2⟩ ⟨u3,u4⟩ ⟨v3,v4⟩ zo zo HP.out HQ.out) ?_
 exact zq81n):P:=h
theorem zTo (a b y1 m1 y2 m2 p q:Int) (g1:Bool) (g2:Bool) (w:World) (h1:may y1 m1 31) (ha:nb y1 m1 31=a) (h2:may y2 m2 31) (hb:nb y2 m2 31=b) (hab:a≤b) (hf1:febB y1 m1 31=g1) (hf2:febB y2 m2 31=g2) (hp:rN (px y1 m1 30 y2 m2 30) 360=p) (hq:rD (px y1 m1 30 y2 m2 30) 360=q) :
  Calls Tryz.prog 44 #[a,b,false] w fun e' w'=>e'=.returned (.tuple #[.agg #[p,q],(0:Int)])∧Below w w w':=by
 have H:=Held.start w
 have b1:=zAd _ _ _ h1
 have b2:=zAd _ _ _ h2
 rw[ha] at b1
 rw[hb] at b2
 have W1:Hid (zAc a b 0):=zh (Or.inr (Or.inr ⟨b1,b2,hab,rfl⟩))
 have O1:Hid (zAf a y1 m1 31 0):=zh (Or.inl ⟨h1,ha,rfl⟩)
 have O2:Hid (zAf b y2 m2 31 0):=zh (Or.inl ⟨h2,hb,rfl⟩)
 have l1:=zAh y1 m1
 have l2:=zAh y2 m2
 obtain⟨u1,u2,u3,u4,u5,u6⟩:=h1
 obtain⟨v1,v2,v3,v4,v5,v6⟩:=h2
 have w1:0≤31∧31≤31:=zo
 have w2:0≤31∧31≤31:=zo
 clear l1 l2
 have HP:=zh hp
 have HQ:=zh hq
 clear hp hq
 have F1:Hid (∀v,Calls Tryz.prog 66 #[a,.agg #[y1,m1,(31:Int)]] v fun e w'=>e=.returned g1∧Below v v w'):=zh (fun v=>zAm a y1 m1 31 g1 v ⟨u1,u2,u3,u4,u5,u6⟩ ha hf1)
 exact zq899
theorem zq4w3 {P:Prop} (h:P:=by
 have F2:Hid (∀v,Calls Tryz.prog 66 #[b,.agg #[y2,m2,d2]] v fun e w'=>e=.returned g2∧Below v v w'):=zh (fun v=>zAm b y2 m2 d2 g2 v ⟨v1,v2,v3,v4,v5,v6⟩ hb hf2)
 clear hf1 hf2
 have t2:(d2==31)=false:=beq_eq_false_iff_ne.2 n2
 clear ha hb hab u6 v6
 go_enter Tryz.func44,Tryz.ntmps44
 go_wp2_with fail
 replace H:=(H.pair w (0:Int) (0:Int) 48 rfl)
 revert H
 with_reducible refine zG (fun _=>zA4 a b 0 _ W1.out) ?_
 intro w1 H
 go_wp2_with fail
 revert H
 with_reducible refine zG (fun _=>zA5 a y1 m1 31 0 _ O1.out) ?_
 intro w2 H
 go_wp2_with fail
 replace H:=(H.triple w2 y1 m1 (31:Int) 86 rfl)
 revert H
 with_reducible refine zG (fun _=>zA5 b y2 m2 d2 0 _ O2.out) ?_
 intro w3 H
 obtain⟨ca0,ca1,ca2⟩:=H.cells3 w2
 have la:=H.lt w2 0 y1 i0_
 go_wp2_with fail
 clear ca0 ca1 ca2 la
 replace H:=(H.triple w3 y2 m2 d2 86 rfl)
 revert H
 with_reducible refine zG (fun _=>F1.out _) ?_
 intro w4 H
 obtain⟨ca0,ca1,ca2⟩:=H.cells3 w2
 have la:=H.lt w2 0 y1 i6_
 obtain⟨cb0,cb1,cb2⟩:=H.cells3 w3
 have lb:=H.lt w3 0 y2 i0_
 go_wp2_with fail
 clear ca0 ca1 ca2 la cb0 cb1 cb2 lb
 revert H
 with_reducible refine zG (fun _=>F2.out _) ?_
 intro w5 H
 obtain⟨ca0,ca1,ca2⟩:=H.cells3 w2
 have la:=H.lt w2 0 y1 i6_
 obtain⟨cb0,cb1,cb2⟩:=H.cells3 w3
 have lb:=H.lt w3 0 y2 i0_
 go_wp2_with fail
 clear ca0 ca1 ca2 la cb0 cb1 cb2 lb
 revert H
 with_reducible refine zG (fun _=>zAe y1 m1 31 y2 m2 d2 30 d2 p q _ ⟨u1,u2⟩ ⟨v1,v2⟩ ⟨u3,u4⟩ ⟨v3,v4⟩ zo zo HP.out HQ.out) ?_
 exact zq81n):P:=h
theorem zTp (a b y1 m1 y2 m2 d2 p q:Int) (g1:Bool) (g2:Bool) (w:World) (h1:may y1 m1 31) (ha:nb y1 m1 31=a) (h2:may y2 m2 d2) (hb:nb y2 m2 d2=b) (hab:a≤b) (hf1:febB y1 m1 31=g1) (hf2:febB y2 m2 d2=g2) (n2:d2≠31) (hp:rN (px y1 m1 30 y2 m2 d2) 360=p) (hq:rD (px y1 m1 30 y2 m2 d2) 360=q) :
  Calls Tryz.prog 44 #[a,b,false] w fun e' w'=>e'=.returned (.tuple #[.agg #[p,q],(0:Int)])∧Below w w w':=by
 have H:=Held.start w
 have b1:=zAd _ _ _ h1
 have b2:=zAd _ _ _ h2
 rw[ha] at b1
 rw[hb] at b2
 have W1:Hid (zAc a b 0):=zh (Or.inr (Or.inr ⟨b1,b2,hab,rfl⟩))
 have O1:Hid (zAf a y1 m1 31 0):=zh (Or.inl ⟨h1,ha,rfl⟩)
 have O2:Hid (zAf b y2 m2 d2 0):=zh (Or.inl ⟨h2,hb,rfl⟩)
 have l1:=zAh y1 m1
 have l2:=zAh y2 m2
 obtain⟨u1,u2,u3,u4,u5,u6⟩:=h1
 obtain⟨v1,v2,v3,v4,v5,v6⟩:=h2
 have w1:0≤31∧31≤31:=zo
 have w2:0≤d2∧d2≤31:=zo
 clear l1 l2
 have HP:=zh hp
 have HQ:=zh hq
 clear hp hq
 have F1:Hid (∀v,Calls Tryz.prog 66 #[a,.agg #[y1,m1,(31:Int)]] v fun e w'=>e=.returned g1∧Below v v w'):=zh (fun v=>zAm a y1 m1 31 g1 v ⟨u1,u2,u3,u4,u5,u6⟩ ha hf1)
 exact zq4w3
theorem zqc6n {P:Prop} (h:P:=by
 have F2:Hid (∀v,Calls Tryz.prog 66 #[b,.agg #[y2,m2,(31:Int)]] v fun e w'=>e=.returned g2∧Below v v w'):=zh (fun v=>zAm b y2 m2 31 g2 v ⟨v1,v2,v3,v4,v5,v6⟩ hb hf2)
 clear hf1 hf2
 clear ha hb hab u6 v6
 go_enter Tryz.func44,Tryz.ntmps44
 go_wp2_with fail
 replace H:=(H.pair w (0:Int) (0:Int) 48 rfl)
 revert H
 with_reducible refine zG (fun _=>zA4 a b 0 _ W1.out) ?_
 intro w1 H
 go_wp2_with fail
 revert H
 with_reducible refine zG (fun _=>zA5 a y1 m1 30 0 _ O1.out) ?_
 intro w2 H
 go_wp2_with fail
 replace H:=(H.triple w2 y1 m1 (30:Int) 86 rfl)
 revert H
 with_reducible refine zG (fun _=>zA5 b y2 m2 31 0 _ O2.out) ?_
 intro w3 H
 obtain⟨ca0,ca1,ca2⟩:=H.cells3 w2
 have la:=H.lt w2 0 y1 i0_
 go_wp2_with fail
 clear ca0 ca1 ca2 la
 replace H:=(H.triple w3 y2 m2 (31:Int) 86 rfl)
 revert H
 with_reducible refine zG (fun _=>F1.out _) ?_
 intro w4 H
 obtain⟨ca0,ca1,ca2⟩:=H.cells3 w2
 have la:=H.lt w2 0 y1 i6_
 obtain⟨cb0,cb1,cb2⟩:=H.cells3 w3
 have lb:=H.lt w3 0 y2 i0_
 go_wp2_with fail
 clear ca0 ca1 ca2 la cb0 cb1 cb2 lb
 revert H
 with_reducible refine zG (fun _=>F2.out _) ?_
 intro w5 H
 obtain⟨ca0,ca1,ca2⟩:=H.cells3 w2
 have la:=H.lt w2 0 y1 i6_
 obtain⟨cb0,cb1,cb2⟩:=H.cells3 w3
 have lb:=H.lt w3 0 y2 i0_
 go_wp2_with fail
 clear ca0 ca1 ca2 la cb0 cb1 cb2 lb
 revert H
 with_reducible refine zG (fun _=>zAe y1 m1 30 y2 m2 31 30 30 p q _ ⟨u1,u2⟩ ⟨v1,v2⟩ ⟨u3,u4⟩ ⟨v3,v4⟩ zo zo HP.out HQ.out) ?_
 exact zq81n):P:=h
theorem zTm (a b y1 m1 y2 m2 p q:Int) (g1:Bool) (g2:Bool) (w:World) (h1:may y1 m1 30) (ha:nb y1 m1 30=a) (h2:may y2 m2 31) (hb:nb y2 m2 31=b) (hab:a≤b) (hf1:febB y1 m1 30=g1) (hf2:febB y2 m2 31=g2) (hp:rN (px y1 m1 30 y2 m2 30) 360=p) (hq:rD (px y1 m1 30 y2 m2 30) 360=q) :
  Calls Tryz.prog 44 #[a,b,false] w fun e' w'=>e'=.returned (.tuple #[.agg #[p,q],(0:Int)])∧Below w w w':=by
 have H:=Held.start w
 have b1:=zAd _ _ _ h1
 have b2:=zAd _ _ _ h2
 rw[ha] at b1
 rw[hb] at b2
 have W1:Hid (zAc a b 0):=zh (Or.inr (Or.inr ⟨b1,b2,hab,rfl⟩))
 have O1:Hid (zAf a y1 m1 30 0):=zh (Or.inl ⟨h1,ha,rfl⟩)
 have O2:Hid (zAf b y2 m2 31 0):=zh (Or.inl ⟨h2,hb,rfl⟩)
 have l1:=zAh y1 m1
 have l2:=zAh y2 m2
 obtain⟨u1,u2,u3,u4,u5,u6⟩:=h1
 obtain⟨v1,v2,v3,v4,v5,v6⟩:=h2
 have w1:0≤30∧30≤31:=zo
 have w2:0≤31∧31≤31:=zo
 clear l1 l2
 have HP:=zh hp
 have HQ:=zh hq
 clear hp hq
 have F1:Hid (∀v,Calls Tryz.prog 66 #[a,.agg #[y1,m1,(30:Int)]] v fun e w'=>e=.returned g1∧Below v v w'):=zh (fun v=>zAm a y1 m1 30 g1 v ⟨u1,u2,u3,u4,u5,u6⟩ ha hf1)
 exact zqc6n
theorem zq93e {P:Prop} (h:P:=by
 have F2:Hid (∀v,Calls Tryz.prog 66 #[b,.agg #[y2,m2,d2]] v fun e w'=>e=.returned g2∧Below v v w'):=zh (fun v=>zAm b y2 m2 d2 g2 v ⟨v1,v2,v3,v4,v5,v6⟩ hb hf2)
 clear hf1 hf2
 have t2:(d2==31)=false:=beq_eq_false_iff_ne.2 n2
 clear ha hb hab u6 v6
 go_enter Tryz.func44,Tryz.ntmps44
 go_wp2_with fail
 replace H:=(H.pair w (0:Int) (0:Int) 48 rfl)
 revert H
 with_reducible refine zG (fun _=>zA4 a b 0 _ W1.out) ?_
 intro w1 H
 go_wp2_with fail
 revert H
 with_reducible refine zG (fun _=>zA5 a y1 m1 30 0 _ O1.out) ?_
 intro w2 H
 go_wp2_with fail
 replace H:=(H.triple w2 y1 m1 (30:Int) 86 rfl)
 revert H
 with_reducible refine zG (fun _=>zA5 b y2 m2 d2 0 _ O2.out) ?_
 intro w3 H
 obtain⟨ca0,ca1,ca2⟩:=H.cells3 w2
 have la:=H.lt w2 0 y1 i0_
 go_wp2_with fail
 clear ca0 ca1 ca2 la
 replace H:=(H.triple w3 y2 m2 d2 86 rfl)
 revert H
 with_reducible refine zG (fun _=>F1.out _) ?_
 intro w4 H
 obtain⟨ca0,ca1,ca2⟩:=H.cells3 w2
 have la:=H.lt w2 0 y1 i6_
 obtain⟨cb0,cb1,cb2⟩:=H.cells3 w3
 have lb:=H.lt w3 0 y2 i0_
 go_wp2_with fail
 clear ca0 ca1 ca2 la cb0 cb1 cb2 lb
 revert H
 with_reducible refine zG (fun _=>F2.out _) ?_
 intro w5 H
 obtain⟨ca0,ca1,ca2⟩:=H.cells3 w2
 have la:=H.lt w2 0 y1 i6_
 obtain⟨cb0,cb1,cb2⟩:=H.cells3 w3
 have lb:=H.lt w3 0 y2 i0_
 go_wp2_with fail
 clear ca0 ca1 ca2 la cb0 cb1 cb2 lb
 revert H
 with_reducible refine zG (fun _=>zAe y1 m1 30 y2 m2 d2 30 d2 p q _ ⟨u1,u2⟩ ⟨v1,v2⟩ ⟨u3,u4⟩ ⟨v3,v4⟩ zo zo HP.out HQ.out) ?_
 exact zq81n):P:=h
theorem zTn (a b y1 m1 y2 m2 d2 p q:Int) (g1:Bool) (g2:Bool) (w:World) (h1:may y1 m1 30) (ha:nb y1 m1 30=a) (h2:may y2 m2 d2) (hb:nb y2 m2 d2=b) (hab:a≤b) (hf1:febB y1 m1 30=g1) (hf2:febB y2 m2 d2=g2) (n2:d2≠31) (hp:rN (px y1 m1 30 y2 m2 d2) 360=p) (hq:rD (px y1 m1 30 y2 m2 d2) 360=q) :
  Calls Tryz.prog 44 #[a,b,false] w fun e' w'=>e'=.returned (.tuple #[.agg #[p,q],(0:Int)])∧Below w w w':=by
 have H:=Held.start w
 have b1:=zAd _ _ _ h1
 have b2:=zAd _ _ _ h2
 rw[ha] at b1
 rw[hb] at b2
 have W1:Hid (zAc a b 0):=zh (Or.inr (Or.inr ⟨b1,b2,hab,rfl⟩))
 have O1:Hid (zAf a y1 m1 30 0):=zh (Or.inl ⟨h1,ha,rfl⟩)
 have O2:Hid (zAf b y2 m2 d2 0):=zh (Or.inl ⟨h2,hb,rfl⟩)
 have l1:=zAh y1 m1
 have l2:=zAh y2 m2
 obtain⟨u1,u2,u3,u4,u5,u6⟩:=h1
 obtain⟨v1,v2,v3,v4,v5,v6⟩:=h2
 have w1:0≤30∧30≤31:=zo
 have w2:0≤d2∧d2≤31:=zo
 clear l1 l2
 have HP:=zh hp
 have HQ:=zh hq
 clear hp hq
 have F1:Hid (∀v,Calls Tryz.prog 66 #[a,.agg #[y1,m1,(30:Int)]] v fun e w'=>e=.returned g1∧Below v v w'):=zh (fun v=>zAm a y1 m1 30 g1 v ⟨u1,u2,u3,u4,u5,u6⟩ ha hf1)
 exact zq93e
theorem zqgoz {P:Prop} (h:P:=by
 have F2:Hid (∀v,Calls Tryz.prog 66 #[b,.agg #[y2,m2,(31:Int)]] v fun e w'=>e=.returned g2∧Below v v w'):=zh (fun v=>zAm b y2 m2 31 g2 v ⟨v1,v2,v3,v4,v5,v6⟩ hb hf2)
 clear hf1 hf2
 have t1:(d1==31)=false:=beq_eq_false_iff_ne.2 n1
 have t3:(d1==30)=false:=beq_eq_false_iff_ne.2 n3
 clear ha hb hab u6 v6
 go_enter Tryz.func44,Tryz.ntmps44
 go_wp2_with fail
 replace H:=(H.pair w (0:Int) (0:Int) 48 rfl)
 revert H
 with_reducible refine zG (fun _=>zA4 a b 0 _ W1.out) ?_
 intro w1 H
 go_wp2_with fail
 revert H
 with_reducible refine zG (fun _=>zA5 a y1 m1 d1 0 _ O1.out) ?_
 intro w2 H
 go_wp2_with fail
 replace H:=(H.triple w2 y1 m1 d1 86 rfl)
 revert H
 with_reducible refine zG (fun _=>zA5 b y2 m2 31 0 _ O2.out) ?_
 intro w3 H
 obtain⟨ca0,ca1,ca2⟩:=H.cells3 w2
 have la:=H.lt w2 0 y1 i0_
 go_wp2_with fail
 clear ca0 ca1 ca2 la
 replace H:=(H.triple w3 y2 m2 (31:Int) 86 rfl)
 revert H
 with_reducible refine zG (fun _=>F1.out _) ?_
 intro w4 H
 obtain⟨ca0,ca1,ca2⟩:=H.cells3 w2
 have la:=H.lt w2 0 y1 i6_
 obtain⟨cb0,cb1,cb2⟩:=H.cells3 w3
 have lb:=H.lt w3 0 y2 i0_
 go_wp2_with fail
 clear ca0 ca1 ca2 la cb0 cb1 cb2 lb
 revert H
 with_reducible refine zG (fun _=>F2.out _) ?_
 intro w5 H
 obtain⟨ca0,ca1,ca2⟩:=H.cells3 w2
 have la:=H.lt w2 0 y1 i6_
 obtain⟨cb0,cb1,cb2⟩:=H.cells3 w3
 have lb:=H.lt w3 0 y2 i0_
 go_wp2_with fail
 clear ca0 ca1 ca2 la cb0 cb1 cb2 lb
 revert H
 with_reducible refine zG (fun _=>zAe y1 m1 d1 y2 m2 31 d1 31 p q _ ⟨u1,u2⟩ ⟨v1,v2⟩ ⟨u3,u4⟩ ⟨v3,v4⟩ zo zo HP.out HQ.out) ?_
 exact zq81n):P:=h
theorem zTq (a b y1 m1 d1 y2 m2 p q:Int) (g1:Bool) (g2:Bool) (w:World) (h1:may y1 m1 d1) (ha:nb y1 m1 d1=a) (h2:may y2 m2 31) (hb:nb y2 m2 31=b) (hab:a≤b) (hf1:febB y1 m1 d1=g1) (hf2:febB y2 m2 31=g2) (n1:d1≠31) (n3:d1≠30) (hp:rN (px y1 m1 d1 y2 m2 31) 360=p) (hq:rD (px y1 m1 d1 y2 m2 31) 360=q) :
  Calls Tryz.prog 44 #[a,b,false] w fun e' w'=>e'=.returned (.tuple #[.agg #[p,q],(0:Int)])∧Below w w w':=by
 have H:=Held.start w
 have b1:=zAd _ _ _ h1
 have b2:=zAd _ _ _ h2
 rw[ha] at b1
 rw[hb] at b2
 have W1:Hid (zAc a b 0):=zh (Or.inr (Or.inr ⟨b1,b2,hab,rfl⟩))
 have O1:Hid (zAf a y1 m1 d1 0):=zh (Or.inl ⟨h1,ha,rfl⟩)
 have O2:Hid (zAf b y2 m2 31 0):=zh (Or.inl ⟨h2,hb,rfl⟩)
 have l1:=zAh y1 m1
 have l2:=zAh y2 m2
 obtain⟨u1,u2,u3,u4,u5,u6⟩:=h1
 obtain⟨v1,v2,v3,v4,v5,v6⟩:=h2
 have w1:0≤d1∧d1≤31:=zo
 have w2:0≤31∧31≤31:=zo
 clear l1 l2
 have HP:=zh hp
 have HQ:=zh hq
 clear hp hq
 have F1:Hid (∀v,Calls Tryz.prog 66 #[a,.agg #[y1,m1,d1]] v fun e w'=>e=.returned g1∧Below v v w'):=zh (fun v=>zAm a y1 m1 d1 g1 v ⟨u1,u2,u3,u4,u5,u6⟩ ha hf1)
 exact zqgoz
theorem zqaj5 {P:Prop} (h:P:=by
 have F2:Hid (∀v,Calls Tryz.prog 66 #[b,.agg #[y2,m2,d2]] v fun e w'=>e=.returned g2∧Below v v w'):=zh (fun v=>zAm b y2 m2 d2 g2 v ⟨v1,v2,v3,v4,v5,v6⟩ hb hf2)
 clear hf1 hf2
 have t1:(d1==31)=false:=beq_eq_false_iff_ne.2 n1
 have t3:(d1==30)=false:=beq_eq_false_iff_ne.2 n3
 have t2:(d2==31)=false:=beq_eq_false_iff_ne.2 n2
 clear ha hb hab u6 v6
 go_enter Tryz.func44,Tryz.ntmps44
 go_wp2_with fail
 replace H:=(H.pair w (0:Int) (0:Int) 48 rfl)
 revert H
 with_reducible refine zG (fun _=>zA4 a b 0 _ W1.out) ?_
 intro w1 H
 go_wp2_with fail
 revert H
 with_reducible refine zG (fun _=>zA5 a y1 m1 d1 0 _ O1.out) ?_
 intro w2 H
 go_wp2_with fail
 replace H:=(H.triple w2 y1 m1 d1 86 rfl)
 revert H
 with_reducible refine zG (fun _=>zA5 b y2 m2 d2 0 _ O2.out) ?_
 intro w3 H
 obtain⟨ca0,ca1,ca2⟩:=H.cells3 w2
 have la:=H.lt w2 0 y1 i0_
 go_wp2_with fail
 clear ca0 ca1 ca2 la
 replace H:=(H.triple w3 y2 m2 d2 86 rfl)
 revert H
 with_reducible refine zG (fun _=>F1.out _) ?_
 intro w4 H
 obtain⟨ca0,ca1,ca2⟩:=H.cells3 w2
 have la:=H.lt w2 0 y1 i6_
 obtain⟨cb0,cb1,cb2⟩:=H.cells3 w3
 have lb:=H.lt w3 0 y2 i0_
 go_wp2_with fail
 clear ca0 ca1 ca2 la cb0 cb1 cb2 lb
 revert H
 with_reducible refine zG (fun _=>F2.out _) ?_
 intro w5 H
 obtain⟨ca0,ca1,ca2⟩:=H.cells3 w2
 have la:=H.lt w2 0 y1 i6_
 obtain⟨cb0,cb1,cb2⟩:=H.cells3 w3
 have lb:=H.lt w3 0 y2 i0_
 go_wp2_with fail
 clear ca0 ca1 ca2 la cb0 cb1 cb2 lb
 revert H
 with_reducible refine zG (fun _=>zAe y1 m1 d1 y2 m2 d2 d1 d2 p q _ ⟨u1,u2⟩ ⟨v1,v2⟩ ⟨u3,u4⟩ ⟨v3,v4⟩ zo zo HP.out HQ.out) ?_
 exact zq81n):P:=h
theorem zTr (a b y1 m1 d1 y2 m2 d2 p q:Int) (g1:Bool) (g2:Bool) (w:World) (h1:may y1 m1 d1) (ha:nb y1 m1 d1=a) (h2:may y2 m2 d2) (hb:nb y2 m2 d2=b) (hab:a≤b) (hf1:febB y1 m1 d1=g1) (hf2:febB y2 m2 d2=g2) (n1:d1≠31) (n3:d1≠30) (n2:d2≠31) (hp:rN (px y1 m1 d1 y2 m2 d2) 360=p) (hq:rD (px y1 m1 d1 y2 m2 d2) 360=q) :
  Calls Tryz.prog 44 #[a,b,false] w fun e' w'=>e'=.returned (.tuple #[.agg #[p,q],(0:Int)])∧Below w w w':=by
 have H:=Held.start w
 have b1:=zAd _ _ _ h1
 have b2:=zAd _ _ _ h2
 rw[ha] at b1
 rw[hb] at b2
 have W1:Hid (zAc a b 0):=zh (Or.inr (Or.inr ⟨b1,b2,hab,rfl⟩))
 have O1:Hid (zAf a y1 m1 d1 0):=zh (Or.inl ⟨h1,ha,rfl⟩)
 have O2:Hid (zAf b y2 m2 d2 0):=zh (Or.inl ⟨h2,hb,rfl⟩)
 have l1:=zAh y1 m1
 have l2:=zAh y2 m2
 obtain⟨u1,u2,u3,u4,u5,u6⟩:=h1
 obtain⟨v1,v2,v3,v4,v5,v6⟩:=h2
 have w1:0≤d1∧d1≤31:=zo
 have w2:0≤d2∧d2≤31:=zo
 clear l1 l2
 have HP:=zh hp
 have HQ:=zh hq
 clear hp hq
 have F1:Hid (∀v,Calls Tryz.prog 66 #[a,.agg #[y1,m1,d1]] v fun e w'=>e=.returned g1∧Below v v w'):=zh (fun v=>zAm a y1 m1 d1 g1 v ⟨u1,u2,u3,u4,u5,u6⟩ ha hf1)
 exact zqaj5
theorem zTi (a b y1 m1 y2 m2 p q:Int) (g2:Bool) (w:World) (h1:may y1 m1 31) (ha:nb y1 m1 31=a) (h2:may y2 m2 31) (hb:nb y2 m2 31=b) (hab:a≤b) (hf1:febB y1 m1 31=false) (hf2:febB y2 m2 31=g2) (hp:rN (px y1 m1 30 y2 m2 30) 360=p) (hq:rD (px y1 m1 30 y2 m2 30) 360=q) :
  Calls Tryz.prog 44 #[a,b,true] w fun e' w'=>e'=.returned (.tuple #[.agg #[p,q],(0:Int)])∧Below w w w':=by
 have H:=Held.start w
 have b1:=zAd _ _ _ h1
 have b2:=zAd _ _ _ h2
 rw[ha] at b1
 rw[hb] at b2
 have W1:Hid (zAc a b 0):=zh (Or.inr (Or.inr ⟨b1,b2,hab,rfl⟩))
 have O1:Hid (zAf a y1 m1 31 0):=zh (Or.inl ⟨h1,ha,rfl⟩)
 have O2:Hid (zAf b y2 m2 31 0):=zh (Or.inl ⟨h2,hb,rfl⟩)
 have l1:=zAh y1 m1
 have l2:=zAh y2 m2
 obtain⟨u1,u2,u3,u4,u5,u6⟩:=h1
 obtain⟨v1,v2,v3,v4,v5,v6⟩:=h2
 have w1:0≤31∧31≤31:=zo
 have w2:0≤31∧31≤31:=zo
 clear l1 l2
 have HP:=zh hp
 have HQ:=zh hq
 clear hp hq
 have F1:Hid (∀v,Calls Tryz.prog 66 #[a,.agg #[y1,m1,(31:Int)]] v fun e w'=>e=.returned false∧Below v v w'):=zh (fun v=>zAm a y1 m1 31 false v ⟨u1,u2,u3,u4,u5,u6⟩ ha hf1)
 exact zq899
theorem zTj (a b y1 m1 y2 m2 d2 p q:Int) (g2:Bool) (w:World) (h1:may y1 m1 31) (ha:nb y1 m1 31=a) (h2:may y2 m2 d2) (hb:nb y2 m2 d2=b) (hab:a≤b) (hf1:febB y1 m1 31=false) (hf2:febB y2 m2 d2=g2) (n2:d2≠31) (hp:rN (px y1 m1 30 y2 m2 d2) 360=p) (hq:rD (px y1 m1 30 y2 m2 d2) 360=q) :
  Calls Tryz.prog 44 #[a,b,true] w fun e' w'=>e'=.returned (.tuple #[.agg #[p,q],(0:Int)])∧Below w w w':=by
 have H:=Held.start w
 have b1:=zAd _ _ _ h1
 have b2:=zAd _ _ _ h2
 rw[ha] at b1
 rw[hb] at b2
 have W1:Hid (zAc a b 0):=zh (Or.inr (Or.inr ⟨b1,b2,hab,rfl⟩))
 have O1:Hid (zAf a y1 m1 31 0):=zh (Or.inl ⟨h1,ha,rfl⟩)
 have O2:Hid (zAf b y2 m2 d2 0):=zh (Or.inl ⟨h2,hb,rfl⟩)
 have l1:=zAh y1 m1
 have l2:=zAh y2 m2
 obtain⟨u1,u2,u3,u4,u5,u6⟩:=h1
 obtain⟨v1,v2,v3,v4,v5,v6⟩:=h2
 have w1:0≤31∧31≤31:=zo
 have w2:0≤d2∧d2≤31:=zo
 clear l1 l2
 have HP:=zh hp
 have HQ:=zh hq
 clear hp hq
 have F1:Hid (∀v,Calls Tryz.prog 66 #[a,.agg #[y1,m1,(31:Int)]] v fun e w'=>e=.returned false∧Below v v w'):=zh (fun v=>zAm a y1 m1 31 false v ⟨u1,u2,u3,u4,u5,u6⟩ ha hf1)
 exact zq4w3
theorem zTg (a b y1 m1 y2 m2 p q:Int) (g2:Bool) (w:World) (h1:may y1 m1 30) (ha:nb y1 m1 30=a) (h2:may y2 m2 31) (hb:nb y2 m2 31=b) (hab:a≤b) (hf1:febB y1 m1 30=false) (hf2:febB y2 m2 31=g2) (hp:rN (px y1 m1 30 y2 m2 30) 360=p) (hq:rD (px y1 m1 30 y2 m2 30) 360=q) :
  Calls Tryz.prog 44 #[a,b,true] w fun e' w'=>e'=.returned (.tuple #[.agg #[p,q],(0:Int)])∧Below w w w':=by
 have H:=Held.start w
 have b1:=zAd _ _ _ h1
 have b2:=zAd _ _ _ h2
 rw[ha] at b1
 rw[hb] at b2
 have W1:Hid (zAc a b 0):=zh (Or.inr (Or.inr ⟨b1,b2,hab,rfl⟩))
 have O1:Hid (zAf a y1 m1 30 0):=zh (Or.inl ⟨h1,ha,rfl⟩)
 have O2:Hid (zAf b y2 m2 31 0):=zh (Or.inl ⟨h2,hb,rfl⟩)
 have l1:=zAh y1 m1
 have l2:=zAh y2 m2
 obtain⟨u1,u2,u3,u4,u5,u6⟩:=h1
 obtain⟨v1,v2,v3,v4,v5,v6⟩:=h2
 have w1:0≤30∧30≤31:=zo
 have w2:0≤31∧31≤31:=zo
 clear l1 l2
 have HP:=zh hp
 have HQ:=zh hq
 clear hp hq
 have F1:Hid (∀v,Calls Tryz.prog 66 #[a,.agg #[y1,m1,(30:Int)]] v fun e w'=>e=.returned false∧Below v v w'):=zh (fun v=>zAm a y1 m1 30 false v ⟨u1,u2,u3,u4,u5,u6⟩ ha hf1)
 exact zqc6n
theorem zTh (a b y1 m1 y2 m2 d2 p q:Int) (g2:Bool) (w:World) (h1:may y1 m1 30) (ha:nb y1 m1 30=a) (h2:may y2 m2 d2) (hb:nb y2 m2 d2=b) (hab:a≤b) (hf1:febB y1 m1 30=false) (hf2:febB y2 m2 d2=g2) (n2:d2≠31) (hp:rN (px y1 m1 30 y2 m2 d2) 360=p) (hq:rD (px y1 m1 30 y2 m2 d2) 360=q) :
  Calls Tryz.prog 44 #[a,b,true] w fun e' w'=>e'=.returned (.tuple #[.agg #[p,q],(0:Int)])∧Below w w w':=by
 have H:=Held.start w
 have b1:=zAd _ _ _ h1
 have b2:=zAd _ _ _ h2
 rw[ha] at b1
 rw[hb] at b2
 have W1:Hid (zAc a b 0):=zh (Or.inr (Or.inr ⟨b1,b2,hab,rfl⟩))
 have O1:Hid (zAf a y1 m1 30 0):=zh (Or.inl ⟨h1,ha,rfl⟩)
 have O2:Hid (zAf b y2 m2 d2 0):=zh (Or.inl ⟨h2,hb,rfl⟩)
 have l1:=zAh y1 m1
 have l2:=zAh y2 m2
 obtain⟨u1,u2,u3,u4,u5,u6⟩:=h1
 obtain⟨v1,v2,v3,v4,v5,v6⟩:=h2
 have w1:0≤30∧30≤31:=zo
 have w2:0≤d2∧d2≤31:=zo
 clear l1 l2
 have HP:=zh hp
 have HQ:=zh hq
 clear hp hq
 have F1:Hid (∀v,Calls Tryz.prog 66 #[a,.agg #[y1,m1,(30:Int)]] v fun e w'=>e=.returned false∧Below v v w'):=zh (fun v=>zAm a y1 m1 30 false v ⟨u1,u2,u3,u4,u5,u6⟩ ha hf1)
 exact zq93e
theorem zTk (a b y1 m1 d1 y2 m2 p q:Int) (g2:Bool) (w:World) (h1:may y1 m1 d1) (ha:nb y1 m1 d1=a) (h2:may y2 m2 31) (hb:nb y2 m2 31=b) (hab:a≤b) (hf1:febB y1 m1 d1=false) (hf2:febB y2 m2 31=g2) (n1:d1≠31) (n3:d1≠30) (hp:rN (px y1 m1 d1 y2 m2 31) 360=p) (hq:rD (px y1 m1 d1 y2 m2 31) 360=q) :
  Calls Tryz.prog 44 #[a,b,true] w fun e' w'=>e'=.returned (.tuple #[.agg #[p,q],(0:Int)])∧Below w w w':=by
 have H:=Held.start w
 have b1:=zAd _ _ _ h1
 have b2:=zAd _ _ _ h2
 rw[ha] at b1
 rw[hb] at b2
 have W1:Hid (zAc a b 0):=zh (Or.inr (Or.inr ⟨b1,b2,hab,rfl⟩))
 have O1:Hid (zAf a y1 m1 d1 0):=zh (Or.inl ⟨h1,ha,rfl⟩)
 have O2:Hid (zAf b y2 m2 31 0):=zh (Or.inl ⟨h2,hb,rfl⟩)
 have l1:=zAh y1 m1
 have l2:=zAh y2 m2
 obtain⟨u1,u2,u3,u4,u5,u6⟩:=h1
 obtain⟨v1,v2,v3,v4,v5,v6⟩:=h2
 have w1:0≤d1∧d1≤31:=zo
 have w2:0≤31∧31≤31:=zo
 clear l1 l2
 have HP:=zh hp
 have HQ:=zh hq
 clear hp hq
 have F1:Hid (∀v,Calls Tryz.prog 66 #[a,.agg #[y1,m1,d1]] v fun e w'=>e=.returned false∧Below v v w'):=zh (fun v=>zAm a y1 m1 d1 false v ⟨u1,u2,u3,u4,u5,u6⟩ ha hf1)
 exact zqgoz
theorem zTl (a b y1 m1 d1 y2 m2 d2 p q:Int) (g2:Bool) (w:World) (h1:may y1 m1 d1) (ha:nb y1 m1 d1=a) (h2:may y2 m2 d2) (hb:nb y2 m2 d2=b) (hab:a≤b) (hf1:febB y1 m1 d1=false) (hf2:febB y2 m2 d2=g2) (n1:d1≠31) (n3:d1≠30) (n2:d2≠31) (hp:rN (px y1 m1 d1 y2 m2 d2) 360=p) (hq:rD (px y1 m1 d1 y2 m2 d2) 360=q) :
  Calls Tryz.prog 44 #[a,b,true] w fun e' w'=>e'=.returned (.tuple #[.agg #[p,q],(0:Int)])∧Below w w w':=by
 have H:=Held.start w
 have b1:=zAd _ _ _ h1
 have b2:=zAd _ _ _ h2
 rw[ha] at b1
 rw[hb] at b2
 have W1:Hid (zAc a b 0):=zh (Or.inr (Or.inr ⟨b1,b2,hab,rfl⟩))
 have O1:Hid (zAf a y1 m1 d1 0):=zh (Or.inl ⟨h1,ha,rfl⟩)
 have O2:Hid (zAf b y2 m2 d2 0):=zh (Or.inl ⟨h2,hb,rfl⟩)
 have l1:=zAh y1 m1
 have l2:=zAh y2 m2
 obtain⟨u1,u2,u3,u4,u5,u6⟩:=h1
 obtain⟨v1,v2,v3,v4,v5,v6⟩:=h2
 have w1:0≤d1∧d1≤31:=zo
 have w2:0≤d2∧d2≤31:=zo
 clear l1 l2
 have HP:=zh hp
 have HQ:=zh hq
 clear hp hq
 have F1:Hid (∀v,Calls Tryz.prog 66 #[a,.agg #[y1,m1,d1]] v fun e w'=>e=.returned false∧Below v v w'):=zh (fun v=>zAm a y1 m1 d1 false v ⟨u1,u2,u3,u4,u5,u6⟩ ha hf1)
 exact zqaj5
theorem rus_tt (a b y1 m1 d1 y2 m2 d2 p q:Int) (w:World) (h1:may y1 m1 d1) (ha:nb y1 m1 d1=a) (h2:may y2 m2 d2) (hb:nb y2 m2 d2=b) (hab:a≤b) (hf1:febB y1 m1 d1=true) (hf2:febB y2 m2 d2=true) (hp:rN (px y1 m1 30 y2 m2 30) 360=p) (hq:rD (px y1 m1 30 y2 m2 30) 360=q) :
  Calls Tryz.prog 44 #[a,b,true] w fun e' w'=>e'=.returned (.tuple #[.agg #[p,q],(0:Int)])∧Below w w w':=by
 have H:=Held.start w
 have b1:=zAd _ _ _ h1
 have b2:=zAd _ _ _ h2
 rw[ha] at b1
 rw[hb] at b2
 have W1:Hid (zAc a b 0):=zh (Or.inr (Or.inr ⟨b1,b2,hab,rfl⟩))
 have O1:Hid (zAf a y1 m1 d1 0):=zh (Or.inl ⟨h1,ha,rfl⟩)
 have O2:Hid (zAf b y2 m2 d2 0):=zh (Or.inl ⟨h2,hb,rfl⟩)
 have l1:=zAh y1 m1
 have l2:=zAh y2 m2
 obtain⟨u1,u2,u3,u4,u5,u6⟩:=h1
 obtain⟨v1,v2,v3,v4,v5,v6⟩:=h2
 have w1:0≤d1∧d1≤31:=zo
 have w2:0≤d2∧d2≤31:=zo
 clear l1 l2
 have HP:=zh hp
 have HQ:=zh hq
 clear hp hq
 have F1:Hid (∀v,Calls Tryz.prog 66 #[a,.agg #[y1,m1,d1]] v fun e w'=>e=.returned true∧Below v v w'):=zh (fun v=>zAm a y1 m1 d1 true v ⟨u1,u2,u3,u4,u5,u6⟩ ha hf1)
 have F2:Hid (∀v,Calls Tryz.prog 66 #[b,.agg #[y2,m2,d2]] v fun e w'=>e=.returned true∧Below v v w'):=zh (fun v=>zAm b y2 m2 d2 true v ⟨v1,v2,v3,v4,v5,v6⟩ hb hf2)
 clear hf1 hf2
 clear ha hb hab u6 v6
 go_enter Tryz.func44,Tryz.ntmps44
 go_wp2_with fail
 replace H:=(H.pair w (0:Int) (0:Int) 48 rfl)
 revert H
 with_reducible refine zG (fun _=>zA4 a b 0 _ W1.out) ?_
 intro w1 H
 go_wp2_with fail
 revert H
 with_reducible refine zG (fun _=>zA5 a y1 m1 d1 0 _ O1.out) ?_
 intro w2 H
 go_wp2_with fail
 replace H:=(H.triple w2 y1 m1 d1 86 rfl)
 revert H
 with_reducible refine zG (fun _=>zA5 b y2 m2 d2 0 _ O2.out) ?_
 intro w3 H
 obtain⟨ca0,ca1,ca2⟩:=H.cells3 w2
 have la:=H.lt w2 0 y1 i0_
 go_wp2_with fail
 clear ca0 ca1 ca2 la
 replace H:=(H.triple w3 y2 m2 d2 86 rfl)
 revert H
 with_reducible refine zG (fun _=>F1.out _) ?_
 intro w4 H
 obtain⟨ca0,ca1,ca2⟩:=H.cells3 w2
 have la:=H.lt w2 0 y1 i6_
 obtain⟨cb0,cb1,cb2⟩:=H.cells3 w3
 have lb:=H.lt w3 0 y2 i0_
 go_wp2_with fail
 clear ca0 ca1 ca2 la cb0 cb1 cb2 lb
 revert H
 with_reducible refine zG (fun _=>F2.out _) ?_
 intro w5 H
 obtain⟨ca0,ca1,ca2⟩:=H.cells3 w2
 have la:=H.lt w2 0 y1 i6_
 obtain⟨cb0,cb1,cb2⟩:=H.cells3 w3
 have lb:=H.lt w3 0 y2 i0_
 go_wp2_with fail
 clear ca0 ca1 ca2 la cb0 cb1 cb2 lb
 revert H
 with_reducible refine zG (fun _=>zAe y1 m1 d1 y2 m2 d2 30 30 p q _ ⟨u1,u2⟩ ⟨v1,v2⟩ ⟨u3,u4⟩ ⟨v3,v4⟩ zo zo HP.out HQ.out) ?_
 exact zq81n
theorem rus_tf31 (a b y1 m1 d1 y2 m2 p q:Int) (w:World) (h1:may y1 m1 d1) (ha:nb y1 m1 d1=a) (h2:may y2 m2 31) (hb:nb y2 m2 31=b) (hab:a≤b) (hf1:febB y1 m1 d1=true) (hf2:febB y2 m2 31=false) (hp:rN (px y1 m1 30 y2 m2 30) 360=p) (hq:rD (px y1 m1 30 y2 m2 30) 360=q) :
  Calls Tryz.prog 44 #[a,b,true] w fun e' w'=>e'=.returned (.tuple #[.agg #[p,q],(0:Int)])∧Below w w w':=by
 have H:=Held.start w
 have b1:=zAd _ _ _ h1
 have b2:=zAd _ _ _ h2
 rw[ha] at b1
 rw[hb] at b2
 have W1:Hid (zAc a b 0):=zh (Or.inr (Or.inr ⟨b1,b2,hab,rfl⟩))
 have O1:Hid (zAf a y1 m1 d1 0):=zh (Or.inl ⟨h1,ha,rfl⟩)
 have O2:Hid (zAf b y2 m2 31 0):=zh (Or.inl ⟨h2,hb,rfl⟩)
 have l1:=zAh y1 m1
 have l2:=zAh y2 m2
 obtain⟨u1,u2,u3,u4,u5,u6⟩:=h1
 obtain⟨v1,v2,v3,v4,v5,v6⟩:=h2
 have w1:0≤d1∧d1≤31:=zo
 have w2:0≤31∧31≤31:=zo
 clear l1 l2
 have HP:=zh hp
 have HQ:=zh hq
 clear hp hq
 have F1:Hid (∀v,Calls Tryz.prog 66 #[a,.agg #[y1,m1,d1]] v fun e w'=>e=.returned true∧Below v v w'):=zh (fun v=>zAm a y1 m1 d1 true v ⟨u1,u2,u3,u4,u5,u6⟩ ha hf1)
 have F2:Hid (∀v,Calls Tryz.prog 66 #[b,.agg #[y2,m2,(31:Int)]] v fun e w'=>e=.returned false∧Below v v w'):=zh (fun v=>zAm b y2 m2 31 false v ⟨v1,v2,v3,v4,v5,v6⟩ hb hf2)
 clear hf1 hf2
 clear ha hb hab u6 v6
 go_enter Tryz.func44,Tryz.ntmps44
 go_wp2_with fail
 replace H:=(H.pair w (0:Int) (0:Int) 48 rfl)
 revert H
 with_reducible refine zG (fun _=>zA4 a b 0 _ W1.out) ?_
 intro w1 H
 go_wp2_with fail
 revert H
 with_reducible refine zG (fun _=>zA5 a y1 m1 d1 0 _ O1.out) ?_
 intro w2 H
 go_wp2_with fail
 replace H:=(H.triple w2 y1 m1 d1 86 rfl)
 revert H
 with_reducible refine zG (fun _=>zA5 b y2 m2 31 0 _ O2.out) ?_
 intro w3 H
 obtain⟨ca0,ca1,ca2⟩:=H.cells3 w2
 have la:=H.lt w2 0 y1 i0_
 go_wp2_with fail
 clear ca0 ca1 ca2 la
 replace H:=(H.triple w3 y2 m2 (31:Int) 86 rfl)
 revert H
 with_reducible refine zG (fun _=>F1.out _) ?_
 intro w4 H
 obtain⟨ca0,ca1,ca2⟩:=H.cells3 w2
 have la:=H.lt w2 0 y1 i6_
 obtain⟨cb0,cb1,cb2⟩:=H.cells3 w3
 have lb:=H.lt w3 0 y2 i0_
 go_wp2_with fail
 clear ca0 ca1 ca2 la cb0 cb1 cb2 lb
 revert H
 with_reducible refine zG (fun _=>F2.out _) ?_
 intro w5 H
 obtain⟨ca0,ca1,ca2⟩:=H.cells3 w2
 have la:=H.lt w2 0 y1 i6_
 obtain⟨cb0,cb1,cb2⟩:=H.cells3 w3
 have lb:=H.lt w3 0 y2 i0_
 go_wp2_with fail
 clear ca0 ca1 ca2 la cb0 cb1 cb2 lb
 revert H
 with_reducible refine zG (fun _=>zAe y1 m1 d1 y2 m2 31 30 30 p q _ ⟨u1,u2⟩ ⟨v1,v2⟩ ⟨u3,u4⟩ ⟨v3,v4⟩ zo zo HP.out HQ.out) ?_
 exact zq81n
theorem rus_tfd2 (a b y1 m1 d1 y2 m2 d2 p q:Int) (w:World) (h1:may y1 m1 d1) (ha:nb y1 m1 d1=a) (h2:may y2 m2 d2) (hb:nb y2 m2 d2=b) (hab:a≤b) (hf1:febB y1 m1 d1=true) (hf2:febB y2 m2 d2=false) (n2:d2≠31) (hp:rN (px y1 m1 30 y2 m2 d2) 360=p) (hq:rD (px y1 m1 30 y2 m2 d2) 360=q) :
  Calls Tryz.prog 44 #[a,b,true] w fun e' w'=>e'=.returned (.tuple #[.agg #[p,q],(0:Int)])∧Below w w w':=by
 have H:=Held.start w
 have b1:=zAd _ _ _ h1
 have b2:=zAd _ _ _ h2
 rw[ha] at b1
 rw[hb] at b2
 have W1:Hid (zAc a b 0):=zh (Or.inr (Or.inr ⟨b1,b2,hab,rfl⟩))
 have O1:Hid (zAf a y1 m1 d1 0):=zh (Or.inl ⟨h1,ha,rfl⟩)
 have O2:Hid (zAf b y2 m2 d2 0):=zh (Or.inl ⟨h2,hb,rfl⟩)
 have l1:=zAh y1 m1
 have l2:=zAh y2 m2
 obtain⟨u1,u2,u3,u4,u5,u6⟩:=h1
 obtain⟨v1,v2,v3,v4,v5,v6⟩:=h2
 have w1:0≤d1∧d1≤31:=zo
 have w2:0≤d2∧d2≤31:=zo
 clear l1 l2
 have HP:=zh hp
 have HQ:=zh hq
 clear hp hq
 have F1:Hid (∀v,Calls Tryz.prog 66 #[a,.agg #[y1,m1,d1]] v fun e w'=>e=.returned true∧Below v v w'):=zh (fun v=>zAm a y1 m1 d1 true v ⟨u1,u2,u3,u4,u5,u6⟩ ha hf1)
 have F2:Hid (∀v,Calls Tryz.prog 66 #[b,.agg #[y2,m2,d2]] v fun e w'=>e=.returned false∧Below v v w'):=zh (fun v=>zAm b y2 m2 d2 false v ⟨v1,v2,v3,v4,v5,v6⟩ hb hf2)
 clear hf1 hf2
 have t2:(d2==31)=false:=beq_eq_false_iff_ne.2 n2
 clear ha hb hab u6 v6
 go_enter Tryz.func44,Tryz.ntmps44
 go_wp2_with fail
 replace H:=(H.pair w (0:Int) (0:Int) 48 rfl)
 revert H
 with_reducible refine zG (fun _=>zA4 a b 0 _ W1.out) ?_
 intro w1 H
 go_wp2_with fail
 revert H
 with_reducible refine zG (fun _=>zA5 a y1 m1 d1 0 _ O1.out) ?_
 intro w2 H
 go_wp2_with fail
 replace H:=(H.triple w2 y1 m1 d1 86 rfl)
 revert H
 with_reducible refine zG (fun _=>zA5 b y2 m2 d2 0 _ O2.out) ?_
 intro w3 H
 obtain⟨ca0,ca1,ca2⟩:=H.cells3 w2
 have la:=H.lt w2 0 y1 i0_
 go_wp2_with fail
 clear ca0 ca1 ca2 la
 replace H:=(H.triple w3 y2 m2 d2 86 rfl)
 revert H
 with_reducible refine zG (fun _=>F1.out _) ?_
 intro w4 H
 obtain⟨ca0,ca1,ca2⟩:=H.cells3 w2
 have la:=H.lt w2 0 y1 i6_
 obtain⟨cb0,cb1,cb2⟩:=H.cells3 w3
 have lb:=H.lt w3 0 y2 i0_
 go_wp2_with fail
 clear ca0 ca1 ca2 la cb0 cb1 cb2 lb
 revert H
 with_reducible refine zG (fun _=>F2.out _) ?_
 intro w5 H
 obtain⟨ca0,ca1,ca2⟩:=H.cells3 w2
 have la:=H.lt w2 0 y1 i6_
 obtain⟨cb0,cb1,cb2⟩:=H.cells3 w3
 have lb:=H.lt w3 0 y2 i0_
 go_wp2_with fail
 clear ca0 ca1 ca2 la cb0 cb1 cb2 lb
 revert H
 with_reducible refine zG (fun _=>zAe y1 m1 d1 y2 m2 d2 30 d2 p q _ ⟨u1,u2⟩ ⟨v1,v2⟩ ⟨u3,u4⟩ ⟨v3,v4⟩ zo zo HP.out HQ.out) ?_
 exact zq81n
theorem rus_day (a b:Int) (t:Bool) (w:World) (h:(a<1∨3652059<a)∨(b<1∨3652059<b)) :
  Calls Tryz.prog 44 #[a,b,t] w fun e' w'=>e'=.returned (.tuple #[.agg #[(0:Int),(0:Int)],(3:Int)])∧Below w w w':=by
 have H:=Held.start w
 have W1:Hid (zAc a b 3):=zh (Or.inl ⟨h,rfl⟩)
 go_enter Tryz.func44,Tryz.ntmps44
 go_wp2_with fail
 replace H:=(H.pair w (0:Int) (0:Int) 48 rfl)
 revert H
 with_reducible refine zG (fun _=>zA4 a b 3 _ W1.out) ?_
 intro w1 H
 obtain⟨cz0,cz1⟩:=H.cells2 w
 have lz:=H.lt w 0 (0:Int) i0_
 obtain⟨fz0,fz1⟩:=H.frozens2 w
 have HK:=H.old
 clear H
 go_wp2_with fail
 exact bodyPost_ret (v:=.tuple #[.agg #[(0:Int),(0:Int)],(3:Int)]) (by simp[results,Tryz.results44,go_sem,cz0,cz1]) rfl ⟨rfl,(HK.setCell zw _).setCell zw _⟩
theorem zTs (a b:Int) (t:Bool) (w:World) (h1:1≤a∧a≤3652059) (h2:1≤b∧b≤3652059) (h:b<a) :
  Calls Tryz.prog 44 #[a,b,t] w fun e' w'=>e'=.returned (.tuple #[.agg #[(0:Int),(0:Int)],(4:Int)])∧Below w w w':=by
 have H:=Held.start w
 have W1:Hid (zAc a b 4):=zh (Or.inr (Or.inl ⟨h1,h2,h,rfl⟩))
 go_enter Tryz.func44,Tryz.ntmps44
 go_wp2_with fail
 replace H:=(H.pair w (0:Int) (0:Int) 48 rfl)
 revert H
 with_reducible refine zG (fun _=>zA4 a b 4 _ W1.out) ?_
 intro w1 H
 obtain⟨cz0,cz1⟩:=H.cells2 w
 have lz:=H.lt w 0 (0:Int) i0_
 obtain⟨fz0,fz1⟩:=H.frozens2 w
 have HK:=H.old
 clear H
 go_wp2_with fail
 exact bodyPost_ret (v:=.tuple #[.agg #[(0:Int),(0:Int)],(4:Int)]) (by simp[results,Tryz.results44,go_sem,cz0,cz1]) rfl ⟨rfl,(HK.setCell zw _).setCell zw _⟩
theorem rus_any (a b p q c:Int) (t:Bool) (w:World) (h:zBd (uX t) a b p q c):Calls Tryz.prog 44 #[a,b,t] w fun e' w'=>e'=.returned (.tuple #[.agg #[p,q],c])∧Below w w w':=by
 rcases h with⟨y1,m1,d1,y2,m2,d2,h1,ha,h2,hb,hab,hp,hq,rfl⟩ | ⟨h,rfl,rfl,rfl⟩ | ⟨h1,h2,h,rfl,rfl,rfl⟩
 ·unfold uX usA usB usC cutD at hp hq
  cases t
  ·simp only[Bool.false_eq_true,false_and,if_false] at hp hq
   by_cases n1:d1=31
   ·subst n1
    by_cases n2:d2=31
    ·subst n2
     exact zTo a b y1 m1 y2 m2 p q _ _ w h1 ha h2 hb hab rfl rfl (by simpa using hp) (by simpa using hq)
    ·exact zTp a b y1 m1 y2 m2 d2 p q _ _ w h1 ha h2 hb hab rfl rfl n2 (by simpa [n2] using hp) (by simpa [n2] using hq)
   ·by_cases n3:d1=30
    ·subst n3
     by_cases n2:d2=31
     ·subst n2
      exact zTm a b y1 m1 y2 m2 p q _ _ w h1 ha h2 hb hab rfl rfl (by simpa using hp) (by simpa using hq)
     ·exact zTn a b y1 m1 y2 m2 d2 p q _ _ w h1 ha h2 hb hab rfl rfl n2 (by simpa [n2] using hp) (by simpa [n2] using hq)
    ·skip
     by_cases n2:d2=31
     ·subst n2
      exact zTq a b y1 m1 d1 y2 m2 p q _ _ w h1 ha h2 hb hab rfl rfl n1 n3 (by simpa [n1,n3] using hp) (by simpa [n1,n3] using hq)
     ·exact zTr a b y1 m1 d1 y2 m2 d2 p q _ _ w h1 ha h2 hb hab rfl rfl n1 n3 n2 (by simpa [n2,n1,n3] using hp) (by simpa [n2,n1,n3] using hq)
  ·cases f1:febB y1 m1 d1
   ·simp only[f1,Bool.false_eq_true,and_false,false_and,if_false] at hp hq
    by_cases n1:d1=31
    ·subst n1
     by_cases n2:d2=31
     ·subst n2
      exact zTi a b y1 m1 y2 m2 p q _ w h1 ha h2 hb hab f1 rfl (by simpa using hp) (by simpa using hq)
     ·exact zTj a b y1 m1 y2 m2 d2 p q _ w h1 ha h2 hb hab f1 rfl n2 (by simpa [n2] using hp) (by simpa [n2] using hq)
    ·by_cases n3:d1=30
     ·subst n3
      by_cases n2:d2=31
      ·subst n2
       exact zTg a b y1 m1 y2 m2 p q _ w h1 ha h2 hb hab f1 rfl (by simpa using hp) (by simpa using hq)
      ·exact zTh a b y1 m1 y2 m2 d2 p q _ w h1 ha h2 hb hab f1 rfl n2 (by simpa [n2] using hp) (by simpa [n2] using hq)
     ·skip
      by_cases n2:d2=31
      ·subst n2
       exact zTk a b y1 m1 d1 y2 m2 p q _ w h1 ha h2 hb hab f1 rfl n1 n3 (by simpa [n1,n3] using hp) (by simpa [n1,n3] using hq)
      ·exact zTl a b y1 m1 d1 y2 m2 d2 p q _ w h1 ha h2 hb hab f1 rfl n1 n3 n2 (by simpa [n2,n1,n3] using hp) (by simpa [n2,n1,n3] using hq)
   ·cases f2:febB y2 m2 d2
    ·simp only[f1,f2,Bool.false_eq_true,and_false,and_self,if_true,if_false] at hp hq
     by_cases n2:d2=31
     ·subst n2
      exact rus_tf31 a b y1 m1 d1 y2 m2 p q w h1 ha h2 hb hab f1 f2 (by simpa using hp) (by simpa using hq)
     ·exact rus_tfd2 a b y1 m1 d1 y2 m2 d2 p q w h1 ha h2 hb hab f1 f2 n2 (by simpa [n2] using hp) (by simpa [n2] using hq)
    ·simp only[f1,f2,and_self,if_true] at hp hq
     exact rus_tt a b y1 m1 d1 y2 m2 d2 p q w h1 ha h2 hb hab f1 f2 (by simpa using hp) (by simpa using hq)
 ·exact rus_day a b t w h
 ·exact zTs a b t w h1 h2 h
end Go.Proofs.YtpfgdfpaoldhcaaGreatDoor
