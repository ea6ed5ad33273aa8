/- Several texts in one: EaRef, RuRef, RuRefB, RuRefC, RuRefD, CaMem, CaRef. -/
import Derived.Test.YtpfgdfpaoldhcaaGreatDoorSuAD
set_option maxHeartbeats 8000000
set_option maxRecDepth 100000
set_option linter.unusedVariables false
set_option linter.unusedSimpArgs false
namespace Go.Proofs.YtpfgdfpaoldhcaaGreatDoor
open Go.RowKit
theorem zF2 (n r:Int) (w:World) (h : -1000000≤n∧n≤1000000) (hr:n%30=r):Calls Tryz.prog 98 #[n,(30:Int)] w fun e w'=>e=.returned r∧w=w':=by
 have b:=zCe n 30 zd
 have e:r=(n.tmod 30+30)%30:=by
  have:=Int.mul_tdiv_add_tmod n 30
  omega
 clear hr
 go_enter Tryz.func98,Tryz.ntmps98
 go_wp2
 go_ret
 exact⟨by rw[e];rfl,rfl⟩
theorem rea_out (y:Int) (w:World) (h:y<1∨9999<y):Calls Tryz.prog 90 #[y] w fun e w'=>e=.returned (.tuple #[(0:Int),(3:Int)])∧Below w w w':=by
 rcases h with h | h
 ·go_enter Tryz.func90,Tryz.ntmps90
  go_wp2
  go_ret2
  exact⟨rfl,Below.refl _ _⟩
 ·have h2:¬y<1:=zo
  go_enter Tryz.func90,Tryz.ntmps90
  go_wp2
  go_ret2
  exact⟨rfl,Below.refl _ _⟩
theorem zKf (d z:Int) (h1:d≤z) (h2:z≤sun d):(wk z=6→z=sun d)∧(z=sun d→wk z=6):=by unfold sun wk at *;omega
theorem zqgt9 {P:Prop} (h:P:=by
 have C1:=zh (fun v=>zF2 (11*(y%19+1)+20+((8*(y/100+1)+5)/25-5)-(3*(y/100+1)/4-12)) _ v zo HE.out)
 have DB:=zh db
 clear db
 go_enter Tryz.func90,Tryz.ntmps90
 go_wp2_with fail
 with_reducible refine (C1.out _).mono ?_
 rintro e w1 ⟨rfl,rfl⟩
 go_wp2_with fail
 with_reducible refine (zB9 y 3 1 M 0 _ HM.out).mono ?_
 rintro e w1 ⟨rfl,hb⟩
 go_wp2
 go_loopw [12] (fun s W'=>∃z:Int,s=.int .i64 z∧(d≤z∧z≤S)∧Below w w W') (fun s _=>(S-intOf s).toNat)
 case atStart=>
  have:=DB.out
  exact⟨_,rfl,zo,hb⟩
 case round=>
  obtain⟨z,rfl,hz,hB⟩:=hrel
  have at1:=zKf d z hz.1 (by rw[HS.out];exact hz.2)
  rw[HS.out] at at1
  obtain⟨k,HK⟩:∃k,Hid (wk z=k):=⟨_,zh rfl⟩
  rw[HK.out] at at1
  have zb : -4000000≤z∧z≤4000000:=by have:=DB.out;omega
  by_cases hk:k=6
  ·have e:=zh (at1.1 hk)
   have hk2:(k != 6)=false:=by simpa using hk
   clear at1 hk
   go_wp2_with fail
   with_reducible refine (zAr z k _ HK.out).mono ?_
   rintro e2 w2 ⟨rfl,hb2⟩
   go_wp2
   go_ret2
   exact⟨by rw[←e.out];rfl,hB.trans (hb2.mono hB.size)⟩
  ·have e:z≠S:=fun e=>hk (at1.2 e)
   have hk2:(k != 6)=true:=by simpa using hk
   clear at1 hk
   go_wp2_with fail
   with_reducible refine (zAr z k _ HK.out).mono ?_
   rintro e2 w2 ⟨rfl,hb2⟩
   go_wp2
   go_roundw
   case rel=>exact⟨_,rfl,zo,hB.trans (hb2.mono hB.size)⟩
   case measure=>simp[intOf];omega):P:=h
theorem zqll2 {P:Prop} (h:P:=by
 have HE:=zh he
 have HM:=zh hm
 have HD:=zh hd
 have HS:=zh hs
 have sb:=zHx d
 rw[hs] at sb
 have db:d=M+(49):=hd.symm
 clear he hm hd hs
 subst hr
 exact zqgt9):P:=h
theorem rea_a (y r M d S:Int) (w:World) (h1:1≤y) (h2:y≤9999) (he:eaR y=r) (hr:r=24) (hm:nN y 3 1=M∧nE y 3 1=0) (mb:1≤M∧M≤3652059) (hd:M+(49)=d) (hs:sun d=S) :
  Calls Tryz.prog 90 #[y] w fun e w'=>e=.returned (.tuple #[S,(0:Int)])∧Below w w w':=by
 exact zqll2
theorem rea_b (y r M d S:Int) (w:World) (h1:1≤y) (h2:y≤9999) (he:eaR y=r) (hr:r=25) (hg:11<y%19+1) (hm:nN y 3 1=M∧nE y 3 1=0) (mb:1≤M∧M≤3652059) (hd:M+(48)=d) (hs:sun d=S) :
  Calls Tryz.prog 90 #[y] w fun e w'=>e=.returned (.tuple #[S,(0:Int)])∧Below w w w':=by
 have HE:=zh he
 have HM:=zh hm
 have HD:=zh hd
 have HS:=zh hs
 have sb:=zHx d
 rw[hs] at sb
 have db:d=M+(48):=hd.symm
 clear he hm hd hs
 subst hr
 exact zqgt9
theorem rea_c (y r M d S:Int) (w:World) (h1:1≤y) (h2:y≤9999) (he:eaR y=r) (hr:r=25) (hg:¬11<y%19+1) (hm:nN y 3 1=M∧nE y 3 1=0) (mb:1≤M∧M≤3652059) (hd:M+(49)=d) (hs:sun d=S) :
  Calls Tryz.prog 90 #[y] w fun e w'=>e=.returned (.tuple #[S,(0:Int)])∧Below w w w':=by
 exact zqll2
theorem rea_d (y r M d S:Int) (w:World) (h1:1≤y) (h2:y≤9999) (he:eaR y=r) (hr:25<r∧r<30) (hm:nN y 3 1=M∧nE y 3 1=0) (mb:1≤M∧M≤3652059) (hd:M+(74-r)=d) (hs:sun d=S) :
  Calls Tryz.prog 90 #[y] w fun e w'=>e=.returned (.tuple #[S,(0:Int)])∧Below w w w':=by
 have HE:=zh he
 have HM:=zh hm
 have HD:=zh hd
 have HS:=zh hs
 have sb:=zHx d
 rw[hs] at sb
 have db:d=M+(74-r):=hd.symm
 clear he hm hd hs
 have n24:(r==24)=false:=zx
 have n25:(r==25)=false:=zx
 exact zqgt9
theorem rea_e (y r M d S:Int) (w:World) (h1:1≤y) (h2:y≤9999) (he:eaR y=r) (hr:0≤r∧r<24) (hm:nN y 3 1=M∧nE y 3 1=0) (mb:1≤M∧M≤3652059) (hd:M+(44-r)=d) (hs:sun d=S) :
  Calls Tryz.prog 90 #[y] w fun e w'=>e=.returned (.tuple #[S,(0:Int)])∧Below w w w':=by
 have HE:=zh he
 have HM:=zh hm
 have HD:=zh hd
 have HS:=zh hs
 have sb:=zHx d
 rw[hs] at sb
 have db:d=M+(44-r):=hd.symm
 clear he hm hd hs
 have n24:(r==24)=false:=zx
 have n25:(r==25)=false:=zx
 exact zqgt9
theorem rea_any (y n c:Int) (w:World) (h:EaIs y n c):Calls Tryz.prog 90 #[y] w fun e w'=>e=.returned (.tuple #[n,c])∧Below w w w':=by
 rcases h with⟨h1,h2,rfl,rfl⟩ | ⟨h,rfl,rfl⟩
 ·have mm:=zDf y 1 h1 h2 zd zd
  have hm:=zEa mm
  have mb:=zAd _ _ _ mm
  have rb:0≤eaR y∧eaR y<30:=by unfold eaR;omega
  have key:∀N,eaN y=N→sun (nb y 3 1+N)=east y:=fun N h=>by rw[←h];rfl
  by_cases c1:eaR y=24
  ·exact rea_a y _ _ _ _ w h1 h2 rfl c1 hm mb rfl (key _ (by unfold eaN eaE;rw[c1];simp))
  ·by_cases c2:eaR y=25
   ·by_cases c3:11<y%19+1
    ·exact rea_b y _ _ _ _ w h1 h2 rfl c2 c3 hm mb rfl (key _ (by unfold eaN eaE;rw[c2];simp[c3]))
    ·exact rea_c y _ _ _ _ w h1 h2 rfl c2 c3 hm mb rfl (key _ (by unfold eaN eaE;rw[c2];simp[c3]))
   ·have q:eaE y=eaR y:=by unfold eaE;rw[if_neg zo]
    by_cases c4:eaR y<24
    ·exact rea_e y _ _ _ _ w h1 h2 rfl ⟨rb.1,c4⟩ hm mb rfl (key _ (by unfold eaN;rw[q,if_neg zo]))
    ·exact rea_d y _ _ _ _ w h1 h2 rfl ⟨zo,rb.2⟩ hm mb rfl (key _ (by unfold eaN;rw[q,if_pos zo]))
 ·exact rea_out y w h
theorem Held.oct {w W:World} {fs:List Fact} (h:Held w fs W) (B:Nat) (x0 x1 x2 x3 x4 x5 x6 x7:Value) (t:TypeId) (hB:W.heap.size=B) :
  Held w (.cell B 0 x0::.cell B 1 x1::.cell B 2 x2::.cell B 3 x3::.cell B 4 x4::.cell B 5 x5::.cell B 6 x6::.cell B 7 x7::.free B 0::.free B 1::.free B 2::.free B 3::.free B 4::.free B 5::.free B 6::.free B 7::fs) (W.alloc (.cells #[x0,x1,x2,x3,x4,x5,x6,x7] t)):=by
 subst hB
 exact ((((((((((((((((h.alloc _).add (f:=.free W.heap.size 7) ⟨zs,by simp[go_sem]⟩).add (f:=.free W.heap.size 6) ⟨zs,by simp[go_sem]⟩).add (f:=.free W.heap.size 5) ⟨zs,by simp[go_sem]⟩).add (f:=.free W.heap.size 4) ⟨zs,by simp[go_sem]⟩).add (f:=.free W.heap.size 3) ⟨zs,by simp[go_sem]⟩).add (f:=.free W.heap.size 2) ⟨zs,by simp[go_sem]⟩).add (f:=.free W.heap.size 1) ⟨zs,by simp[go_sem]⟩).add (f:=.free W.heap.size 0) ⟨zs,by simp[go_sem]⟩).add (f:=.cell W.heap.size 7 x7) zf).add (f:=.cell W.heap.size 6 x6) zf).add (f:=.cell W.heap.size 5 x5) zf).add (f:=.cell W.heap.size 4 x4) zf).add (f:=.cell W.heap.size 3 x3) zf).add (f:=.cell W.heap.size 2 x2) zf).add (f:=.cell W.heap.size 1 x1) zf).add (f:=.cell W.heap.size 0 x0) zf
def cnt (x i:Int):Int:=(i+6-x)/7
def frs (F d:Int):Int:=1+(d-wk F)%7
theorem zQl {F d i:Int} (hd:0≤d∧d≤6) (hi:1≤i) (h:wk (F+i-1)=d):cnt (frs F d) (i+1)=cnt (frs F d) i+1∧i=frs F d+7*cnt (frs F d) i:=by
 unfold cnt frs wk at *;omega
theorem zMl {F d i:Int} (hd:0≤d∧d≤6) (hi:1≤i) (h:wk (F+i-1)≠d):cnt (frs F d) (i+1)=cnt (frs F d) i:=by
 unfold cnt frs wk at *;omega
theorem zQm (F d:Int):cnt (frs F d) 1=0:=by unfold cnt frs;omega
theorem cnt_bd {F d i:Int} (h:1≤i∧i≤32):0≤cnt (frs F d) i∧cnt (frs F d) i≤5:=by unfold cnt frs;omega
theorem frs_bd (F d:Int):1≤frs F d∧frs F d≤7:=by unfold frs;omega
theorem zNi (n k:Int) (w:World) (h:wk n=k):Calls Tryz.prog 38 #[n] w fun e w'=>e=.returned k∧w=w':=by
 subst h;exact zDi n w
theorem zP5 (k m d q o s f t y:Int) (w:World) (h:y<f∨t<y):Calls Tryz.prog 82 #[.agg #[k,m,d,q,o,s,f,t],y] w fun e w'=>e=.returned (.tuple #[(0:Int),false])∧Below w w w':=by
 have D:∀w:World,Below w w (w.alloc (.cells #[k,m,d,q,o,s,f,t] 76)):=fun w=>(Below.refl _ _).alloc (Nat.le_refl _) _
 go_enter Tryz.func82,Tryz.ntmps82
 go_wp2
 all_goals first | (exfalso;omega) | skip
 all_goals (go_ret2;exact⟨rfl,D _⟩)
theorem zLx (k m d q o s f t y:Int) (E n:Int) (b:Bool) (w:World) (hy:1≤y∧y≤9999∧f≤y∧y≤t) (hk:k=3) (he:EaIs y E 0) (hb:0≤E∧E≤4000000) (ho : -100≤o∧o≤250) (hn:(if 1≤E+o∧E+o≤3652059 then E+o else 0)=n∧decide (0<n)=b):Calls Tryz.prog 82 #[.agg #[k,m,d,q,o,s,f,t],y] w fun e w'=>e=.returned (.tuple #[n,b])∧Below w w w':=by
 have H:=Held.start w
 have C:=zh (fun v=>rea_any y E 0 v he)
 obtain⟨y1,y2,y3,y4⟩:=hy
 have HN:=zh hn
 clear he hn
 subst hk
 go_enter Tryz.func82,Tryz.ntmps82
 replace H:=H.oct w (3:Int) m d q o s f t 76 rfl
 go_wp2_with fail
 with_reducible refine (C.out _).mono ?_
 rintro e w1 ⟨rfl,hb1⟩
 replace H:=H.below hb1
 clear hb1
 obtain⟨c0,c1,c2,c3,c4,c5,c6,c7⟩:=H.cells8 w
 by_cases hc:1≤E+o∧E+o≤3652059
 ·obtain⟨n1,n2⟩:=HN.out
  rw[if_pos hc] at n1
  subst n1
  have e1:b=true:=by rw[←n2];exact decide_eq_true zo
  subst e1
  clear n2 HN
  go_wp2
  go_ret2
  exact⟨rfl,H.old⟩
 ·obtain⟨n1,n2⟩:=HN.out
  rw[if_neg hc] at n1
  subst n1
  have e1:b=false:=by rw[←n2];rfl
  subst e1
  clear n2 HN
  have hc2:E+o<1∨3652059<E+o:=zo
  go_wp2
  all_goals first | (exfalso;omega) | skip
  all_goals (go_ret2;exact⟨rfl,H.old⟩)
theorem zK6 (k m d q o s f t y:Int) (L F n:Int) (b:Bool) (w:World) (hy:1≤y∧y≤9999∧f≤y∧y≤t) (hm:1≤m∧m≤12) (hl:ln y m=L) (hF:nN y m 1=F∧nE y m 1=0) (Fb:1≤F∧F+L≤3652060) (Lb:28≤L∧L≤31) (hk:k=0) (hd:1≤d) (hn:(if d≤L then F+d-1 else 0)=n) (hb:decide (0<n)=b):Calls Tryz.prog 82 #[.agg #[k,m,d,q,o,s,f,t],y] w fun e w'=>e=.returned (.tuple #[.int .i64 n,.bool b])∧Below w w w':=by
 have H:=Held.start w
 have C1:=zh (fun v=>zFe y m L v hl)
 have C2:=zh (fun v=>zB9 y m 1 F 0 v hF)
 have C3:=zh (fun n v=>zDi n v)
 obtain⟨y1,y2,y3,y4⟩:=hy
 have HN:=zh hn
 have HB:=zh hb
 clear hl hF hn hb
 subst hk
 go_enter Tryz.func82,Tryz.ntmps82
 replace H:=H.oct w (0:Int) m d q o s f t 76 rfl
 go_wp2_with fail
 with_reducible refine (C1.out _).mono ?_
 rintro e w1 ⟨rfl,hb1⟩
 replace H:=H.below hb1
 clear hb1
 obtain⟨c0,c1,c2,c3,c4,c5,c6,c7⟩:=H.cells8 w
 go_wp2_with fail
 clear c0 c1 c2 c3 c4 c5 c6 c7
 with_reducible refine (C2.out _).mono ?_
 rintro e w2 ⟨rfl,hb1⟩
 replace H:=H.below hb1
 clear hb1
 obtain⟨c0,c1,c2,c3,c4,c5,c6,c7⟩:=H.cells8 w
 go_wp2
 go_loop [12,13,14] (fun a b c=>∃i:Int,1≤i∧i≤L+1∧a=.int .i64 0∧b=.int .i64 (if d<i then F+d-1 else 0)∧c=.int .i64 i) (fun _ _ c=>(L+1-intOf c).toNat)
 case atStart=>exact⟨1,zo,zo,rfl,by rw[if_neg zo],rfl⟩
 case round=>
  obtain⟨i,i1,i2,rfl,rfl,rfl⟩:=hrel
  by_cases hi:i≤L
  ·by_cases hd2:i=d
   ·subst hd2
    rw[if_neg zo]
    go_wp2
    go_round
    case rel=>exact⟨i+1,zo,zo,rfl,by rw[if_pos zo],rfl⟩
    case measure=>simp[intOf];omega
   ·have e:(if d<i then F+d-1 else 0)=(if d<i+1 then F+d-1 else 0):=by
     by_cases c:d<i
     ·rw[if_pos c,if_pos zo]
     ·rw[if_neg c,if_neg zo]
    have hd3:(i==d)=false:=by simpa using hd2
    obtain⟨X,HX⟩:∃X,Hid ((if d<i+1 then F+d-1 else 0)=X):=⟨_,zh rfl⟩
    rw[e,HX.out]
    clear e
    go_wp2
    go_round
    case rel=>exact⟨i+1,zo,zo,rfl,by rw[HX.out],rfl⟩
    case measure=>simp[intOf];omega
  ·have e:i=L+1:=zo
   subst e
   have e:(if d<L+1 then F+d-1 else 0)=n:=by
    rw[←HN.out]
    by_cases c:d≤L
    ·rw[if_pos zo,if_pos c]
    ·rw[if_neg zo,if_neg c]
   rw[e]
   clear e
   go_wp2
   go_ret2
   exact⟨by rw[←HB.out];rfl,H.old⟩
theorem zqdak {P:Prop} (h:P:=by
 rw[HY.out]
 clear hv
 go_wp2_with fail
 go_quiet ((go_at_call 38;with_reducible exact zAt (C4.out _)))
 go_wp2
 go_roundw
 case rel=>exact⟨i+1,S,zo,zo,rfl,J1.out.symm,by rw[HY.out],rfl,zA7 hB _⟩
 case measure=>simp[intOf];omega):P:=h
theorem zLy (k m d q o s f t y:Int) (L F n:Int) (b:Bool) (w:World) (hy:1≤y∧y≤9999∧f≤y∧y≤t) (hm:1≤m∧m≤12) (hl:ln y m=L) (hF:nN y m 1=F∧nE y m 1=0) (Fb:1≤F∧F+L≤3652060) (Lb:28≤L∧L≤31) (hk:k=2) (hd:0≤d∧d≤6) (hn:(F+(L-(wk (F+L-1)-d)%7)-1)=n) (hb:decide (0<n)=b):Calls Tryz.prog 82 #[.agg #[k,m,d,q,o,s,f,t],y] w fun e w'=>e=.returned (.tuple #[.int .i64 n,.bool b])∧Below w w w':=by
 have H:=Held.start w
 have C1:=zh (fun v=>zFe y m L v hl)
 have C2:=zh (fun v=>zB9 y m 1 F 0 v hF)
 have C3:=zh (fun n v=>zDi n v)
 obtain⟨y1,y2,y3,y4⟩:=hy
 have HN:=zh hn
 have HB:=zh hb
 clear hl hF hn hb
 subst hk
 go_enter Tryz.func82,Tryz.ntmps82
 replace H:=H.oct w (2:Int) m d q o s f t 76 rfl
 go_wp2_with fail
 with_reducible refine (C1.out _).mono ?_
 rintro e w1 ⟨rfl,hb1⟩
 replace H:=H.below hb1
 clear hb1
 obtain⟨c0,c1,c2,c3,c4,c5,c6,c7⟩:=H.cells8 w
 go_wp2_with fail
 clear c0 c1 c2 c3 c4 c5 c6 c7
 with_reducible refine (C2.out _).mono ?_
 rintro e w2 ⟨rfl,hb1⟩
 replace H:=H.below hb1
 clear hb1
 obtain⟨c0,c1,c2,c3,c4,c5,c6,c7⟩:=H.cells8 w
 obtain⟨x,HX⟩:∃x,Hid (frs F d=x):=⟨_,zh rfl⟩
 have xb:=frs_bd F d
 rw[HX.out] at xb
 (try rw[HX.out] at HN)
 have HH:=zh (fun i (h1:1≤i) (h:wk (F+i-1)=d)=>zQl (F:=F) (d:=d) hd h1 h)
 have HI:=zh (fun i (h1:1≤i) (h:wk (F+i-1)≠d)=>zMl (F:=F) (d:=d) hd h1 h)
 have H1:=zh (zQm F d)
 rw[HX.out] at HH HI H1
 have CB:=zh (fun i h=>cnt_bd (F:=F) (d:=d) (i:=i) h)
 rw[HX.out] at CB
 go_wp2
 go_loopw [12,13,14] (fun a b c W'=>∃i S:Int,1≤i∧i≤L+1∧a=.int .i64 S∧S=cnt x i∧b=.int .i64 (if S<1 then 0 else F+x+7*(S-1)-1)∧c=.int .i64 i∧Below w2 w2 W') (fun _ _ c _=>(L+1-intOf c).toNat)
 case atStart=>exact⟨1,0,zo,zo,rfl,by rw[H1.out],by rw[if_pos zo],rfl,Below.refl _ _⟩
 case round=>
  obtain⟨i,S,i1,i2,rfl,hS,rfl,rfl,hB⟩:=hrel
  have k0:=keep hB (zA0 c0) c0
  have k2:=keep hB (zA0 c2) c2
  have k3:=keep hB (zA0 c3) c3
  clear c0 c1 c2 c3 c4 c5 c6 c7
  by_cases hi:i≤L
  ·obtain⟨v,HV⟩:∃v,Hid (wk (F+i-1)=v):=⟨_,zh rfl⟩
   have C4:=zh (fun u=>zNi (F+i-1) v u HV.out)
   have sb:=CB.out i zo
   rw[←hS] at sb
   have HS:=zh hS
   clear hS
   by_cases hv:v=d
   ·obtain⟨j1,j2⟩:=HH.out i i1 (by rw[HV.out,hv])
    rw[←HS.out] at j1 j2
    have J1:=zh j1
    have J2:=zh j2
    clear j1 j2
    have hv2:(v==d)=true:=by simpa using hv
    obtain⟨X,HY⟩:∃X,Hid ((if S<1 then 0 else F+x+7*(S-1)-1)=X):=⟨_,zh rfl⟩
    rw[HY.out]
    clear hv
    go_wp2_with fail
    go_quiet ((go_at_call 38;with_reducible exact zAt (C4.out _)))
    go_wp2
    go_roundw
    case rel=>exact⟨i+1,S+1,zo,zo,rfl,J1.out.symm,by have:=J2.out;rw[if_neg zo];simp only[Value.int.injEq,true_and];omega,rfl,zA7 hB _⟩
    case measure=>simp[intOf];omega
   ·have j1:=HI.out i i1 (by rw[HV.out];exact hv)
    rw[←HS.out] at j1
    have J1:=zh j1
    clear j1
    have hv2:(v==d)=false:=by simpa using hv
    obtain⟨X,HY⟩:∃X,Hid ((if S<1 then 0 else F+x+7*(S-1)-1)=X):=⟨_,zh rfl⟩
    exact zqdak
  ·have e:i=L+1:=zo
   subst e
   have e:(if S<1 then 0 else F+x+7*(S-1)-1)=n:=by
    have h1:=HN.out
    have h2:=HX.out
    unfold cnt at hS
    unfold frs wk at h2
    unfold wk at h1
    rw[if_neg zo]
    omega
   rw[e]
   clear e
   go_wp2
   go_ret2
   exact⟨by rw[←HB.out];rfl,H.old.trans (hB.mono H.old.size)⟩
theorem zP4 (k m d q o s f t y:Int) (L F n:Int) (b:Bool) (w:World) (hy:1≤y∧y≤9999∧f≤y∧y≤t) (hm:1≤m∧m≤12) (hl:ln y m=L) (hF:nN y m 1=F∧nE y m 1=0) (Fb:1≤F∧F+L≤3652060) (Lb:28≤L∧L≤31) (hk:k=1) (hd:0≤d∧d≤6) (hq:1≤q∧q≤5) (hn:(if frs F d+7*(q-1)≤L then F+frs F d+7*(q-1)-1 else 0)=n) (hb:decide (0<n)=b):Calls Tryz.prog 82 #[.agg #[k,m,d,q,o,s,f,t],y] w fun e w'=>e=.returned (.tuple #[.int .i64 n,.bool b])∧Below w w w':=by
 have H:=Held.start w
 have C1:=zh (fun v=>zFe y m L v hl)
 have C2:=zh (fun v=>zB9 y m 1 F 0 v hF)
 have C3:=zh (fun n v=>zDi n v)
 obtain⟨y1,y2,y3,y4⟩:=hy
 have HN:=zh hn
 have HB:=zh hb
 clear hl hF hn hb
 subst hk
 go_enter Tryz.func82,Tryz.ntmps82
 replace H:=H.oct w (1:Int) m d q o s f t 76 rfl
 go_wp2_with fail
 with_reducible refine (C1.out _).mono ?_
 rintro e w1 ⟨rfl,hb1⟩
 replace H:=H.below hb1
 clear hb1
 obtain⟨c0,c1,c2,c3,c4,c5,c6,c7⟩:=H.cells8 w
 go_wp2_with fail
 clear c0 c1 c2 c3 c4 c5 c6 c7
 with_reducible refine (C2.out _).mono ?_
 rintro e w2 ⟨rfl,hb1⟩
 replace H:=H.below hb1
 clear hb1
 obtain⟨c0,c1,c2,c3,c4,c5,c6,c7⟩:=H.cells8 w
 obtain⟨x,HX⟩:∃x,Hid (frs F d=x):=⟨_,zh rfl⟩
 have xb:=frs_bd F d
 rw[HX.out] at xb
 (try rw[HX.out] at HN)
 have HH:=zh (fun i (h1:1≤i) (h:wk (F+i-1)=d)=>zQl (F:=F) (d:=d) hd h1 h)
 have HI:=zh (fun i (h1:1≤i) (h:wk (F+i-1)≠d)=>zMl (F:=F) (d:=d) hd h1 h)
 have H1:=zh (zQm F d)
 rw[HX.out] at HH HI H1
 have CB:=zh (fun i h=>cnt_bd (F:=F) (d:=d) (i:=i) h)
 rw[HX.out] at CB
 go_wp2
 go_loopw [12,13,14] (fun a b c W'=>∃i S:Int,1≤i∧i≤L+1∧a=.int .i64 S∧S=cnt x i∧b=.int .i64 (if q≤S then F+x+7*(q-1)-1 else 0)∧c=.int .i64 i∧Below w2 w2 W') (fun _ _ c _=>(L+1-intOf c).toNat)
 case atStart=>exact⟨1,0,zo,zo,rfl,by rw[H1.out],by rw[if_neg zo],rfl,Below.refl _ _⟩
 case round=>
  obtain⟨i,S,i1,i2,rfl,hS,rfl,rfl,hB⟩:=hrel
  have k0:=keep hB (zA0 c0) c0
  have k2:=keep hB (zA0 c2) c2
  have k3:=keep hB (zA0 c3) c3
  clear c0 c1 c2 c3 c4 c5 c6 c7
  by_cases hi:i≤L
  ·obtain⟨v,HV⟩:∃v,Hid (wk (F+i-1)=v):=⟨_,zh rfl⟩
   have C4:=zh (fun u=>zNi (F+i-1) v u HV.out)
   have sb:=CB.out i zo
   rw[←hS] at sb
   have HS:=zh hS
   clear hS
   by_cases hv:v=d
   ·obtain⟨j1,j2⟩:=HH.out i i1 (by rw[HV.out,hv])
    rw[←HS.out] at j1 j2
    have J1:=zh j1
    have J2:=zh j2
    clear j1 j2
    have hv2:(v==d)=true:=by simpa using hv
    by_cases hs:S+1=q
    ·have e:(if q≤S then F+x+7*(q-1)-1 else 0)=0:=if_neg zo
     rw[e]
     clear e
     have hs2:(S+1==q)=true:=by simpa using hs
     clear hv
     go_wp2_with fail
     go_quiet ((go_at_call 38;with_reducible exact zAt (C4.out _)))
     go_wp2
     go_roundw
     case rel=>exact⟨i+1,q,zo,zo,rfl,by rw[←hs];exact J1.out.symm,by have:=J2.out;rw[if_pos zo];simp only[Value.int.injEq,true_and];subst hs;omega,rfl,zA7 hB _⟩
     case measure=>simp[intOf];omega
    ·have e:(if q≤S then F+x+7*(q-1)-1 else 0)=(if q≤S+1 then F+x+7*(q-1)-1 else 0):=by
      by_cases c:q≤S
      ·rw[if_pos c,if_pos zo]
      ·rw[if_neg c,if_neg zo]
     obtain⟨X,HY⟩:∃X,Hid ((if q≤S+1 then F+x+7*(q-1)-1 else 0)=X):=⟨_,zh rfl⟩
     rw[e,HY.out]
     clear e
     have hs2:(S+1==q)=false:=by simpa using hs
     clear hv
     go_wp2_with fail
     go_quiet ((go_at_call 38;with_reducible exact zAt (C4.out _)))
     go_wp2
     go_roundw
     case rel=>exact⟨i+1,S+1,zo,zo,rfl,J1.out.symm,by rw[HY.out],rfl,zA7 hB _⟩
     case measure=>simp[intOf];omega
   ·have j1:=HI.out i i1 (by rw[HV.out];exact hv)
    rw[←HS.out] at j1
    have J1:=zh j1
    clear j1
    have hv2:(v==d)=false:=by simpa using hv
    obtain⟨X,HY⟩:∃X,Hid ((if q≤S then F+x+7*(q-1)-1 else 0)=X):=⟨_,zh rfl⟩
    exact zqdak
  ·have e:i=L+1:=zo
   subst e
   have e:(if q≤S then F+x+7*(q-1)-1 else 0)=n:=by
    rw[←HN.out]
    unfold cnt at hS
    by_cases c:q≤S
    ·rw[if_pos c,if_pos zo]
    ·rw[if_neg c,if_neg zo]
   rw[e]
   clear e
   go_wp2
   go_ret2
   exact⟨by rw[←HB.out];rfl,H.old.trans (hB.mono H.old.size)⟩
theorem ru_first {y m:Int} (h1:1≤y) (h2:y≤9999) (h3:1≤m) (h4:m≤12):may y m 1∧may y m (ln y m):=by
 have:=zGr y m h3 h4
 exact⟨⟨h1,h2,h3,h4,zo,zo⟩,⟨h1,h2,h3,h4,zo,zo⟩⟩
theorem zBa (k m d q o s f t y n:Int) (b:Bool) (w:World) (hM:Ru.May ⟨k,m,d,q,o,s,f,t⟩) (hn:Ru.bas ⟨k,m,d,q,o,s,f,t⟩ y=n) (hb:decide (0<n)=b):Calls Tryz.prog 82 #[.agg #[k,m,d,q,o,s,f,t],y] w fun e w'=>e=.returned (.tuple #[n,b])∧Below w w w':=by
 by_cases h:y<f∨t<y
 ·have e:Ru.bas ⟨k,m,d,q,o,s,f,t⟩ y=0:=zI6 h
  rw[e] at hn
  subst hn
  rw[←hb]
  exact zP5 _ _ _ _ _ _ _ _ _ w h
 ·obtain⟨h1,h2,h3,h4,h5,h6,h7,h8⟩:=id hM
  simp only at h1 h2 h3 h4 h5 h6 h7 h8
  have hy:1≤y∧y≤9999∧f≤y∧y≤t:=zo
  by_cases hk:k=3
  ·have eb:=ea_bd y
   have mm:=zAd _ _ _ (zDf y 1 hy.1 hy.2.1 zd zd)
   refine zLx _ _ _ _ _ _ _ _ _ _ _ _ w hy hk (ea_in y hy.1 hy.2.1) zo (h4 hk) ⟨?_,hb⟩
   rw[←hn];unfold Ru.bas;simp only
   rw[if_neg h,if_pos hk]
  ·have hm:=h5 hk
   obtain⟨f1,f2⟩:=ru_first hy.1 hy.2.1 hm.1 hm.2
   have a1:=zAd _ _ _ f1
   have a2:=zAd _ _ _ f2
   have e2:nb y m (ln y m)=nb y m 1+ln y m-1:=by unfold nb;omega
   have l1:=zGr y m hm.1 hm.2
   have l2:=zAh y m
   have val:∀x,Ru.dd ⟨k,m,d,q,o,s,f,t⟩ y=x→(if x≤ln y m then nb y m 1+x-1 else 0)=n:=fun x hx=>by
    rw[←hn];unfold Ru.bas
    rw[hx];simp only
    rw[if_neg h,if_neg hk]
    by_cases c:x≤ln y m
    ·rw[if_pos c,if_pos c];unfold nb;omega
    ·rw[if_neg c,if_neg c]
   by_cases h0:k=0
   ·have v:=val d (by unfold Ru.dd;simp only;rw[if_pos h0])
    exact zK6 _ _ _ _ _ _ _ _ _ _ _ _ _ w hy hm rfl (zEa f1) zo zo h0 (h6 h0).1 v hb
   ·by_cases hk1:k=1
    ·have v:=val (nthD y m d q) (by unfold Ru.dd;simp only;rw[if_neg h0,if_pos hk1])
     refine zP4 _ _ _ _ _ _ _ _ _ _ _ _ _ w hy hm rfl (zEa f1) zo zo hk1 (h7 (Or.inl hk1)) (h8 hk1) ?_ hb
     rw[←v];unfold nthD frs
     by_cases c:1+(d-wk (nb y m 1))%7+7*(q-1)≤ln y m
     ·rw[if_pos c,if_pos c];omega
     ·rw[if_neg c,if_neg c]
    ·have hk2:k=2:=zo
     have v:=val (zEp y m d) (by unfold Ru.dd;simp only;rw[if_neg h0,if_neg hk1])
     refine zLy _ _ _ _ _ _ _ _ _ _ _ _ _ w hy hm rfl (zEa f1) zo zo hk2 (h7 (Or.inr hk2)) ?_ hb
     have c:=(zRh (y:=y) (m:=m) (h7 (Or.inr hk2))).2.1
     rw[if_pos c] at v
     rw[←v,←e2];unfold zEp;rfl
theorem ruin_no (k m d q o s f t y:Int) (w:World) (hM:Ru.May ⟨k,m,d,q,o,s,f,t⟩) (hn:Ru.bas ⟨k,m,d,q,o,s,f,t⟩ y=0):Calls Tryz.prog 61 #[.agg #[k,m,d,q,o,s,f,t],y] w fun e w'=>e=.returned (.tuple #[(0:Int),false])∧Below w w w':=by
 have H:=Held.start w
 have C:=zh (fun v=>zBa k m d q o s f t y 0 false v hM hn zd)
 clear hM hn
 go_enter Tryz.func61,Tryz.ntmps61
 replace H:=H.oct w k m d q o s f t 76 rfl
 go_wp2_with fail
 with_reducible refine (C.out _).mono ?_
 rintro e w1 ⟨rfl,hb1⟩
 replace H:=H.below hb1
 clear hb1
 go_wp2
 go_ret2
 exact⟨rfl,H.old⟩
theorem ruin_05 (k m d q o s f t y n v r:Int) (c:Bool) (w:World) (hM:Ru.May ⟨k,m,d,q,o,s,f,t⟩) (hn:Ru.bas ⟨k,m,d,q,o,s,f,t⟩ y=n) (h0:0<n∧n≤3652059) (hw:wk n=v) (hs:s=0) (hv:v=5) (hr:(n<1∨3652059<n→r=0∧c=false)∧(1≤n∧n≤3652059→r=n∧c=true)):Calls Tryz.prog 61 #[.agg #[k,m,d,q,o,s,f,t],y] w fun e w'=>e=.returned (.tuple #[r,c])∧Below w w w':=by
  have H:=Held.start w
  have C:=zh (fun v=>zBa k m d q o s f t y n true v hM hn (decide_eq_true h0.1))
  have C2:=zh (fun u=>zAr n v u hw)
  have HR:=zh hr
  clear hM hn hw hr
  subst hs
  subst hv
  go_enter Tryz.func61,Tryz.ntmps61
  replace H:=H.oct w k m d q o (0:Int) f t 76 rfl
  go_wp2_with fail
  with_reducible refine (C.out _).mono ?_
  rintro e w1 ⟨rfl,hb1⟩
  replace H:=H.below hb1
  clear hb1
  go_wp2_with fail
  with_reducible refine (C2.out _).mono ?_
  rintro e w2 ⟨rfl,hb1⟩
  replace H:=H.below hb1
  clear hb1
  obtain⟨c0,c1,c2,c3,c4,c5,c6,c7⟩:=H.cells8 w
  by_cases hc:1≤n∧n≤3652059
  · obtain⟨rfl,rfl⟩:=HR.out.2 hc
    go_wp2
    go_ret2
    exact⟨rfl,H.old⟩
  · have hc2:n<1∨3652059<n:=zo
    obtain⟨rfl,rfl⟩:=HR.out.1 hc2
    first
    | (exfalso;omega)
    | (rcases hc2 with hc2 | hc2
       · first
         | (exfalso;omega)
         | (go_wp2
            go_ret2
            exact⟨rfl,H.old⟩)
       · first
         | (exfalso;omega)
         | (go_wp2
            go_ret2
            exact⟨rfl,H.old⟩))
theorem ruin_06 (k m d q o s f t y n v r:Int) (c:Bool) (w:World) (hM:Ru.May ⟨k,m,d,q,o,s,f,t⟩) (hn:Ru.bas ⟨k,m,d,q,o,s,f,t⟩ y=n) (h0:0<n∧n≤3652059) (hw:wk n=v) (hs:s=0) (hv:v=6) (hr:(n<1∨3652059<n→r=0∧c=false)∧(1≤n∧n≤3652059→r=n∧c=true)):Calls Tryz.prog 61 #[.agg #[k,m,d,q,o,s,f,t],y] w fun e w'=>e=.returned (.tuple #[r,c])∧Below w w w':=by
  have H:=Held.start w
  have C:=zh (fun v=>zBa k m d q o s f t y n true v hM hn (decide_eq_true h0.1))
  have C2:=zh (fun u=>zAr n v u hw)
  have HR:=zh hr
  clear hM hn hw hr
  subst hs
  subst hv
  go_enter Tryz.func61,Tryz.ntmps61
  replace H:=H.oct w k m d q o (0:Int) f t 76 rfl
  go_wp2_with fail
  with_reducible refine (C.out _).mono ?_
  rintro e w1 ⟨rfl,hb1⟩
  replace H:=H.below hb1
  clear hb1
  go_wp2_with fail
  with_reducible refine (C2.out _).mono ?_
  rintro e w2 ⟨rfl,hb1⟩
  replace H:=H.below hb1
  clear hb1
  obtain⟨c0,c1,c2,c3,c4,c5,c6,c7⟩:=H.cells8 w
  by_cases hc:1≤n∧n≤3652059
  · obtain⟨rfl,rfl⟩:=HR.out.2 hc
    go_wp2
    go_ret2
    exact⟨rfl,H.old⟩
  · have hc2:n<1∨3652059<n:=zo
    obtain⟨rfl,rfl⟩:=HR.out.1 hc2
    first
    | (exfalso;omega)
    | (rcases hc2 with hc2 | hc2
       · first
         | (exfalso;omega)
         | (go_wp2
            go_ret2
            exact⟨rfl,H.old⟩)
       · first
         | (exfalso;omega)
         | (go_wp2
            go_ret2
            exact⟨rfl,H.old⟩))
theorem ruin_0x (k m d q o s f t y n v r:Int) (c:Bool) (w:World) (hM:Ru.May ⟨k,m,d,q,o,s,f,t⟩) (hn:Ru.bas ⟨k,m,d,q,o,s,f,t⟩ y=n) (h0:0<n∧n≤3652059) (hw:wk n=v) (hs:s=0) (hv:v≠5∧v≠6) (hr:(n<1∨3652059<n→r=0∧c=false)∧(1≤n∧n≤3652059→r=n∧c=true)):Calls Tryz.prog 61 #[.agg #[k,m,d,q,o,s,f,t],y] w fun e w'=>e=.returned (.tuple #[r,c])∧Below w w w':=by
  have H:=Held.start w
  have C:=zh (fun v=>zBa k m d q o s f t y n true v hM hn (decide_eq_true h0.1))
  have C2:=zh (fun u=>zAr n v u hw)
  have HR:=zh hr
  clear hM hn hw hr
  subst hs
  have v5:(v==5)=false:=by simpa using hv.1
  have v6:(v==6)=false:=by simpa using hv.2
  go_enter Tryz.func61,Tryz.ntmps61
  replace H:=H.oct w k m d q o (0:Int) f t 76 rfl
  go_wp2_with fail
  with_reducible refine (C.out _).mono ?_
  rintro e w1 ⟨rfl,hb1⟩
  replace H:=H.below hb1
  clear hb1
  go_wp2_with fail
  with_reducible refine (C2.out _).mono ?_
  rintro e w2 ⟨rfl,hb1⟩
  replace H:=H.below hb1
  clear hb1
  obtain⟨c0,c1,c2,c3,c4,c5,c6,c7⟩:=H.cells8 w
  by_cases hc:1≤n∧n≤3652059
  · obtain⟨rfl,rfl⟩:=HR.out.2 hc
    go_wp2
    go_ret2
    exact⟨rfl,H.old⟩
  · have hc2:n<1∨3652059<n:=zo
    obtain⟨rfl,rfl⟩:=HR.out.1 hc2
    first
    | (exfalso;omega)
    | (rcases hc2 with hc2 | hc2
       · first
         | (exfalso;omega)
         | (go_wp2
            go_ret2
            exact⟨rfl,H.old⟩)
       · first
         | (exfalso;omega)
         | (go_wp2
            go_ret2
            exact⟨rfl,H.old⟩))
theorem ruin_15 (k m d q o s f t y n v r:Int) (c:Bool) (w:World) (hM:Ru.May ⟨k,m,d,q,o,s,f,t⟩) (hn:Ru.bas ⟨k,m,d,q,o,s,f,t⟩ y=n) (h0:0<n∧n≤3652059) (hw:wk n=v) (hs:s=1) (hv:v=5) (hr:(n-1<1∨3652059<n-1→r=0∧c=false)∧(1≤n-1∧n-1≤3652059→r=n-1∧c=true)):Calls Tryz.prog 61 #[.agg #[k,m,d,q,o,s,f,t],y] w fun e w'=>e=.returned (.tuple #[r,c])∧Below w w w':=by
  have H:=Held.start w
  have C:=zh (fun v=>zBa k m d q o s f t y n true v hM hn (decide_eq_true h0.1))
  have C2:=zh (fun u=>zAr n v u hw)
  have HR:=zh hr
  clear hM hn hw hr
  subst hs
  subst hv
  go_enter Tryz.func61,Tryz.ntmps61
  replace H:=H.oct w k m d q o (1:Int) f t 76 rfl
  go_wp2_with fail
  with_reducible refine (C.out _).mono ?_
  rintro e w1 ⟨rfl,hb1⟩
  replace H:=H.below hb1
  clear hb1
  go_wp2_with fail
  with_reducible refine (C2.out _).mono ?_
  rintro e w2 ⟨rfl,hb1⟩
  replace H:=H.below hb1
  clear hb1
  obtain⟨c0,c1,c2,c3,c4,c5,c6,c7⟩:=H.cells8 w
  by_cases hc:1≤n-1∧n-1≤3652059
  · obtain⟨rfl,rfl⟩:=HR.out.2 hc
    go_wp2
    go_ret2
    exact⟨rfl,H.old⟩
  · have hc2:n-1<1∨3652059<n-1:=zo
    obtain⟨rfl,rfl⟩:=HR.out.1 hc2
    first
    | (exfalso;omega)
    | (rcases hc2 with hc2 | hc2
       · first
         | (exfalso;omega)
         | (go_wp2
            go_ret2
            exact⟨rfl,H.old⟩)
       · first
         | (exfalso;omega)
         | (go_wp2
            go_ret2
            exact⟨rfl,H.old⟩))
theorem ruin_16 (k m d q o s f t y n v r:Int) (c:Bool) (w:World) (hM:Ru.May ⟨k,m,d,q,o,s,f,t⟩) (hn:Ru.bas ⟨k,m,d,q,o,s,f,t⟩ y=n) (h0:0<n∧n≤3652059) (hw:wk n=v) (hs:s=1) (hv:v=6) (hr:(n+1<1∨3652059<n+1→r=0∧c=false)∧(1≤n+1∧n+1≤3652059→r=n+1∧c=true)):Calls Tryz.prog 61 #[.agg #[k,m,d,q,o,s,f,t],y] w fun e w'=>e=.returned (.tuple #[r,c])∧Below w w w':=by
  have H:=Held.start w
  have C:=zh (fun v=>zBa k m d q o s f t y n true v hM hn (decide_eq_true h0.1))
  have C2:=zh (fun u=>zAr n v u hw)
  have HR:=zh hr
  clear hM hn hw hr
  subst hs
  subst hv
  go_enter Tryz.func61,Tryz.ntmps61
  replace H:=H.oct w k m d q o (1:Int) f t 76 rfl
  go_wp2_with fail
  with_reducible refine (C.out _).mono ?_
  rintro e w1 ⟨rfl,hb1⟩
  replace H:=H.below hb1
  clear hb1
  go_wp2_with fail
  with_reducible refine (C2.out _).mono ?_
  rintro e w2 ⟨rfl,hb1⟩
  replace H:=H.below hb1
  clear hb1
  obtain⟨c0,c1,c2,c3,c4,c5,c6,c7⟩:=H.cells8 w
  by_cases hc:1≤n+1∧n+1≤3652059
  · obtain⟨rfl,rfl⟩:=HR.out.2 hc
    go_wp2
    go_ret2
    exact⟨rfl,H.old⟩
  · have hc2:n+1<1∨3652059<n+1:=zo
    obtain⟨rfl,rfl⟩:=HR.out.1 hc2
    first
    | (exfalso;omega)
    | (rcases hc2 with hc2 | hc2
       · first
         | (exfalso;omega)
         | (go_wp2
            go_ret2
            exact⟨rfl,H.old⟩)
       · first
         | (exfalso;omega)
         | (go_wp2
            go_ret2
            exact⟨rfl,H.old⟩))
theorem ruin_1x (k m d q o s f t y n v r:Int) (c:Bool) (w:World) (hM:Ru.May ⟨k,m,d,q,o,s,f,t⟩) (hn:Ru.bas ⟨k,m,d,q,o,s,f,t⟩ y=n) (h0:0<n∧n≤3652059) (hw:wk n=v) (hs:s=1) (hv:v≠5∧v≠6) (hr:(n<1∨3652059<n→r=0∧c=false)∧(1≤n∧n≤3652059→r=n∧c=true)):Calls Tryz.prog 61 #[.agg #[k,m,d,q,o,s,f,t],y] w fun e w'=>e=.returned (.tuple #[r,c])∧Below w w w':=by
  have H:=Held.start w
  have C:=zh (fun v=>zBa k m d q o s f t y n true v hM hn (decide_eq_true h0.1))
  have C2:=zh (fun u=>zAr n v u hw)
  have HR:=zh hr
  clear hM hn hw hr
  subst hs
  have v5:(v==5)=false:=by simpa using hv.1
  have v6:(v==6)=false:=by simpa using hv.2
  go_enter Tryz.func61,Tryz.ntmps61
  replace H:=H.oct w k m d q o (1:Int) f t 76 rfl
  go_wp2_with fail
  with_reducible refine (C.out _).mono ?_
  rintro e w1 ⟨rfl,hb1⟩
  replace H:=H.below hb1
  clear hb1
  go_wp2_with fail
  with_reducible refine (C2.out _).mono ?_
  rintro e w2 ⟨rfl,hb1⟩
  replace H:=H.below hb1
  clear hb1
  obtain⟨c0,c1,c2,c3,c4,c5,c6,c7⟩:=H.cells8 w
  by_cases hc:1≤n∧n≤3652059
  · obtain⟨rfl,rfl⟩:=HR.out.2 hc
    go_wp2
    go_ret2
    exact⟨rfl,H.old⟩
  · have hc2:n<1∨3652059<n:=zo
    obtain⟨rfl,rfl⟩:=HR.out.1 hc2
    first
    | (exfalso;omega)
    | (rcases hc2 with hc2 | hc2
       · first
         | (exfalso;omega)
         | (go_wp2
            go_ret2
            exact⟨rfl,H.old⟩)
       · first
         | (exfalso;omega)
         | (go_wp2
            go_ret2
            exact⟨rfl,H.old⟩))
theorem ruin_25 (k m d q o s f t y n v r:Int) (c:Bool) (w:World) (hM:Ru.May ⟨k,m,d,q,o,s,f,t⟩) (hn:Ru.bas ⟨k,m,d,q,o,s,f,t⟩ y=n) (h0:0<n∧n≤3652059) (hw:wk n=v) (hs:s=2) (hv:v=5) (hr:(n+2<1∨3652059<n+2→r=0∧c=false)∧(1≤n+2∧n+2≤3652059→r=n+2∧c=true)):Calls Tryz.prog 61 #[.agg #[k,m,d,q,o,s,f,t],y] w fun e w'=>e=.returned (.tuple #[r,c])∧Below w w w':=by
  have H:=Held.start w
  have C:=zh (fun v=>zBa k m d q o s f t y n true v hM hn (decide_eq_true h0.1))
  have C2:=zh (fun u=>zAr n v u hw)
  have HR:=zh hr
  clear hM hn hw hr
  subst hs
  subst hv
  go_enter Tryz.func61,Tryz.ntmps61
  replace H:=H.oct w k m d q o (2:Int) f t 76 rfl
  go_wp2_with fail
  with_reducible refine (C.out _).mono ?_
  rintro e w1 ⟨rfl,hb1⟩
  replace H:=H.below hb1
  clear hb1
  go_wp2_with fail
  with_reducible refine (C2.out _).mono ?_
  rintro e w2 ⟨rfl,hb1⟩
  replace H:=H.below hb1
  clear hb1
  obtain⟨c0,c1,c2,c3,c4,c5,c6,c7⟩:=H.cells8 w
  by_cases hc:1≤n+2∧n+2≤3652059
  · obtain⟨rfl,rfl⟩:=HR.out.2 hc
    go_wp2
    go_ret2
    exact⟨rfl,H.old⟩
  · have hc2:n+2<1∨3652059<n+2:=zo
    obtain⟨rfl,rfl⟩:=HR.out.1 hc2
    first
    | (exfalso;omega)
    | (rcases hc2 with hc2 | hc2
       · first
         | (exfalso;omega)
         | (go_wp2
            go_ret2
            exact⟨rfl,H.old⟩)
       · first
         | (exfalso;omega)
         | (go_wp2
            go_ret2
            exact⟨rfl,H.old⟩))
theorem ruin_26 (k m d q o s f t y n v r:Int) (c:Bool) (w:World) (hM:Ru.May ⟨k,m,d,q,o,s,f,t⟩) (hn:Ru.bas ⟨k,m,d,q,o,s,f,t⟩ y=n) (h0:0<n∧n≤3652059) (hw:wk n=v) (hs:s=2) (hv:v=6) (hr:(n+1<1∨3652059<n+1→r=0∧c=false)∧(1≤n+1∧n+1≤3652059→r=n+1∧c=true)):Calls Tryz.prog 61 #[.agg #[k,m,d,q,o,s,f,t],y] w fun e w'=>e=.returned (.tuple #[r,c])∧Below w w w':=by
  have H:=Held.start w
  have C:=zh (fun v=>zBa k m d q o s f t y n true v hM hn (decide_eq_true h0.1))
  have C2:=zh (fun u=>zAr n v u hw)
  have HR:=zh hr
  clear hM hn hw hr
  subst hs
  subst hv
  go_enter Tryz.func61,Tryz.ntmps61
  replace H:=H.oct w k m d q o (2:Int) f t 76 rfl
  go_wp2_with fail
  with_reducible refine (C.out _).mono ?_
  rintro e w1 ⟨rfl,hb1⟩
  replace H:=H.below hb1
  clear hb1
  go_wp2_with fail
  with_reducible refine (C2.out _).mono ?_
  rintro e w2 ⟨rfl,hb1⟩
  replace H:=H.below hb1
  clear hb1
  obtain⟨c0,c1,c2,c3,c4,c5,c6,c7⟩:=H.cells8 w
  by_cases hc:1≤n+1∧n+1≤3652059
  · obtain⟨rfl,rfl⟩:=HR.out.2 hc
    go_wp2
    go_ret2
    exact⟨rfl,H.old⟩
  · have hc2:n+1<1∨3652059<n+1:=zo
    obtain⟨rfl,rfl⟩:=HR.out.1 hc2
    first
    | (exfalso;omega)
    | (rcases hc2 with hc2 | hc2
       · first
         | (exfalso;omega)
         | (go_wp2
            go_ret2
            exact⟨rfl,H.old⟩)
       · first
         | (exfalso;omega)
         | (go_wp2
            go_ret2
            exact⟨rfl,H.old⟩))
theorem ruin_2x (k m d q o s f t y n v r:Int) (c:Bool) (w:World) (hM:Ru.May ⟨k,m,d,q,o,s,f,t⟩) (hn:Ru.bas ⟨k,m,d,q,o,s,f,t⟩ y=n) (h0:0<n∧n≤3652059) (hw:wk n=v) (hs:s=2) (hv:v≠5∧v≠6) (hr:(n<1∨3652059<n→r=0∧c=false)∧(1≤n∧n≤3652059→r=n∧c=true)):Calls Tryz.prog 61 #[.agg #[k,m,d,q,o,s,f,t],y] w fun e w'=>e=.returned (.tuple #[r,c])∧Below w w w':=by
  have H:=Held.start w
  have C:=zh (fun v=>zBa k m d q o s f t y n true v hM hn (decide_eq_true h0.1))
  have C2:=zh (fun u=>zAr n v u hw)
  have HR:=zh hr
  clear hM hn hw hr
  subst hs
  have v5:(v==5)=false:=by simpa using hv.1
  have v6:(v==6)=false:=by simpa using hv.2
  go_enter Tryz.func61,Tryz.ntmps61
  replace H:=H.oct w k m d q o (2:Int) f t 76 rfl
  go_wp2_with fail
  with_reducible refine (C.out _).mono ?_
  rintro e w1 ⟨rfl,hb1⟩
  replace H:=H.below hb1
  clear hb1
  go_wp2_with fail
  with_reducible refine (C2.out _).mono ?_
  rintro e w2 ⟨rfl,hb1⟩
  replace H:=H.below hb1
  clear hb1
  obtain⟨c0,c1,c2,c3,c4,c5,c6,c7⟩:=H.cells8 w
  by_cases hc:1≤n∧n≤3652059
  · obtain⟨rfl,rfl⟩:=HR.out.2 hc
    go_wp2
    go_ret2
    exact⟨rfl,H.old⟩
  · have hc2:n<1∨3652059<n:=zo
    obtain⟨rfl,rfl⟩:=HR.out.1 hc2
    first
    | (exfalso;omega)
    | (rcases hc2 with hc2 | hc2
       · first
         | (exfalso;omega)
         | (go_wp2
            go_ret2
            exact⟨rfl,H.old⟩)
       · first
         | (exfalso;omega)
         | (go_wp2
            go_ret2
            exact⟨rfl,H.old⟩))
theorem ruin_any (k m d q o s f t y n:Int) (b:Bool) (w:World) (hM:Ru.May ⟨k,m,d,q,o,s,f,t⟩) (hn:Ru.inn ⟨k,m,d,q,o,s,f,t⟩ y=n) (hb:decide (0<n)=b):Calls Tryz.prog 61 #[.agg #[k,m,d,q,o,s,f,t],y] w fun e w'=>e=.returned (.tuple #[n,b])∧Below w w w':=by
 obtain⟨x,hx⟩:∃x,Ru.bas ⟨k,m,d,q,o,s,f,t⟩ y=x:=⟨_,rfl⟩
 have xb:=bas_bd y hM
 rw[hx] at xb
 by_cases h0:x=0
 ·subst h0
  rw[zRb hx] at hn
  subst hn
  subst hb
  exact ruin_no _ _ _ _ _ _ _ _ _ w hM hx
 ·have hp:0<x∧x≤3652059:=zo
  have hs:=hM.2.1
  simp only at hs
  have key:∀z,shd s x=z→(z<1∨3652059<z→n=0∧b=false)∧(1≤z∧z≤3652059→n=z∧b=true):=fun z hz=>by
   unfold Ru.inn at hn
   rw[hx] at hn
   simp only at hn
   rw[hz] at hn
   refine⟨fun h=>?_,fun h=>?_⟩
   ·rw[if_neg zo] at hn
    subst hn;subst hb
    exact⟨rfl,rfl⟩
   ·rw[if_pos ⟨hp.1,h.1,h.2⟩] at hn
    subst hn;subst hb
    exact⟨rfl,decide_eq_true zo⟩
  have s3:s=0∨s=1∨s=2:=zo
  have v3:wk x=5∨wk x=6∨(wk x≠5∧wk x≠6):=zo
  rcases s3 with h | h | h
  ·rcases v3 with g | g | g
   ·exact ruin_05 _ _ _ _ _ _ _ _ _ _ _ _ _ w hM hx hp rfl h g (key _ (by unfold shd;simp[h,g]))
   ·exact ruin_06 _ _ _ _ _ _ _ _ _ _ _ _ _ w hM hx hp rfl h g (key _ (by unfold shd;simp[h,g]))
   ·exact ruin_0x _ _ _ _ _ _ _ _ _ _ _ _ _ w hM hx hp rfl h g (key _ (by unfold shd;simp[h,g]))
  ·rcases v3 with g | g | g
   ·exact ruin_15 _ _ _ _ _ _ _ _ _ _ _ _ _ w hM hx hp rfl h g (key _ (by unfold shd;simp[h,g]))
   ·exact ruin_16 _ _ _ _ _ _ _ _ _ _ _ _ _ w hM hx hp rfl h g (key _ (by unfold shd;simp[h,g]))
   ·exact ruin_1x _ _ _ _ _ _ _ _ _ _ _ _ _ w hM hx hp rfl h g (key _ (by unfold shd;simp[h,g]))
  ·rcases v3 with g | g | g
   ·exact ruin_25 _ _ _ _ _ _ _ _ _ _ _ _ _ w hM hx hp rfl h g (key _ (by unfold shd;simp[h,g]))
   ·exact ruin_26 _ _ _ _ _ _ _ _ _ _ _ _ _ w hM hx hp rfl h g (key _ (by unfold shd;simp[h,g]))
   ·exact ruin_2x _ _ _ _ _ _ _ _ _ _ _ _ _ w hM hx hp rfl h g (key _ (by unfold shd;simp[h,g]))
theorem zNh {r:Ru} {n:Int} (h:r.Is n):1≤n∧n≤3652059:=by
 obtain⟨h0,y,hy⟩:=h
 have:=inn_bd (r:=r) y
 omega
theorem ruis_out (k m d q o s f t n:Int) (w:World) (h:n<1∨3652059<n):Calls Tryz.prog 39 #[.agg #[k,m,d,q,o,s,f,t],n] w fun e w'=>e=.returned false∧Below w w w':=by
 have H:=Held.start w
 have C:=zh (fun v=>zA5 n 0 0 0 3 v (Or.inr ⟨h,rfl,rfl,rfl,rfl⟩))
 clear h
 go_enter Tryz.func39,Tryz.ntmps39
 replace H:=H.oct w k m d q o s f t 76 rfl
 go_wp2_with fail
 with_reducible refine (C.out _).mono ?_
 rintro e w1 ⟨rfl,hb1⟩
 replace H:=H.below hb1
 clear hb1
 exact zqq9b
theorem zq4fv {P:Prop} (h:P:=by
 go_wp2
 go_roundw
 case rel=>exact⟨i+1,rfl,zo,zo,fun z a b=>by
  by_cases g:z=i
  ·subst g;rw[HX.out];exact HY.out
  ·exact HZ.out z a zo,H⟩
 case measure=>simp[intOf];omega):P:=h
theorem zqso7 {P:Prop} (h:P:=by
 rintro e w3 ⟨rfl,hb1⟩
 clear kk c0 c1 c2 c3 c4 c5 c6 c7 ll
 replace H:=H.below hb1
 clear hb1
 have kk:=H.cell w1 0 _ i0_
 obtain⟨c0,c1,c2,c3,c4,c5,c6,c7⟩:=H.cells8 w
 by_cases hx:x=n
 ·subst hx
  have e1:b=true:=HB.out.2 ⟨h0,i,HX.out⟩
  have e2:c=true:=by rw[←HC.out];exact decide_eq_true h0
  subst e1
  subst e2
  go_wp2
  go_ret
  exact⟨rfl,H.old⟩
 ·have hx2:(x==n)=false:=by simpa using hx
  have HY:=zh hx
  clear hx
  cases c
  ·exact zq4fv
  ·exact zq4fv):P:=h
theorem zquv8 {P:Prop} (h:P:=by
 have e1:b=false:=by
  cases hbb:b with
  | false=>rfl
  | true=>
   exfalso
   obtain⟨-,z,hz⟩:=HB.out.1 hbb
   have:=NR.out z hz
   exact HZ.out z zo zo hz
 subst e1
 go_wp2
 go_ret
 exact⟨rfl,H.old⟩):P:=h
theorem ruis_in (k m d q o s f t n Y M D:Int) (b:Bool) (w:World) (hM:Ru.May ⟨k,m,d,q,o,s,f,t⟩) (hd:may Y M D) (hN:nb Y M D=n) (h0:0<n) (hb:b=true↔Ru.Is ⟨k,m,d,q,o,s,f,t⟩ n):Calls Tryz.prog 39 #[.agg #[k,m,d,q,o,s,f,t],n] w fun e w'=>e=.returned (.bool b)∧Below w w w':=by
 have H:=Held.start w
 have C:=zh (fun v=>zA5 n Y M D 0 v (Or.inl ⟨hd,hN,rfl⟩))
 have C2:=zh (fun y x c v h1 h2=>ruin_any k m d q o s f t y x c v hM h1 h2)
 have NR:=zh (fun y (h:Ru.inn ⟨k,m,d,q,o,s,f,t⟩ y=n)=>zRd hM h0 h hd hN)
 have HB:=zh hb
 have hy:1≤Y∧Y≤9999:=⟨hd.1,hd.2.1⟩
 clear hb hd hN
 go_enter Tryz.func39,Tryz.ntmps39
 replace H:=H.oct w k m d q o s f t 76 rfl
 go_wp2_with fail
 with_reducible refine (C.out _).mono ?_
 rintro e w1 ⟨rfl,hb1⟩
 replace H:=H.below hb1
 clear hb1
 go_wp2_with fail
 replace H:=(H.triple w1 Y M D 86 rfl)
 go_loopw [7] (fun y W'=>∃i:Int,y=.int .i64 i∧Y-1≤i∧i≤Y+2∧(∀z,Y-1≤z→z<i→Ru.inn ⟨k,m,d,q,o,s,f,t⟩ z≠n)∧Held w (.cell w1 0 Y::.cell w1 1 M::.cell w1 2 D::.free w1 0::.free w1 1::.free w1 2::.cell w 0 k::.cell w 1 m::.cell w 2 d::.cell w 3 q::.cell w 4 o::.cell w 5 s::.cell w 6 f::.cell w 7 t::.free w 0::.free w 1::.free w 2::.free w 3::.free w 4::.free w 5::.free w 6::.free w 7::[]) W') (fun y _=>(Y+2-intOf y).toNat)
 case atStart=>exact⟨Y-1,rfl,zo,zo,fun z a b=>by omega,H⟩
 case round=>
  clear H
  obtain⟨i,rfl,i1,i2,hz,H⟩:=hrel
  have ll:=H.lt w1 0 Y i0_
  have kk:=H.cell w1 0 _ i0_
  obtain⟨c0,c1,c2,c3,c4,c5,c6,c7⟩:=H.cells8 w
  have HZ:=zh hz
  clear hz
  by_cases hi:i≤Y+1
  ·obtain⟨x,HX⟩:∃x,Hid (Ru.inn ⟨k,m,d,q,o,s,f,t⟩ i=x):=⟨_,zh rfl⟩
   obtain⟨c,HC⟩:∃c,Hid (decide (0<x)=c):=⟨_,zh rfl⟩
   go_wp2_with fail
   with_reducible refine (C2.out i x c _ HX.out HC.out).mono ?_
   exact zqso7
  ·exact zquv8
theorem ruis_any (k m d q o s f t n:Int) (b:Bool) (w:World) (hM:Ru.May ⟨k,m,d,q,o,s,f,t⟩) (hb:b=true↔Ru.Is ⟨k,m,d,q,o,s,f,t⟩ n):Calls Tryz.prog 39 #[.agg #[k,m,d,q,o,s,f,t],n] w fun e w'=>e=.returned b∧Below w w w':=by
 by_cases h:1≤n∧n≤3652059
 ·obtain⟨Y,M,D,h1,h2⟩:=zBk n h.1 h.2
  exact ruis_in _ _ _ _ _ _ _ _ _ _ _ _ _ w hM h1 h2 zo hb
 ·have e:b=false:=by
   cases hbb:b with
   | false=>rfl
   | true=>exact absurd (zNh (hb.1 hbb)) h
  subst e
  exact ruis_out _ _ _ _ _ _ _ _ _ w zo
theorem Held.box_9 {w W:World} {fs:List Fact} (h:Held w fs W) (B:Nat) (x0 x1 x2 x3 x4 x5 x6 x7 x8:Value) (t:TypeId) (hB:W.heap.size=B) :
  Held w (.cell B 0 x0::.cell B 1 x1::.cell B 2 x2::.cell B 3 x3::.cell B 4 x4::.cell B 5 x5::.cell B 6 x6::.cell B 7 x7::.cell B 8 x8::.free B 0::.free B 1::.free B 2::.free B 3::.free B 4::.free B 5::.free B 6::.free B 7::.free B 8::fs) (W.alloc (.cells #[x0,x1,x2,x3,x4,x5,x6,x7,x8] t)):=by
 subst hB
 exact ((((((((((((((((((h.alloc _).add (f:=.free W.heap.size 8) ⟨zs,by simp[go_sem]⟩).add (f:=.free W.heap.size 7) ⟨zs,by simp[go_sem]⟩).add (f:=.free W.heap.size 6) ⟨zs,by simp[go_sem]⟩).add (f:=.free W.heap.size 5) ⟨zs,by simp[go_sem]⟩).add (f:=.free W.heap.size 4) ⟨zs,by simp[go_sem]⟩).add (f:=.free W.heap.size 3) ⟨zs,by simp[go_sem]⟩).add (f:=.free W.heap.size 2) ⟨zs,by simp[go_sem]⟩).add (f:=.free W.heap.size 1) ⟨zs,by simp[go_sem]⟩).add (f:=.free W.heap.size 0) ⟨zs,by simp[go_sem]⟩).add (f:=.cell W.heap.size 8 x8) zf).add (f:=.cell W.heap.size 7 x7) zf).add (f:=.cell W.heap.size 6 x6) zf).add (f:=.cell W.heap.size 5 x5) zf).add (f:=.cell W.heap.size 4 x4) zf).add (f:=.cell W.heap.size 3 x3) zf).add (f:=.cell W.heap.size 2 x2) zf).add (f:=.cell W.heap.size 1 x1) zf).add (f:=.cell W.heap.size 0 x0) zf
def DCells (W:World) (b off:Nat) (X:Nat→Int) (n:Nat):Prop:=∀j,j<n→W.cell? ⟨b,off+j,none⟩=some (.int .i64 (X j))
theorem DCells.below {W W':World} {b off n:Nat} {X:Nat→Int} (h:DCells W b off X n) (hb:Below W W W'):DCells W' b off X n:=fun j hj=>keep hb (zA0 (h j hj)) (h j hj)
def DaysAt (W:World) (ao:Option Addr) (X:Nat→Int) (n cap:Nat):Prop:=n≤cap∧(0<n→∃b off,ao=some ⟨b,off,none⟩∧DCells W b off X n)
theorem DaysAt.below {W W':World} {ao:Option Addr} {n cap:Nat} {X:Nat→Int} (h:DaysAt W ao X n cap) (hb:Below W W W'):DaysAt W' ao X n cap:=
 ⟨h.1,fun hn=>by obtain⟨b,off,e,hc⟩:=h.2 hn;exact⟨b,off,e,hc.below hb⟩⟩
structure RCell (W:World) (b off:Nat) (r:Ru):Prop where
 c0:W.cell? ⟨b,off,none⟩=some (.int .i64 r.k)
 c1:W.cell? ⟨b,off+1,none⟩=some (.int .i64 r.m)
 c2:W.cell? ⟨b,off+2,none⟩=some (.int .i64 r.d)
 c3:W.cell? ⟨b,off+3,none⟩=some (.int .i64 r.q)
 c4:W.cell? ⟨b,off+4,none⟩=some (.int .i64 r.o)
 c5:W.cell? ⟨b,off+5,none⟩=some (.int .i64 r.s)
 c6:W.cell? ⟨b,off+6,none⟩=some (.int .i64 r.f)
 c7:W.cell? ⟨b,off+7,none⟩=some (.int .i64 r.t)
theorem RCell.below {W W':World} {b off:Nat} {r:Ru} (h:RCell W b off r) (hb:Below W W W'):RCell W' b off r:=
 ⟨keep hb (zA0 h.c0) h.c0,keep hb (zA0 h.c1) h.c1,keep hb (zA0 h.c2) h.c2,keep hb (zA0 h.c3) h.c3,keep hb (zA0 h.c4) h.c4,keep hb (zA0 h.c5) h.c5,keep hb (zA0 h.c6) h.c6,keep hb (zA0 h.c7) h.c7⟩
def RCells (W:World) (b off:Nat) (R:Nat→Ru) (n:Nat):Prop:=∀j,j<n→RCell W b (off+j*8) (R j)
theorem RCells.below {W W':World} {b off n:Nat} {R:Nat→Ru} (h:RCells W b off R n) (hb:Below W W W'):RCells W' b off R n:=fun j hj=>(h j hj).below hb
def RulesAt (W:World) (ao:Option Addr) (R:Nat→Ru) (n cap:Nat):Prop:=n≤cap∧(0<n→∃b off,ao=some ⟨b,off,none⟩∧RCells W b off R n)
theorem RulesAt.below {W W':World} {ao:Option Addr} {n cap:Nat} {R:Nat→Ru} (h:RulesAt W ao R n cap) (hb:Below W W W'):RulesAt W' ao R n cap:=
 ⟨h.1,fun hn=>by obtain⟨b,off,e,hc⟩:=h.2 hn;exact⟨b,off,e,hc.below hb⟩⟩
def CalAt (W:World) (c:Ca) (aR:Option Addr) (cR:Nat) (aD:Option Addr) (cD:Nat):Prop:=RulesAt W aR c.R c.nr cR∧DaysAt W aD c.X c.nd cD
theorem CalAt.below {W W':World} {c:Ca} {aR:Option Addr} {cR:Nat} {aD:Option Addr} {cD:Nat} (h:CalAt W c aR cR aD cD) (hb:Below W W W'):CalAt W' c aR cR aD cD:=⟨h.1.below hb,h.2.below hb⟩
def calF (c:Ca) (aR:Option Addr) (cR:Nat) (aD:Option Addr) (cD:Nat):Fact:=.that (fun W=>CalAt W c aR cR aD cD) (fun _ _ hb h=>h.below hb)
theorem Held.cal {w W:World} {fs:List Fact} {c:Ca} {aR:Option Addr} {cR:Nat} {aD:Option Addr} {cD:Nat} (h:Held w fs W) (hm:calF c aR cR aD cD∈fs:=by exact zm):CalAt W c aR cR aD cD:=h.all _ hm
theorem zRz {W:World} {B v:Nat} {o:Nat→Bool} (v7:v<7) (h0:W.cell? ⟨B,0,none⟩=some (.bool (o 0))) (h1:W.cell? ⟨B,1,none⟩=some (.bool (o 1))) (h2:W.cell? ⟨B,2,none⟩=some (.bool (o 2))) (h3:W.cell? ⟨B,3,none⟩=some (.bool (o 3))) (h4:W.cell? ⟨B,4,none⟩=some (.bool (o 4))) (h5:W.cell? ⟨B,5,none⟩=some (.bool (o 5))) (h6:W.cell? ⟨B,6,none⟩=some (.bool (o 6))):W.cell? ⟨B,v,none⟩=some (.bool (o v)):=by
 match v,v7 with
 | 0,_=>exact h0
 | 1,_=>exact h1
 | 2,_=>exact h2
 | 3,_=>exact h3
 | 4,_=>exact h4
 | 5,_=>exact h5
 | 6,_=>exact h6
theorem zA9 (b off j:Nat):(⟨b,off,none⟩:Addr).add j=⟨b,off+j,none⟩:=by
 unfold Addr.add
 split
 ·next h=>subst h;rfl
 ·rfl
theorem zq8dv {P:Prop} (h:P:=by
 go_wp2
 all_goals (go_ret;refine⟨retB ?_,rfl⟩;rw[←HB.out];rw[Bool.eq_iff_iff];(try simp only[ge_iff_le,Bool.and_eq_true,decide_eq_true_eq,Bool.false_eq_true,false_iff,true_iff]);omega)):P:=h
theorem zAv (n:Int) (b:Bool) (w:World) (h:decide (1≤n∧n≤3652059)=b):Calls Tryz.prog 31 #[n] w fun e w'=>e=.returned b∧w=w':=by
 have HB:=zh h
 clear h
 go_enter Tryz.func31,Tryz.ntmps31
 exact zq8dv
theorem zKy (c:Ca) (aR:Option Addr) (cR:Nat) (aD:Option Addr) (cD:Nat) (b:Bool) (w:World) (h:decide (c.nr≤12∧c.nd≤60)=b):Calls Tryz.prog 23 #[.agg #[(c.o 0),(c.o 1),(c.o 2),(c.o 3),(c.o 4),(c.o 5),(c.o 6),.slice aR c.nr cR,.slice aD c.nd cD]] w fun e w'=>e=.returned b∧Below w w w':=by
 have H:=Held.start w
 have HB:=zh h
 clear h
 go_enter Tryz.func23,Tryz.ntmps23
 replace H:=H.box_9 w (c.o 0) (c.o 1) (c.o 2) (c.o 3) (c.o 4) (c.o 5) (c.o 6) (.slice aR c.nr cR) (.slice aD c.nd cD) 28 rfl
 go_wp2_with fail
 all_goals (go_ret;refine⟨retB ?_,H.old⟩;rw[←HB.out,Bool.eq_iff_iff];(try simp only[decide_eq_true_eq,Bool.false_eq_true,false_iff,true_iff]);omega)
theorem zqsq3 {P:Prop} (h:P:=by
 rw[hov] at kv
 have e:b=false:=zB3 HB.out (fun g=>by
  have:=g.2.1
  rw[HV.out,Int.toNat_natCast,hov] at this
  cases this)
 subst e
 go_wp2
 go_ret
 exact⟨rfl,H.old⟩):P:=h
theorem zqvmp {P:Prop} (h:P:=by
 go_wp2_with fail
 with_reducible refine (C1.out _).mono ?_
 rintro e w1 ⟨rfl,rfl⟩
 go_wp2
 go_ret
 exact⟨rfl,H.old⟩):P:=h
theorem zCz (c:Ca) (aR:Option Addr) (cR:Nat) (aD:Option Addr) (cD:Nat) (n:Int) (b:Bool) (w:World) (hS:c.Small) (hM:∀j,j<c.nr→(c.R j).May) (hC:CalAt w c aR cR aD cD) (h:b=true↔c.Is n):Calls Tryz.prog 16 #[.agg #[(c.o 0),(c.o 1),(c.o 2),(c.o 3),(c.o 4),(c.o 5),(c.o 6),.slice aR c.nr cR,.slice aD c.nd cD],n] w fun e w'=>e=.returned b∧Below w w w':=by
 have H:=(Held.start w).add (f:=calF c aR cR aD cD) hC
 have HB:=zh h
 have MM:=zh hM
 have s1:c.nr≤200:=hS.1
 have s2:c.nd≤2000:=hS.2
 clear h hC hM hS
 by_cases hn:1≤n∧n≤3652059
 ·have C1:=zh (fun v=>zAv n true v (decide_eq_true hn))
  obtain⟨v,hv,v7⟩:=wk_nat n
  have C2:=zh (fun u=>zAr n v u hv)
  go_enter Tryz.func16,Tryz.ntmps16
  replace H:=H.box_9 w (c.o 0) (c.o 1) (c.o 2) (c.o 3) (c.o 4) (c.o 5) (c.o 6) (.slice aR c.nr cR) (.slice aD c.nd cD) 28 rfl
  go_wp2_with fail
  with_reducible refine (C1.out _).mono ?_
  rintro e w1 ⟨rfl,rfl⟩
  go_wp2_with fail
  revert H
  with_reducible refine zG (fun _=>C2.out _) ?_
  intro w1 H
  obtain⟨k0,k1,k2,k3,k4,k5,k6,k7,k8⟩:=H.cells9 w
  have lk:=H.lt w 0 (c.o 0) (i0_)
  have kv:=zRz v7 k0 k1 k2 k3 k4 k5 k6
  clear k0 k1 k2 k3 k4 k5 k6
  have HV:=zh hv
  clear hv
  cases hov:c.o v with
  | true=>
   exact zqsq3
  | false=>
   rw[hov] at kv
   have HO:=zh hov
   clear hov
   go_wp2_with fail
   go_loop [6] (fun i=>∃j:Nat,j≤c.nd∧i=.int .i64 j∧∀l,l<j→c.X l≠n) (fun i=>c.nd-(intOf i).toNat)
   case atStart=>exact⟨0,zo,rfl,fun l g=>by omega⟩
   case round=>
    obtain⟨j,j1,rfl,hX⟩:=hrel
    have HX:=zh hX
    clear hX
    by_cases hj:j<c.nd
    ·obtain⟨bD,oD,rfl,hd⟩:=(H.cal (i18_)).2.2 zo
     have kd:=hd j hj
     by_cases hx:c.X j=n
     ·have hx2:(c.X j==n)=true:=by simpa using hx
      have e:b=false:=zB3 HB.out (fun g=>g.2.2.1 j hj hx)
      subst e
      go_wp2
      go_ret
      exact⟨rfl,H.old⟩
     ·have hx2:(c.X j==n)=false:=by simpa using hx
      go_wp2
      go_round
      case rel=>exact⟨j+1,zo,by go_num,fun l g=>by
       by_cases e:l=j
       ·subst e;exact hx
       ·exact HX.out l zo⟩
      case measure=>simp[intOf];omega
    ·obtain rfl:j=c.nd:=zo
     go_wp2_with fail
     clear kv lk k7 k8
     go_loopw [7] (fun i W'=>∃j:Nat,j≤c.nr∧i=.int .i64 j∧(∀l,l<j→¬(c.R l).Is n)∧Held w (.cell w 0 (c.o 0)::.cell w 1 (c.o 1)::.cell w 2 (c.o 2)::.cell w 3 (c.o 3)::.cell w 4 (c.o 4)::.cell w 5 (c.o 5)::.cell w 6 (c.o 6)::.cell w 7 (.slice aR c.nr cR)::.cell w 8 (.slice aD c.nd cD)::.free w 0::.free w 1::.free w 2::.free w 3::.free w 4::.free w 5::.free w 6::.free w 7::.free w 8::calF c aR cR aD cD::[]) W') (fun i _=>c.nr-(intOf i).toNat)
     case atStart=>exact⟨0,zo,rfl,fun l g=>by omega,H⟩
     case round=>
      clear H
      obtain⟨j,j1,rfl,hR,H⟩:=hrel
      have HR:=zh hR
      clear hR
      obtain⟨k0,k1,k2,k3,k4,k5,k6,k7,k8⟩:=H.cells9 w
      by_cases hj:j<c.nr
      ·obtain⟨bR,oR,rfl,hr⟩:=(H.cal (i18_)).1.2 zo
       obtain⟨q0,q1,q2,q3,q4,q5,q6,q7⟩:=hr j hj
       clear hr
       obtain⟨x,hx⟩:=zI7 ((c.R j).Is n)
       have Q:=zh (fun v=>ruis_any (c.R j).k (c.R j).m (c.R j).d (c.R j).q (c.R j).o (c.R j).s (c.R j).f (c.R j).t n x v (MM.out j hj) hx)
       have HX:=zh hx
       clear hx
       go_wp2_with fail
       with_reducible refine (Q.out _).mono ?_
       clear q0 q1 q2 q3 q4 q5 q6 q7 k0 k1 k2 k3 k4 k5 k6 k7 k8 Q
       rintro e w3 ⟨rfl,hb⟩
       replace H:=H.below hb
       clear hb
       obtain⟨k0,k1,k2,k3,k4,k5,k6,k7,k8⟩:=H.cells9 w
       cases x with
       | true=>
        have e:b=false:=zB3 HB.out (fun g=>g.2.2.2 j hj (HX.out.1 rfl))
        subst e
        go_wp2
        go_ret
        exact⟨rfl,H.old⟩
       | false=>
        go_wp2
        go_roundw
        case rel=>exact⟨j+1,zo,by go_num,fun l g=>by
         by_cases e:l=j
         ·subst e;exact fun g=>absurd (HX.out.2 g) zd
         ·exact HR.out l zo,H⟩
        case measure=>simp[intOf];omega
      ·obtain rfl:j=c.nr:=zo
       have e:b=true:=HB.out.2 ⟨hn,by rw[HV.out,Int.toNat_natCast];exact HO.out,HX.out,HR.out⟩
       subst e
       go_wp2
       go_ret
       exact⟨rfl,H.old⟩
 ·have C1:=zh (fun v=>zAv n false v (decide_eq_false hn))
  have e:b=false:=zB3 HB.out (fun g=>hn g.1)
  subst e
  go_enter Tryz.func16,Tryz.ntmps16
  replace H:=H.box_9 w (c.o 0) (c.o 1) (c.o 2) (c.o 3) (c.o 4) (c.o 5) (c.o 6) (.slice aR c.nr cR) (.slice aD c.nd cD) 28 rfl
  exact zqvmp
end Go.Proofs.YtpfgdfpaoldhcaaGreatDoor
