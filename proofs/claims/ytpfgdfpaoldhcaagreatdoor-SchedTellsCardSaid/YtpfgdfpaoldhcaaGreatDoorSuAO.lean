/- Several texts in one: GAc. -/
import Derived.Test.YtpfgdfpaoldhcaaGreatDoorSuAI
import Derived.Test.YtpfgdfpaoldhcaaGreatDoorSuAN
import Derived.LaidEql
import Derived.Stop.Asserts
import Derived.RowKitTokens
set_option maxHeartbeats 8000000
set_option maxRecDepth 100000
set_option linter.unusedVariables false
set_option linter.unusedSimpArgs false
namespace Go.Proofs.YtpfgdfpaoldhcaaGreatDoor
def ly (y:Int):Int:=(y-1)/4-(y-1)/100+(y-1)/400
theorem zL4 (y:Int):ly (y+1)=ly y+if lp y=true then 1 else 0:=by
 unfold ly
 by_cases h:lp y=true
 ·rw[if_pos h];rw[zEq] at h;omega
 ·rw[if_neg h];rw[zEq] at h;omega
theorem ly_ah (y:Int):ah y=365*(y-1)+ly y:=by unfold ah ly;omega
theorem zOb (y:Int) (h1:1≤y) (h2:y≤10000):0≤ly y∧ly y≤2500:=by unfold ly;omega
theorem ly_le (y z:Int) (h:y≤z):ly y≤ly z:=by unfold ly;omega
theorem ly_four (y:Int) (h:y%4=0):ly (y+4)=ly y+if lp y=true then 1 else 0:=by
 unfold ly
 by_cases h':lp y=true
 ·rw[if_pos h'];rw[zEq] at h';omega
 ·rw[if_neg h'];rw[zEq] at h';omega
theorem ly_low (y z:Int) (h:y%4=0) (h1:y-4<z) (h2:z≤y):ly z=ly y:=by unfold ly;omega
def lv (y m d:Int):Int:=366*ly y+if lp y=true then am y m+d-1 else 0
theorem lv_bd (y m d:Int) (h:may y m d):0≤lv y m d∧lv y m d≤920000:=by
 have a:=zBq y m d h
 obtain⟨h1,h2,-,-,-,-⟩:=h
 have b:=zOb y h1 zo
 have c:=zPo y
 unfold lv;split <;> omega
theorem zRk (y m d:Int):nb y m d-1-lv y m d=365*(y-1-ly y)+if lp y=true then 0 else am y m+d-1:=by
 have h:=ly_ah y
 unfold nb lv;split <;> omega
theorem lv_le (y m d y' m' d':Int) (h:may y m d) (h':may y' m' d') (hl:nb y m d≤nb y' m' d') :
  0≤lv y' m' d'-lv y m d∧lv y' m' d'-lv y m d≤nb y' m' d'-nb y m d:=by
 have a:=zBq y m d h
 have a':=zBq y' m' d' h'
 have e:=zRk y m d
 have e':=zRk y' m' d'
 by_cases hy:y=y'
 ·subst hy
  have b:nb y m d=ah y+am y m+d:=rfl
  have b':nb y m' d'=ah y+am y m'+d':=rfl
  unfold lv at *
  split at e <;> split at e' <;> simp_all <;> omega
 ·have k:y<y':=by
   by_cases k:y'<y
   ·have:=nb_lt _ _ _ _ _ _ h' h (Or.inl k)
    omega
   ·omega
  have s1:=zL4 y
  have s2:=ly_le (y+1) y' zo
  have t:ly y'-ly (y+1)≤y'-(y+1):=by unfold ly;omega
  unfold lv at *
  unfold yl at a a'
  constructor
  ·split <;> split <;> simp_all <;> omega
  ·by_cases p:lp y=true
   ·rw[if_pos p] at *
    split at e' <;> simp_all <;> omega
   ·rw[if_neg p] at *
    split at e' <;> simp_all <;> omega
end Go.Proofs.YtpfgdfpaoldhcaaGreatDoor
namespace Go.Proofs.YtpfgdfpaoldhcaaGreatDoor
open Go.RowKit
theorem zBl (n:Int) (b:Bool) (w:World) (h:decide (1≤n∧n≤3652059)=b):Calls Tryz.prog 31 #[n] w fun e w'=>e=.returned b∧Below w w w':=by
 exact zq06f
theorem zTt (a b:Int) (w:World) (h:a<1∨3652059<a) :
  Calls Tryz.prog 69 #[a,b] w fun e' w'=>e'=.returned (3:Int)∧Below w w w':=by
 have H:=Held.start w
 have D1:Hid (decide (1≤a∧a≤3652059)=false):=zh (by rw[decide_eq_false_iff_not];omega)
 obtain⟨x,hx⟩:∃x,decide (1≤b∧b≤3652059)=x:=⟨_,rfl⟩
 have D2:=zh hx
 clear h hx
 go_enter Tryz.func69,Tryz.ntmps69
 go_wp2_with fail
 revert H
 with_reducible refine zG (fun _=>zBl a false _ D1.out) ?_
 intro w1 H
 go_wp2_with fail
 revert H
 with_reducible refine zG (fun _=>zBl b x _ D2.out) ?_
 intro w2 H
 go_wp2_with fail
 go_ret
 exact⟨rfl,H.old⟩
theorem zTv (a b:Int) (w:World) (h1:1≤a∧a≤3652059) (h:b<1∨3652059<b) :
  Calls Tryz.prog 69 #[a,b] w fun e' w'=>e'=.returned (3:Int)∧Below w w w':=by
 have H:=Held.start w
 have D1:Hid (decide (1≤a∧a≤3652059)=true):=zh (by rw[decide_eq_true_eq];exact h1)
 have D2:Hid (decide (1≤b∧b≤3652059)=false):=zh (by rw[decide_eq_false_iff_not];omega)
 clear h h1
 go_enter Tryz.func69,Tryz.ntmps69
 go_wp2_with fail
 revert H
 with_reducible refine zG (fun _=>zBl a true _ D1.out) ?_
 intro w1 H
 go_wp2_with fail
 revert H
 with_reducible refine zG (fun _=>zBl b false _ D2.out) ?_
 intro w2 H
 go_wp2_with fail
 go_ret
 exact⟨rfl,H.old⟩
theorem zqcz2 {P:Prop} (h:P:=by
 have H:=Held.start w
 have D1:Hid (decide (1≤a∧a≤3652059)=true):=zh (by rw[decide_eq_true_eq];exact h1)
 have D2:Hid (decide (1≤b∧b≤3652059)=true):=zh (by rw[decide_eq_true_eq];exact h2)
 clear h1 h2
 go_enter Tryz.func69,Tryz.ntmps69
 go_wp2_with fail
 revert H
 with_reducible refine zG (fun _=>zBl a true _ D1.out) ?_
 intro w1 H
 go_wp2_with fail
 revert H
 with_reducible refine zG (fun _=>zBl b true _ D2.out) ?_
 intro w2 H
 go_wp2_with fail
 go_ret
 exact⟨rfl,H.old⟩):P:=h
theorem zP6 (a b:Int) (w:World) (h1:1≤a∧a≤3652059) (h2:1≤b∧b≤3652059) (h:a>b) :
  Calls Tryz.prog 69 #[a,b] w fun e' w'=>e'=.returned (4:Int)∧Below w w w':=by
 exact zqcz2
theorem zP8 (a b:Int) (w:World) (h1:1≤a∧a≤3652059) (h2:1≤b∧b≤3652059) (h:¬a>b) :
  Calls Tryz.prog 69 #[a,b] w fun e' w'=>e'=.returned (0:Int)∧Below w w w':=by
 exact zqcz2
def zBw (a b c:Int):Prop:=(((a<1∨3652059<a)∨(b<1∨3652059<b))∧c=3)∨((1≤a∧a≤3652059)∧(1≤b∧b≤3652059)∧b<a∧c=4)∨((1≤a∧a≤3652059)∧(1≤b∧b≤3652059)∧a≤b∧c=0)
theorem zB5 (a b c:Int) (w:World) (h:zBw a b c):Calls Tryz.prog 69 #[a,b] w fun e' w'=>e'=.returned c∧Below w w w':=by
 rcases h with⟨h,rfl⟩ | ⟨h1,h2,h,rfl⟩ | ⟨h1,h2,h,rfl⟩
 ·by_cases h1:a<1∨3652059<a
  ·exact zTt a b w h1
  ·exact zTv a b w zo zo
 ·exact zP6 a b w h1 h2 h
 ·exact zP8 a b w h1 h2 zo
theorem zJj (n y m d:Int) (w:World) (h:may y m d) (hn:nb y m d=n) :
  Calls Tryz.prog 71 #[n] w fun e' w'=>e'=.returned (lv y m d)∧Below w w w':=by
 have H:=Held.start w
 have O1:Hid (zAf n y m d 0):=zh (Or.inl ⟨h,hn,rfl⟩)
 have iy:=zBq y m d h
 have bd:=zAd y m d h
 rw[hn] at bd
 obtain⟨y1,y2,m1,m2,d1,d2⟩:=h
 have yb:=zPo y
 have F1:Hid (nN y 1 1=ah y+1∧nE y 1 1=0):=zh (by
  have k:may y 1 1:=⟨y1,y2,zo,zo,zo,by have:=zGr y 1 zo zo;omega⟩
  have z:=zEa k
  have e:nb y 1 1=ah y+1:=by unfold nb;rw[zFl];omega
  rw[e] at z;exact z)
 have FN:Hid (n-(ah y+1)=am y m+d-1):=zh (by have:ah y+am y m+d=n:=hn;omega)
 have ab:=zHz y y1 zo
 have lb:=zOb y y1 zo
 have L1:Hid (lv y m d=366*ly y+if lp y=true then am y m+d-1 else 0):=zh rfl
 obtain⟨r,HR⟩:∃r,Hid (lv y m d=r):=⟨_,zh rfl⟩
 rw[HR.out] at L1 ⊢
 have CL:=zh (fun k v=>zGy k v)
 clear d2 hn iy
 go_enter Tryz.func71,Tryz.ntmps71
 go_wp2_with fail
 revert H
 with_reducible refine zG (fun _=>zA5 n y m d 0 _ O1.out) ?_
 intro w1 H
 skip
 replace H:=(H.triple w1 y m d 86 rfl)
 obtain⟨cc0,cc1,cc2⟩:=H.cells3 w1
 have lc:=H.lt w1 0 y i0_
 have HK:=H.old
 clear H
 obtain⟨b,HB⟩:∃b,Hid (lp y=b):=⟨_,zh rfl⟩
 go_wp2
 go_loop [5,6] (fun s k=>∃k':Int,4≤k'∧k'%4=0∧k'≤y+3∧k=.int .i64 k'∧s=.int .i64 (366*ly k')) (fun _ k=>(y-intOf k).toNat)
 case atStart=>exact⟨4,zo,zo,zo,rfl,rfl⟩
 case round=>
  obtain⟨k,k1,k2,k3,rfl,rfl⟩:=hrel
  by_cases hk:k<y
  ·have st:=zh (ly_four k k2)
   have kb:=zOb k zo zo
   obtain⟨A,HA⟩:∃A,Hid (ly k=A):=⟨_,zh rfl⟩
   rw[HA.out] at kb ⊢
   have k2:=zh k2
   go_wp2_with fail
   with_reducible refine (CL.out k _).mono ?_
   rintro e w8 ⟨rfl,rfl⟩
   obtain⟨q,HQ⟩:∃q,Hid (lp k=q):=⟨_,zh rfl⟩
   rw[HQ.out]
   have e:=st.out
   rw[HA.out,HQ.out] at e
   have E:=zh e
   clear e
   cases q
   ·go_wp2
    go_round
    case rel=>exact⟨k+4,zo,by have:=k2.out;omega,zo,rfl,by rw[E.out];simp⟩
    case measure=>simp[intOf];omega
   ·go_wp2
    go_round
    case rel=>exact⟨k+4,zo,by have:=k2.out;omega,zo,rfl,by rw[E.out];simp only[Value.int.injEq,true_and,if_true];omega⟩
    case measure=>simp[intOf];omega
  ·have E:=zh (ly_low k y k2 zo zo)
   have kb:=zOb y y1 zo
   rw[E.out] at kb
   obtain⟨A,HA⟩:∃A,Hid (ly k=A):=⟨_,zh rfl⟩
   rw[HA.out] at kb ⊢
   have L2:=L1.out
   rw[HB.out,E.out,HA.out] at L2
   have L3:=zh L2
   clear L2 k2
   go_wp2_with fail
   with_reducible refine (CL.out y _).mono ?_
   rintro e w8 ⟨rfl,rfl⟩
   rw[HB.out]
   cases b
   ·go_wp2
    go_ret
    exact⟨retI (by rw[L3.out];simp),HK⟩
   ·go_wp2_with fail
    with_reducible refine (zB9 y 1 1 (ah y+1) 0 _ F1.out).mono ?_
    rintro e w9 ⟨rfl,hb9⟩
    go_wp2
    go_ret
    exact⟨retI (by have:=FN.out;rw[L3.out];simp only[if_true];omega),HK.trans (hb9.mono HK.size)⟩
end Go.Proofs.YtpfgdfpaoldhcaaGreatDoor
namespace Go.Proofs.YtpfgdfpaoldhcaaGreatDoor
open Go.RowKit
theorem zDs (n d p q c:Int) (w:World) (n0:0≤n) (n1:n<9223372036854775808) (d0:0<d) (d1:d<9223372036854775808) (h:rN n d=p∧rD n d=q∧rE n d=c) :
  Calls Tryz.prog 70 #[n,d] w fun e w'=>e=.returned (.tuple #[.agg #[p,q],c])∧Below w w w':=by
 obtain⟨rfl,rfl,rfl⟩:=h;exact zDt n d w n0 n1 d0 d1
theorem zOp (an ad bn bd p q c:Int) (w:World) (ha:zAi an ad=true) (hb:zAi bn bd=true) (h:rN (an*bd+bn*ad) (ad*bd)=p∧rD (an*bd+bn*ad) (ad*bd)=q∧rE (an*bd+bn*ad) (ad*bd)=c) :
  Calls Tryz.prog 18 #[.agg #[an,ad],.agg #[bn,bd]] w fun e w'=>e=.returned (.tuple #[.agg #[p,q],c])∧Below w w w':=by
 obtain⟨rfl,rfl,rfl⟩:=h;exact zHu an ad bn bd w ha hb
theorem zCn (x k:Int) (h0:0≤x) (h:x≤4000000000) (k0:0<k) (k1:k≤200000):fitB x k=true:=by
 rw[zCa]
 have:=m_le x k h0 zo
 omega
def AcIs (X:Int→Int→Int→Int→Int→Int→Int) (k a b p q c:Int):Prop:=
 (∃y1 m1 d1 y2 m2 d2:Int,may y1 m1 d1∧nb y1 m1 d1=a∧may y2 m2 d2∧nb y2 m2 d2=b∧a≤b∧rN (X y1 m1 d1 y2 m2 d2) k=p∧rD (X y1 m1 d1 y2 m2 d2) k=q∧c=0)
 ∨ (((a<1∨3652059<a)∨(b<1∨3652059<b))∧p=0∧q=0∧c=3)
 ∨ ((1≤a∧a≤3652059)∧(1≤b∧b≤3652059)∧b<a∧p=0∧q=0∧c=4)
def aX (y1 m1 d1 y2 m2 d2:Int):Int:=nb y2 m2 d2-nb y1 m1 d1
def inX (y1 m1 d1 y2 m2 d2:Int):Int:=lv y2 m2 d2-lv y1 m1 d1
def yX (y1 m1 d1 y2 m2 d2:Int):Int:=365*inX y1 m1 d1 y2 m2 d2+366*(nb y2 m2 d2-nb y1 m1 d1-inX y1 m1 d1 y2 m2 d2)
theorem zKl (i r:Int) (i0:0≤i) (i1:i≤3700000) (r0:0≤r) (r1:r≤3700000) :
  zAi (rN i 366) (rD i 366)=true∧zAi (rN r 365) (rD r 365)=true ∧
  rN (rN i 366*rD r 365+rN r 365*rD i 366) (rD i 366*rD r 365)=rN (365*i+366*r) 133590 ∧
  rD (rN i 366*rD r 365+rN r 365*rD i 366) (rD i 366*rD r 365)=rD (365*i+366*r) 133590 ∧
  rE (rN i 366*rD r 365+rN r 365*rD i 366) (rD i 366*rD r 365)=0:=by
 have fa:=zCn i 366 i0 zo zd zd
 have fb:=zCn r 365 r0 zo zd zd
 have a:=zCo fa
 have b:=zCo fb
 rw[a.1,a.2.1,b.1,b.2.1]
 have c1:=zRm i 366
 have c2:=zRm r 365
 have p1:=zE1 i 366 zd
 have p2:=zE1 r 365 zd
 have e:(mN i 366*mD r 365+mN r 365*mD i 366)*133590=(365*i+366*r)*(mD i 366*mD r 365):=by grind
 have k:=r_eq (Int.mul_pos p1 p2) (show (0:Int)<133590 by decide) e
 exact⟨zSh i0 zd fa,zSh r0 zd fb,k.1,k.2.1,k.2.2.trans (zCo (zCn (365*i+366*r) 133590 zo zo zd zd)).2.2⟩
theorem zSk (a b p q:Int) (w:World) (ha:1≤a∧a≤3652059) (hb:1≤b∧b≤3652059) (hab:a≤b) (hp:rN (b-a) 360=p) (hq:rD (b-a) 360=q) :
  Calls Tryz.prog 47 #[a,b] w fun e' w'=>e'=.returned (.tuple #[.agg #[p,q],(0:Int)])∧Below w w w':=by
 have H:=Held.start w
 have W1:Hid (zBw a b 0):=zh (Or.inr (Or.inr ⟨ha,hb,hab,rfl⟩))
 have N1:Hid (rN (b-a) 360=p∧rD (b-a) 360=q∧rE (b-a) 360=0):=zh ⟨hp,hq,(zCo (zCn (b-a) 360 zo zo zd zd)).2.2⟩
 clear hp hq
 go_enter Tryz.func47,Tryz.ntmps47
 go_wp2_with fail
 replace H:=(H.pair w (0:Int) (0:Int) 48 rfl)
 revert H
 with_reducible refine zG (fun _=>zB5 a b 0 _ W1.out) ?_
 intro w1 H
 go_wp2_with fail
 revert H
 with_reducible refine zG (fun _=>zDs (b-a) 360 p q 0 _ zo zo zd zd N1.out) ?_
 intro w2 H
 obtain⟨cz0,cz1⟩:=H.cells2 w
 have lz:=H.lt w 0 (0:Int) i0_
 obtain⟨fz0,fz1⟩:=H.frozens2 w
 have HK:=H.old
 clear H
 go_wp2_with fail
 exact bodyPost_ret (v:=.tuple #[.agg #[p,q],(0:Int)]) (by simp[results,Tryz.results47,go_sem,cz0,cz1]) rfl ⟨rfl,(HK.setCell zw _).setCell zw _⟩
theorem zOm (a b:Int) (w:World) (h:(a<1∨3652059<a)∨(b<1∨3652059<b)) :
  Calls Tryz.prog 47 #[a,b] w fun e' w'=>e'=.returned (.tuple #[.agg #[(0:Int),(0:Int)],(3:Int)])∧Below w w w':=by
 have H:=Held.start w
 have W1:Hid (zBw a b 3):=zh (Or.inl ⟨h,rfl⟩)
 go_enter Tryz.func47,Tryz.ntmps47
 go_wp2_with fail
 replace H:=(H.pair w (0:Int) (0:Int) 48 rfl)
 revert H
 with_reducible refine zG (fun _=>zB5 a b 3 _ W1.out) ?_
 intro w1 H
 obtain⟨cz0,cz1⟩:=H.cells2 w
 have lz:=H.lt w 0 (0:Int) i0_
 obtain⟨fz0,fz1⟩:=H.frozens2 w
 have HK:=H.old
 clear H
 go_wp2_with fail
 exact bodyPost_ret (v:=.tuple #[.agg #[(0:Int),(0:Int)],(3:Int)]) (by simp[results,Tryz.results47,go_sem,cz0,cz1]) rfl ⟨rfl,(HK.setCell zw _).setCell zw _⟩
theorem zJy (a b:Int) (w:World) (h1:1≤a∧a≤3652059) (h2:1≤b∧b≤3652059) (h:b<a) :
  Calls Tryz.prog 47 #[a,b] w fun e' w'=>e'=.returned (.tuple #[.agg #[(0:Int),(0:Int)],(4:Int)])∧Below w w w':=by
 have H:=Held.start w
 have W1:Hid (zBw a b 4):=zh (Or.inr (Or.inl ⟨h1,h2,h,rfl⟩))
 go_enter Tryz.func47,Tryz.ntmps47
 go_wp2_with fail
 replace H:=(H.pair w (0:Int) (0:Int) 48 rfl)
 revert H
 with_reducible refine zG (fun _=>zB5 a b 4 _ W1.out) ?_
 intro w1 H
 obtain⟨cz0,cz1⟩:=H.cells2 w
 have lz:=H.lt w 0 (0:Int) i0_
 obtain⟨fz0,fz1⟩:=H.frozens2 w
 have HK:=H.old
 clear H
 go_wp2_with fail
 exact bodyPost_ret (v:=.tuple #[.agg #[(0:Int),(0:Int)],(4:Int)]) (by simp[results,Tryz.results47,go_sem,cz0,cz1]) rfl ⟨rfl,(HK.setCell zw _).setCell zw _⟩
theorem zOl (a b p q c:Int) (w:World) (h:AcIs aX 360 a b p q c):Calls Tryz.prog 47 #[a,b] w fun e' w'=>e'=.returned (.tuple #[.agg #[p,q],c])∧Below w w w':=by
 rcases h with⟨y1,m1,d1,y2,m2,d2,h1,ha,h2,hb,hab,hp,hq,rfl⟩ | ⟨h,rfl,rfl,rfl⟩ | ⟨h1,h2,h,rfl,rfl,rfl⟩
 ·have b1:=zAd _ _ _ h1
  have b2:=zAd _ _ _ h2
  unfold aX at hp hq
  rw[ha] at b1 hp hq
  rw[hb] at b2 hp hq
  exact zSk a b p q w b1 b2 hab hp hq
 ·exact zOm a b w h
 ·exact zJy a b w h1 h2 h
theorem zSl (a b p q:Int) (w:World) (ha:1≤a∧a≤3652059) (hb:1≤b∧b≤3652059) (hab:a≤b) (hp:rN (b-a) 365=p) (hq:rD (b-a) 365=q) :
  Calls Tryz.prog 48 #[a,b] w fun e' w'=>e'=.returned (.tuple #[.agg #[p,q],(0:Int)])∧Below w w w':=by
 have H:=Held.start w
 have W1:Hid (zBw a b 0):=zh (Or.inr (Or.inr ⟨ha,hb,hab,rfl⟩))
 have N1:Hid (rN (b-a) 365=p∧rD (b-a) 365=q∧rE (b-a) 365=0):=zh ⟨hp,hq,(zCo (zCn (b-a) 365 zo zo zd zd)).2.2⟩
 clear hp hq
 go_enter Tryz.func48,Tryz.ntmps48
 go_wp2_with fail
 replace H:=(H.pair w (0:Int) (0:Int) 48 rfl)
 revert H
 with_reducible refine zG (fun _=>zB5 a b 0 _ W1.out) ?_
 intro w1 H
 go_wp2_with fail
 revert H
 with_reducible refine zG (fun _=>zDs (b-a) 365 p q 0 _ zo zo zd zd N1.out) ?_
 intro w2 H
 obtain⟨cz0,cz1⟩:=H.cells2 w
 have lz:=H.lt w 0 (0:Int) i0_
 obtain⟨fz0,fz1⟩:=H.frozens2 w
 have HK:=H.old
 clear H
 go_wp2_with fail
 exact bodyPost_ret (v:=.tuple #[.agg #[p,q],(0:Int)]) (by simp[results,Tryz.results48,go_sem,cz0,cz1]) rfl ⟨rfl,(HK.setCell zw _).setCell zw _⟩
theorem zOo (a b:Int) (w:World) (h:(a<1∨3652059<a)∨(b<1∨3652059<b)) :
  Calls Tryz.prog 48 #[a,b] w fun e' w'=>e'=.returned (.tuple #[.agg #[(0:Int),(0:Int)],(3:Int)])∧Below w w w':=by
 have H:=Held.start w
 have W1:Hid (zBw a b 3):=zh (Or.inl ⟨h,rfl⟩)
 go_enter Tryz.func48,Tryz.ntmps48
 go_wp2_with fail
 replace H:=(H.pair w (0:Int) (0:Int) 48 rfl)
 revert H
 with_reducible refine zG (fun _=>zB5 a b 3 _ W1.out) ?_
 intro w1 H
 obtain⟨cz0,cz1⟩:=H.cells2 w
 have lz:=H.lt w 0 (0:Int) i0_
 obtain⟨fz0,fz1⟩:=H.frozens2 w
 have HK:=H.old
 clear H
 go_wp2_with fail
 exact bodyPost_ret (v:=.tuple #[.agg #[(0:Int),(0:Int)],(3:Int)]) (by simp[results,Tryz.results48,go_sem,cz0,cz1]) rfl ⟨rfl,(HK.setCell zw _).setCell zw _⟩
theorem zJz (a b:Int) (w:World) (h1:1≤a∧a≤3652059) (h2:1≤b∧b≤3652059) (h:b<a) :
  Calls Tryz.prog 48 #[a,b] w fun e' w'=>e'=.returned (.tuple #[.agg #[(0:Int),(0:Int)],(4:Int)])∧Below w w w':=by
 have H:=Held.start w
 have W1:Hid (zBw a b 4):=zh (Or.inr (Or.inl ⟨h1,h2,h,rfl⟩))
 go_enter Tryz.func48,Tryz.ntmps48
 go_wp2_with fail
 replace H:=(H.pair w (0:Int) (0:Int) 48 rfl)
 revert H
 with_reducible refine zG (fun _=>zB5 a b 4 _ W1.out) ?_
 intro w1 H
 obtain⟨cz0,cz1⟩:=H.cells2 w
 have lz:=H.lt w 0 (0:Int) i0_
 obtain⟨fz0,fz1⟩:=H.frozens2 w
 have HK:=H.old
 clear H
 go_wp2_with fail
 exact bodyPost_ret (v:=.tuple #[.agg #[(0:Int),(0:Int)],(4:Int)]) (by simp[results,Tryz.results48,go_sem,cz0,cz1]) rfl ⟨rfl,(HK.setCell zw _).setCell zw _⟩
theorem zOn (a b p q c:Int) (w:World) (h:AcIs aX 365 a b p q c):Calls Tryz.prog 48 #[a,b] w fun e' w'=>e'=.returned (.tuple #[.agg #[p,q],c])∧Below w w w':=by
 rcases h with⟨y1,m1,d1,y2,m2,d2,h1,ha,h2,hb,hab,hp,hq,rfl⟩ | ⟨h,rfl,rfl,rfl⟩ | ⟨h1,h2,h,rfl,rfl,rfl⟩
 ·have b1:=zAd _ _ _ h1
  have b2:=zAd _ _ _ h2
  unfold aX at hp hq
  rw[ha] at b1 hp hq
  rw[hb] at b2 hp hq
  exact zSl a b p q w b1 b2 hab hp hq
 ·exact zOo a b w h
 ·exact zJz a b w h1 h2 h
theorem zLm (a b y1 m1 d1 y2 m2 d2 p q:Int) (w:World) (h1:may y1 m1 d1) (ha:nb y1 m1 d1=a) (h2:may y2 m2 d2) (hb:nb y2 m2 d2=b) (hab:a≤b) (hp:rN (yX y1 m1 d1 y2 m2 d2) 133590=p) (hq:rD (yX y1 m1 d1 y2 m2 d2) 133590=q) :
  Calls Tryz.prog 49 #[a,b] w fun e' w'=>e'=.returned (.tuple #[.agg #[p,q],(0:Int)])∧Below w w w':=by
 have H:=Held.start w
 have b1:=zAd _ _ _ h1
 have b2:=zAd _ _ _ h2
 have le:=lv_le _ _ _ _ _ _ h1 h2 zo
 have v1:=lv_bd _ _ _ h1
 have v2:=lv_bd _ _ _ h2
 unfold yX inX at hp hq
 have C1:=zh (fun v=>zJj a y1 m1 d1 v h1 ha)
 have C2:=zh (fun v=>zJj b y2 m2 d2 v h2 hb)
 rw[ha,hb] at le hp hq
 rw[ha] at b1
 rw[hb] at b2
 obtain⟨A,hA⟩:∃A,lv y1 m1 d1=A:=⟨_,rfl⟩
 obtain⟨B,hB⟩:∃B,lv y2 m2 d2=B:=⟨_,rfl⟩
 rw[hA] at C1 le hp hq v1
 rw[hB] at C2 le hp hq v2
 have W1:Hid (zBw a b 0):=zh (Or.inr (Or.inr ⟨b1,b2,hab,rfl⟩))
 obtain⟨s1,s2,s3,s4,s5⟩:=zKl (B-A) (b-a-(B-A)) le.1 zo zo zo
 rw[hp] at s3
 rw[hq] at s4
 have f1:=(zCo (zCn (B-A) 366 le.1 zo zd zd)).2.2
 have f2:=(zCo (zCn (b-a-(B-A)) 365 zo zo zd zd)).2.2
 obtain⟨p1,hp1⟩:∃x,rN (B-A) 366=x:=⟨_,rfl⟩
 obtain⟨q1,hq1⟩:∃x,rD (B-A) 366=x:=⟨_,rfl⟩
 obtain⟨p2,hp2⟩:∃x,rN (b-a-(B-A)) 365=x:=⟨_,rfl⟩
 obtain⟨q2,hq2⟩:∃x,rD (b-a-(B-A)) 365=x:=⟨_,rfl⟩
 rw[hp1,hq1] at s1
 rw[hp2,hq2] at s2
 rw[hp1,hq1,hp2,hq2] at s3 s4 s5
 have N1:Hid (rN (B-A) 366=p1∧rD (B-A) 366=q1∧rE (B-A) 366=0):=zh ⟨hp1,hq1,f1⟩
 have N2:Hid (rN (b-a-(B-A)) 365=p2∧rD (b-a-(B-A)) 365=q2∧rE (b-a-(B-A)) 365=0):=zh ⟨hp2,hq2,f2⟩
 have S1:=zh (fun v=>zOp p1 q1 p2 q2 p q 0 v s1 s2 ⟨s3,s4,s5⟩)
 clear h1 h2 ha hb hp hq hA hB s1 s2 s3 s4 s5 f1 f2 hp1 hq1 hp2 hq2
 go_enter Tryz.func49,Tryz.ntmps49
 go_wp2_with fail
 replace H:=(H.pair w (0:Int) (0:Int) 48 rfl)
 revert H
 with_reducible refine zG (fun _=>zB5 a b 0 _ W1.out) ?_
 intro w1 H
 go_wp2_with fail
 revert H
 with_reducible refine zG (fun _=>C2.out _) ?_
 intro w2 H
 go_wp2_with fail
 revert H
 with_reducible refine zG (fun _=>C1.out _) ?_
 intro w3 H
 go_wp2_with fail
 revert H
 with_reducible refine zG (fun _=>zDs (B-A) 366 p1 q1 0 _ le.1 zo zd zd N1.out) ?_
 intro w4 H
 go_wp2_with fail
 replace H:=(H.pair w4 p1 q1 48 rfl)
 revert H
 with_reducible refine zG (fun _=>zDs (b-a-(B-A)) 365 p2 q2 0 _ zo zo zd zd N2.out) ?_
 intro w5 H
 obtain⟨cp0,cp1⟩:=H.cells2 w4
 have lp:=H.lt w4 0 p1 i0_
 go_wp2_with fail
 clear cp0 cp1 lp
 replace H:=(H.pair w5 p2 q2 48 rfl)
 revert H
 with_reducible refine zG (fun _=>S1.out _) ?_
 intro w6 H
 obtain⟨cz0,cz1⟩:=H.cells2 w
 have lz:=H.lt w 0 (0:Int) i8_
 obtain⟨fz0,fz1⟩:=H.frozens2 w
 have HK:=H.old
 clear H
 go_wp2_with fail
 exact bodyPost_ret (v:=.tuple #[.agg #[p,q],(0:Int)]) (by simp[results,Tryz.results49,go_sem,cz0,cz1]) rfl ⟨rfl,(HK.setCell zw _).setCell zw _⟩
theorem zK1 (a b:Int) (w:World) (h:(a<1∨3652059<a)∨(b<1∨3652059<b)) :
  Calls Tryz.prog 49 #[a,b] w fun e' w'=>e'=.returned (.tuple #[.agg #[(0:Int),(0:Int)],(3:Int)])∧Below w w w':=by
 have H:=Held.start w
 have W1:Hid (zBw a b 3):=zh (Or.inl ⟨h,rfl⟩)
 go_enter Tryz.func49,Tryz.ntmps49
 go_wp2_with fail
 replace H:=(H.pair w (0:Int) (0:Int) 48 rfl)
 revert H
 with_reducible refine zG (fun _=>zB5 a b 3 _ W1.out) ?_
 intro w1 H
 obtain⟨cz0,cz1⟩:=H.cells2 w
 have lz:=H.lt w 0 (0:Int) i0_
 obtain⟨fz0,fz1⟩:=H.frozens2 w
 have HK:=H.old
 clear H
 go_wp2_with fail
 exact bodyPost_ret (v:=.tuple #[.agg #[(0:Int),(0:Int)],(3:Int)]) (by simp[results,Tryz.results49,go_sem,cz0,cz1]) rfl ⟨rfl,(HK.setCell zw _).setCell zw _⟩
theorem zHc (a b:Int) (w:World) (h1:1≤a∧a≤3652059) (h2:1≤b∧b≤3652059) (h:b<a) :
  Calls Tryz.prog 49 #[a,b] w fun e' w'=>e'=.returned (.tuple #[.agg #[(0:Int),(0:Int)],(4:Int)])∧Below w w w':=by
 have H:=Held.start w
 have W1:Hid (zBw a b 4):=zh (Or.inr (Or.inl ⟨h1,h2,h,rfl⟩))
 go_enter Tryz.func49,Tryz.ntmps49
 go_wp2_with fail
 replace H:=(H.pair w (0:Int) (0:Int) 48 rfl)
 revert H
 with_reducible refine zG (fun _=>zB5 a b 4 _ W1.out) ?_
 intro w1 H
 obtain⟨cz0,cz1⟩:=H.cells2 w
 have lz:=H.lt w 0 (0:Int) i0_
 obtain⟨fz0,fz1⟩:=H.frozens2 w
 have HK:=H.old
 clear H
 go_wp2_with fail
 exact bodyPost_ret (v:=.tuple #[.agg #[(0:Int),(0:Int)],(4:Int)]) (by simp[results,Tryz.results49,go_sem,cz0,cz1]) rfl ⟨rfl,(HK.setCell zw _).setCell zw _⟩
theorem zK0 (a b p q c:Int) (w:World) (h:AcIs yX 133590 a b p q c):Calls Tryz.prog 49 #[a,b] w fun e' w'=>e'=.returned (.tuple #[.agg #[p,q],c])∧Below w w w':=by
 rcases h with⟨y1,m1,d1,y2,m2,d2,h1,ha,h2,hb,hab,hp,hq,rfl⟩ | ⟨h,rfl,rfl,rfl⟩ | ⟨h1,h2,h,rfl,rfl,rfl⟩
 ·exact zLm a b y1 m1 d1 y2 m2 d2 p q w h1 ha h2 hb hab hp hq
 ·exact zK1 a b w h
 ·exact zHc a b w h1 h2 h
end Go.Proofs.YtpfgdfpaoldhcaaGreatDoor
namespace Go.Proofs.YtpfgdfpaoldhcaaGreatDoor
open Go.RowKit
theorem ac_is (X:Int→Int→Int→Int→Int→Int→Int) (k a b:Int):∃p q c,AcIs X k a b p q c:=by
 by_cases h:(a<1∨3652059<a)∨(b<1∨3652059<b)
 ·exact⟨0,0,3,Or.inr (Or.inl ⟨h,rfl,rfl,rfl⟩)⟩
 ·exact zq0sx
end Go.Proofs.YtpfgdfpaoldhcaaGreatDoor
namespace Go.Proofs.YtpfgdfpaoldhcaaGreatDoor
open Go.RowKit Go.Extern.Stop Go.Stop Go.Extern
def ErrAt (a0 a1:Addr) (w:World):Prop:=∃(c0 c1:Array Value) (t0 t1:TypeId),
 w.cell? ⟨7,0,none⟩=some (.iface 270 (.pointer (some a0)))∧w.cell? ⟨8,0,none⟩=some (.iface 270 (.pointer (some a1)))∧a0≠a1 ∧
 w.heap[a0.block]?=some (.cells c0 t0 (0,0))∧w.heap[a1.block]?=some (.cells c1 t1 (0,0))
theorem zNf {W:World} {b:Nat} {o:Obj} (h:W.heap[b]?=some o):b<W.heap.size:=by
 rcases Nat.lt_or_ge b W.heap.size with k | k
 ·exact k
 ·rw[Array.getElem?_eq_none k] at h;cases h
theorem ErrAt.below {a0 a1:Addr} {W W':World} (h:ErrAt a0 a1 W) (hb:Below W W W'):ErrAt a0 a1 W':=by
 obtain⟨c0,c1,t0,t1,h0,h1,hne,r0,r1⟩:=h
 exact⟨c0,c1,t0,t1,keep hb (zA0 h0) h0,keep hb (zA0 h1) h1,hne,(hb.block _ (zNf r0)).trans r0,(hb.block _ (zNf r1)).trans r1⟩
def Errs_ac (w:World):Prop:=∃a0 a1,ErrAt a0 a1 w
theorem Errs_ac.below {W W':World} (h:Errs_ac W) (hb:Below W W W'):Errs_ac W':=by
 obtain⟨a0,a1,h⟩:=h;exact⟨a0,a1,h.below hb⟩
def zBn (a0 a1:Addr):Fact:=.that (ErrAt a0 a1) (fun _ _ hb h=>h.below hb)
theorem zMx (v:Value) (w:World):(Extern.ReflectliteType.typeOf #[.iface 270 v]).run Tryz.prog w=.ok (.iface 204 (.agg #[.pointer (some ⟨19,270,none⟩)])) w:=zk
theorem zDx (w:World):(callFunc 262 #[.agg #[.pointer (some ⟨19,270,none⟩)]]).run Tryz.prog w=.ok (.value true) w:=
 (run_callFunc_extern (e:=Extern.ReflectliteType.method fun t=>do Extern.Rtype.noPackHeld "Comparable" t;pure (Value.bool (← typeInfo t).comparable)) Tryz.func262 zk zk zk zk _ w).trans zk
theorem zCg (v:Value) (w:World):(Go.method 403 204 v "Comparable").run Tryz.prog w=.ok (262,v) w:=zk
theorem isComp:(Tryz.prog.info? 270).map (·.comparable)=some true:=zk
theorem isSize:(Tryz.prog.info? 291).map (·.size)=some 1:=zk
theorem noIsE (v:Value) (xT:TypeId) (w:World):(Instr.typeAssert (.iface 270 v) xT 241 true).run Tryz.prog w=.ok (.tuple #[.nilIface,false]) w:=run_typeAssert_lacksB Tryz.underlying241 zk zk v xT w
theorem zJp (v:Value) (xT:TypeId) (w:World):(Instr.typeAssert (.iface 270 v) xT 212 true).run Tryz.prog w=.ok (.tuple #[.nilIface,false]) w:=run_typeAssert_lacksB Tryz.underlying212 zk zk v xT w
theorem zHp (v:Value) (xT:TypeId) (w:World):(Instr.typeAssert (.iface 270 v) xT 214 true).run Tryz.prog w=.ok (.tuple #[.nilIface,false]) w:=run_typeAssert_lacksB Tryz.underlying214 zk zk v xT w
theorem noIsR (v:Value) (xT:TypeId) (w:World):(Instr.typeAssert (.iface 221 v) xT 241 true).run Tryz.prog w=.ok (.tuple #[.nilIface,false]) w:=run_typeAssert_lacksB Tryz.underlying241 zk zk v xT w
theorem zHo (v:Value) (xT:TypeId) (w:World):(Instr.typeAssert (.iface 221 v) xT 212 true).run Tryz.prog w=.ok (.tuple #[.iface 221 v,true]) w:=run_typeAssert_hasB Tryz.underlying212 zk v xT w
theorem zEr (v:Value) (w:World):(Go.method 403 221 v "Unwrap").run Tryz.prog w=.ok (272,v) w:=zk
theorem is_nil (b:Addr) (w:World):Calls Tryz.prog 142 #[.nilIface,.iface 270 (.pointer (some b))] w fun e w'=>e=.returned false∧Below w w w':=by
 have hn:=run_eql_iface_nil_left (P:=Tryz.prog) w 270 (.pointer (some b)) Tryz.underlying141
 go_enter Tryz.func142,Tryz.ntmps142
 go_wp2
 go_ret
 exact⟨rfl,Below.refl _ _⟩
theorem zqmp4 {P:Prop} (h:P:=by
 go_enter Tryz.func142,Tryz.ntmps142
 go_wp2
 refine wp_loop_rounds 2 ?_
 rw[rounds_succ]
 go_wp2
 rw[rounds_succ]
 exact zqwgq):P:=h
theorem is_yes (s:ByteArray) (a b:Addr) (w:World) (h:a=b):Calls Tryz.prog 142 #[.iface 221 (.agg #[.string s,.iface 270 (.pointer (some a))]),.iface 270 (.pointer (some b))] w fun e w'=>e=.returned true∧Below w w w':=by
 obtain⟨i,hi,hcmp⟩:=Option.map_eq_some_iff.1 isComp
 obtain⟨j,hj,hjs⟩:=Option.map_eq_some_iff.1 isSize
 have hT:=@run_callFunc_extern Tryz.prog 168 _ Extern.ReflectliteType.typeOf Tryz.func168 zk zk zk zk
 have hC:=zDx
 have tT:=zMx
 have mR:=zCg
 have nE:=noIsE
 have uE:=zJp
 have vE:=zHp
 have nW:=noIsR
 have uW:=zHo
 have mU:=zEr
 subst h
 have heq:=fun v=>run_eql_iface_ptr_same (P:=Tryz.prog) v a Tryz.underlying141 Tryz.underlying270 hi hcmp hj
 have hty:=fun v=>run_eql_iface_types (P:=Tryz.prog) 221 270 (.agg #[.string s,.iface 270 (.pointer (some a))]) (.pointer (some a)) Tryz.underlying141 zd v
 exact zqmp4
theorem is_no (s:ByteArray) (a b:Addr) (w:World) (ca cb:Array Value) (ta tb:TypeId) (hne:a≠b) (ha:w.heap[a.block]?=some (.cells ca ta (0,0))) (hb:w.heap[b.block]?=some (.cells cb tb (0,0))):Calls Tryz.prog 142 #[.iface 221 (.agg #[.string s,.iface 270 (.pointer (some a))]),.iface 270 (.pointer (some b))] w fun e w'=>e=.returned false∧Below w w w':=by
 obtain⟨i,hi,hcmp⟩:=Option.map_eq_some_iff.1 isComp
 obtain⟨j,hj,hjs⟩:=Option.map_eq_some_iff.1 isSize
 have hT:=@run_callFunc_extern Tryz.prog 168 _ Extern.ReflectliteType.typeOf Tryz.func168 zk zk zk zk
 have hC:=zDx
 have tT:=zMx
 have mR:=zCg
 have nE:=noIsE
 have uE:=zJp
 have vE:=zHp
 have nW:=noIsR
 have uW:=zHo
 have mU:=zEr
 have B:Below w w (w.alloc (.cells #[.string s,.iface 270 (.pointer (some a))] 221)):=(Below.refl _ _).alloc (Nat.le_refl _) _
 have heq:=run_eql_iface_ptr_other (P:=Tryz.prog) (w.alloc (.cells #[.string s,.iface 270 (.pointer (some a))] 221)) Tryz.underlying141 Tryz.underlying270 hi hcmp hj (by rw[hjs];decide) hne ((B.block _ (zNf ha)).trans ha) ((B.block _ (zNf hb)).trans hb)
 clear B
 have hty:=fun v=>run_eql_iface_types (P:=Tryz.prog) 221 270 (.agg #[.string s,.iface 270 (.pointer (some a))]) (.pointer (some b)) Tryz.underlying141 zd v
 exact zqmp4
theorem zGh (a0 a1:Addr) (w:World) (h:ErrAt a0 a1 w):Calls Tryz.prog 156 #[.nilIface] w fun e w'=>e=.returned (0:Int)∧Below w w w':=by
 have H:=(Held.start w).add (f:=zBn a0 a1) h
 clear h
 go_enter Tryz.func156,Tryz.ntmps156
 obtain⟨c0,c1,t0,t1,h0,h1,hne,r0,r1⟩:=(show ErrAt a0 a1 w from H.all _ i0_)
 go_wp2_with fail
 revert H
 with_reducible refine zG (fun _=>is_nil a0 _) ?_
 intro w1 H
 obtain⟨d0,d1,s0,s1,g0,g1,-,q0,q1⟩:=(show ErrAt a0 a1 w1 from H.all _ i0_)
 go_wp2_with fail
 revert H
 with_reducible refine zG (fun _=>is_nil a1 _) ?_
 intro w2 H
 go_wp2_with fail
 go_ret
 exact⟨rfl,H.old⟩
theorem zMm (s:ByteArray) (a0 a1:Addr) (w:World) (h:ErrAt a0 a1 w):Calls Tryz.prog 156 #[.iface 221 (.agg #[.string s,.iface 270 (.pointer (some a0))])] w fun e w'=>e=.returned (3:Int)∧Below w w w':=by
 have H:=(Held.start w).add (f:=zBn a0 a1) h
 clear h
 go_enter Tryz.func156,Tryz.ntmps156
 obtain⟨c0,c1,t0,t1,h0,h1,hne,r0,r1⟩:=(show ErrAt a0 a1 w from H.all _ i0_)
 go_wp2_with fail
 revert H
 with_reducible refine zG (fun _=>is_yes s a0 a0 _ rfl) ?_
 intro w1 H
 go_wp2_with fail
 go_ret
 exact⟨rfl,H.old⟩
theorem zHk (s:ByteArray) (a0 a1:Addr) (w:World) (h:ErrAt a0 a1 w):Calls Tryz.prog 156 #[.iface 221 (.agg #[.string s,.iface 270 (.pointer (some a1))])] w fun e w'=>e=.returned (4:Int)∧Below w w w':=by
 have H:=(Held.start w).add (f:=zBn a0 a1) h
 clear h
 go_enter Tryz.func156,Tryz.ntmps156
 obtain⟨c0,c1,t0,t1,h0,h1,hne,r0,r1⟩:=(show ErrAt a0 a1 w from H.all _ i0_)
 go_wp2_with fail
 revert H
 with_reducible refine zG (fun _=>is_no s a1 a0 _ c1 c0 t1 t0 (Ne.symm hne) r1 r0) ?_
 intro w1 H
 obtain⟨d0,d1,s0,s1,g0,g1,-,q0,q1⟩:=(show ErrAt a0 a1 w1 from H.all _ i0_)
 go_wp2_with fail
 revert H
 with_reducible refine zG (fun _=>is_yes s a1 a1 _ rfl) ?_
 intro w2 H
 go_wp2_with fail
 go_ret
 exact⟨rfl,H.old⟩
end Go.Proofs.YtpfgdfpaoldhcaaGreatDoor
namespace Go.Proofs.YtpfgdfpaoldhcaaGreatDoor
open Go.RowKit
theorem zqk9o {P:Prop} (h:P:=by
 have HK:=H.old
 have lg0:=zA0 h0
 have lg1:=zA0 h1
 clear H r0 r1 hne
 go_wp2
 go_region
 all_goals go_wp2
 all_goals exact bodyPost_ret (v:=.tuple #[.agg #[(0:Int),(0:Int),(0:Int),(0:Int)],.iface 221 (.agg #[.string _,.iface 270 (.pointer (some a0))])]) (by simp[results,Tryz.results155,go_sem,cz0,cz1,cz2,cz3,lz];rfl) rfl ⟨⟨_,rfl⟩,by repeat (first | exact HK | refine Below.drew ?_ | refine Below.setCell ?_ zw _ | refine Below.alloc ?_ zw _)⟩):P:=h
theorem bet_day1 (a b:Int) (a0 a1:Addr) (w:World) (hL:Lens w) (hE:ErrAt a0 a1 w) (h1:a<1∨3652059<a):Calls Tryz.prog 155 #[a,b] w fun e' w'=>(∃s,e'=.returned (.tuple #[.agg #[(0:Int),(0:Int),(0:Int),(0:Int)],.iface 221 (.agg #[.string s,.iface 270 (.pointer (some a0))])]))∧Below w w w':=by
 have H:=((Held.start w).add (f:=zAa) hL).add (f:=zBn a0 a1) hE
 have kw:7<w.heap.size∧8<w.heap.size:=by obtain⟨_,_,_,_,k0,k1,_⟩:=hE;exact⟨zA0 k0,zA0 k1⟩
 obtain⟨kw0,kw1⟩:=kw
 clear hL hE
 have O1:Hid (zAf a 0 0 0 3):=zh (Or.inr ⟨h1,rfl,rfl,rfl,rfl⟩)
 clear h1
 go_enter Tryz.func155,Tryz.ntmps155
 go_wp2_with fail
 replace H:=(H.quad w (0:Int) (0:Int) (0:Int) (0:Int) 195 rfl)
 revert H
 with_reducible refine zG (fun H=>zAx a 0 0 0 3 _ (H.lens i9_) O1.out) ?_
 intro w1 H
 obtain⟨cz0,cz1,cz2,cz3⟩:=H.cells4 w
 have lz:=H.lt w 0 (0:Int) i0_
 obtain⟨fz0,fz1,fz2,fz3⟩:=H.frozens4 w
 obtain⟨c0,c1,t0,t1,h0,h1,hne,r0,r1⟩:=(show ErrAt a0 a1 w1 from H.all _ i8_)
 exact zqk9o
theorem bet_day2 (a b y1 m1 d1:Int) (a0 a1:Addr) (w:World) (hL:Lens w) (hE:ErrAt a0 a1 w) (h1:may y1 m1 d1) (e1:nb y1 m1 d1=a) (h2:b<1∨3652059<b):Calls Tryz.prog 155 #[a,b] w fun e' w'=>(∃s,e'=.returned (.tuple #[.agg #[(0:Int),(0:Int),(0:Int),(0:Int)],.iface 221 (.agg #[.string s,.iface 270 (.pointer (some a0))])]))∧Below w w w':=by
 have H:=((Held.start w).add (f:=zAa) hL).add (f:=zBn a0 a1) hE
 have kw:7<w.heap.size∧8<w.heap.size:=by obtain⟨_,_,_,_,k0,k1,_⟩:=hE;exact⟨zA0 k0,zA0 k1⟩
 obtain⟨kw0,kw1⟩:=kw
 clear hL hE
 have O1:Hid (zAf a y1 m1 d1 0):=zh (Or.inl ⟨h1,e1,rfl⟩)
 have O2:Hid (zAf b 0 0 0 3):=zh (Or.inr ⟨h2,rfl,rfl,rfl,rfl⟩)
 clear h1 e1 h2
 go_enter Tryz.func155,Tryz.ntmps155
 go_wp2_with fail
 replace H:=(H.quad w (0:Int) (0:Int) (0:Int) (0:Int) 195 rfl)
 revert H
 with_reducible refine zG (fun H=>zAx a y1 m1 d1 0 _ (H.lens i9_) O1.out) ?_
 intro w1 H
 go_wp2_with fail
 replace H:=(H.triple w1 y1 m1 d1 86 rfl)
 revert H
 with_reducible refine zG (fun H=>zAx b 0 0 0 3 _ (H.lens i15_) O2.out) ?_
 intro w2 H
 obtain⟨cz0,cz1,cz2,cz3⟩:=H.cells4 w
 have lz:=H.lt w 0 (0:Int) i6_
 obtain⟨fz0,fz1,fz2,fz3⟩:=H.frozens4 w
 obtain⟨c0,c1,t0,t1,h0,h1,hne,r0,r1⟩:=(show ErrAt a0 a1 w2 from H.all _ i14_)
 exact zqk9o
theorem bet_gt (a b y1 m1 d1 y2 m2 d2:Int) (a0 a1:Addr) (w:World) (hL:Lens w) (hE:ErrAt a0 a1 w) (h1:may y1 m1 d1) (e1:nb y1 m1 d1=a) (h2:may y2 m2 d2) (e2:nb y2 m2 d2=b) (hab:a>b):Calls Tryz.prog 155 #[a,b] w fun e' w'=>(∃s,e'=.returned (.tuple #[.agg #[(0:Int),(0:Int),(0:Int),(0:Int)],.iface 221 (.agg #[.string s,.iface 270 (.pointer (some a1))])]))∧Below w w w':=by
 have H:=((Held.start w).add (f:=zAa) hL).add (f:=zBn a0 a1) hE
 have kw:7<w.heap.size∧8<w.heap.size:=by obtain⟨_,_,_,_,k0,k1,_⟩:=hE;exact⟨zA0 k0,zA0 k1⟩
 obtain⟨kw0,kw1⟩:=kw
 clear hL hE
 have O1:Hid (zAf a y1 m1 d1 0):=zh (Or.inl ⟨h1,e1,rfl⟩)
 have O2:Hid (zAf b y2 m2 d2 0):=zh (Or.inl ⟨h2,e2,rfl⟩)
 clear h1 e1 h2 e2
 go_enter Tryz.func155,Tryz.ntmps155
 go_wp2_with fail
 replace H:=(H.quad w (0:Int) (0:Int) (0:Int) (0:Int) 195 rfl)
 revert H
 with_reducible refine zG (fun H=>zAx a y1 m1 d1 0 _ (H.lens i9_) O1.out) ?_
 intro w1 H
 go_wp2_with fail
 replace H:=(H.triple w1 y1 m1 d1 86 rfl)
 revert H
 with_reducible refine zG (fun H=>zAx b y2 m2 d2 0 _ (H.lens i15_) O2.out) ?_
 intro w2 H
 obtain⟨cz0,cz1,cz2,cz3⟩:=H.cells4 w
 have lz:=H.lt w 0 (0:Int) i6_
 obtain⟨fz0,fz1,fz2,fz3⟩:=H.frozens4 w
 obtain⟨c0,c1,t0,t1,h0,h1,hne,r0,r1⟩:=(show ErrAt a0 a1 w2 from H.all _ i14_)
 have HK:=H.old
 have lg0:=zA0 h0
 have lg1:=zA0 h1
 clear H r0 r1 hne
 go_wp2
 go_region
 all_goals go_wp2
 all_goals exact bodyPost_ret (v:=.tuple #[.agg #[(0:Int),(0:Int),(0:Int),(0:Int)],.iface 221 (.agg #[.string _,.iface 270 (.pointer (some a1))])]) (by simp[results,Tryz.results155,go_sem,cz0,cz1,cz2,cz3,lz];rfl) rfl ⟨⟨_,rfl⟩,by repeat (first | exact HK | refine Below.drew ?_ | refine Below.setCell ?_ zw _ | refine Below.alloc ?_ zw _)⟩
theorem bet_ok (a b y1 m1 d1 y2 m2 d2:Int) (a0 a1:Addr) (w:World) (hL:Lens w) (hE:ErrAt a0 a1 w) (h1:may y1 m1 d1) (e1:nb y1 m1 d1=a) (h2:may y2 m2 d2) (e2:nb y2 m2 d2=b) (hab:¬a>b):Calls Tryz.prog 155 #[a,b] w fun e' w'=>e'=.returned (.tuple #[.agg #[a,b,y1,y2],.nilIface])∧Below w w w':=by
 have H:=((Held.start w).add (f:=zAa) hL).add (f:=zBn a0 a1) hE
 have kw:7<w.heap.size∧8<w.heap.size:=by obtain⟨_,_,_,_,k0,k1,_⟩:=hE;exact⟨zA0 k0,zA0 k1⟩
 obtain⟨kw0,kw1⟩:=kw
 clear hL hE
 have O1:Hid (zAf a y1 m1 d1 0):=zh (Or.inl ⟨h1,e1,rfl⟩)
 have O2:Hid (zAf b y2 m2 d2 0):=zh (Or.inl ⟨h2,e2,rfl⟩)
 clear h1 e1 h2 e2
 go_enter Tryz.func155,Tryz.ntmps155
 go_wp2_with fail
 replace H:=(H.quad w (0:Int) (0:Int) (0:Int) (0:Int) 195 rfl)
 revert H
 with_reducible refine zG (fun H=>zAx a y1 m1 d1 0 _ (H.lens i9_) O1.out) ?_
 intro w1 H
 go_wp2_with fail
 replace H:=(H.triple w1 y1 m1 d1 86 rfl)
 revert H
 with_reducible refine zG (fun H=>zAx b y2 m2 d2 0 _ (H.lens i15_) O2.out) ?_
 intro w2 H
 obtain⟨cz0,cz1,cz2,cz3⟩:=H.cells4 w
 have lz:=H.lt w 0 (0:Int) i6_
 obtain⟨cf0,cf1,cf2⟩:=H.cells3 w1
 have lf:=H.lt w1 0 y1 i0_
 obtain⟨fz0,fz1,fz2,fz3⟩:=H.frozens4 w
 have HK:=H.old
 clear H
 go_wp2
 exact bodyPost_ret (v:=.tuple #[.agg #[a,b,y1,y2],.nilIface]) (by simp[results,Tryz.results155,go_sem,cz0,cz1,cz2,cz3,lz]) rfl ⟨rfl,by repeat (first | exact HK | refine Below.drew ?_ | refine Below.setCell ?_ zw _ | refine Below.alloc ?_ zw _)⟩
end Go.Proofs.YtpfgdfpaoldhcaaGreatDoor
namespace Go.Proofs.YtpfgdfpaoldhcaaGreatDoor
open Go.RowKit
def CvAt (y1 m1 d1 y2 m2 d2 g V c:Int):Prop:=
 (g=0∧V=lv y1 m1 d1∧c=nb y1 m1 d1)∨(0<g∧y1+g≤y2∧V=366*ly (y1+g)∧c=ah (y1+g)+1)∨(g=y2+1-y1∧V=lv y2 m2 d2∧c=nb y2 m2 d2)
theorem cv_step (y1 m1 d1 y2 m2 d2 g V c:Int) (h1:may y1 m1 d1) (h2:may y2 m2 d2) (hy:y1+g≤y2) (hc:CvAt y1 m1 d1 y2 m2 d2 g V c) :
  ∃V' c',CvAt y1 m1 d1 y2 m2 d2 (g+1) V' c'∧max (nb y1 m1 d1) (ah (y1+g)+1)=c∧min (nb y2 m2 d2) (ah (y1+g)+1+yl (y1+g))=c'∧(lp (y1+g)=true→V'=V+(c'-c))∧(lp (y1+g)=false→V'=V):=by
 have i1:=zBq _ _ _ h1
 have i2:=zBq _ _ _ h2
 have s:=zD6 (y1+g)
 have sl:=zL4 (y1+g)
 have e1:y1+g+1=y1+(g+1):=zo
 rw[e1] at s sl
 have n1:nb y1 m1 d1=ah y1+am y1 m1+d1:=rfl
 have n2:nb y2 m2 d2=ah y2+am y2 m2+d2:=rfl
 have k2:y1+g<y2→ah (y1+g)+yl (y1+g)≤ah y2:=zPs _ _
 have k1:y1<y1+g→ah y1+yl y1≤ah (y1+g):=zPs _ _
 rcases hc with⟨rfl,rfl,rfl⟩ | ⟨g0,g1,rfl,rfl⟩ | ⟨rfl,_,_⟩
 ·rw[Int.add_zero] at *
  by_cases he:y1=y2
  ·subst he
   refine⟨lv y1 m2 d2,nb y1 m2 d2,Or.inr (Or.inr ⟨zo,rfl,rfl⟩),zo,zo,fun p=>?_,fun p=>?_⟩
   ·unfold lv;rw[if_pos p,if_pos p];omega
   ·unfold lv;simp[p]
  ·refine⟨366*ly (y1+(0+1)),ah (y1+(0+1))+1,Or.inr (Or.inl ⟨zo,zo,rfl,rfl⟩),zo,zo,fun p=>?_,fun p=>?_⟩
   ·rw[if_pos p] at sl;unfold lv;rw[if_pos p];unfold yl at s;rw[if_pos p] at s;omega
   ·rw[if_neg (by simp[p])] at sl;unfold lv;rw[if_neg (by simp[p])];omega
 ·by_cases he:y1+g=y2
  ·refine⟨lv y2 m2 d2,nb y2 m2 d2,Or.inr (Or.inr ⟨zo,rfl,rfl⟩),zo,by rw[he] at *;omega,fun p=>?_,fun p=>?_⟩
   ·rw[he] at *;unfold lv;rw[if_pos p];omega
   ·rw[he] at *;unfold lv;simp[p]
  ·refine⟨366*ly (y1+(g+1)),ah (y1+(g+1))+1,Or.inr (Or.inl ⟨zo,zo,rfl,rfl⟩),zo,zo,fun p=>?_,fun p=>?_⟩
   ·rw[if_pos p] at sl;unfold yl at s;rw[if_pos p] at s;omega
   ·rw[if_neg (by simp[p])] at sl;omega
 ·omega
theorem cv_bd (y1 m1 d1 y2 m2 d2 g V c:Int) (h1:may y1 m1 d1) (h2:may y2 m2 d2) (hl:nb y1 m1 d1≤nb y2 m2 d2) (g0:0≤g) (hy:y1+g≤y2+1) (hc:CvAt y1 m1 d1 y2 m2 d2 g V c) :
  (0≤V-lv y1 m1 d1∧V-lv y1 m1 d1≤3700000)∧(0≤c-nb y1 m1 d1∧c-nb y1 m1 d1≤3700000):=by
 have b1:=lv_bd _ _ _ h1
 have b2:=lv_bd _ _ _ h2
 have n1:=zAd _ _ _ h1
 have n2:=zAd _ _ _ h2
 have l:=lv_le _ _ _ _ _ _ h1 h2 hl
 have i1:=zBq _ _ _ h1
 have y1b:=h1.1
 have y2b:=h2.2.1
 rcases hc with⟨rfl,rfl,rfl⟩ | ⟨g0,g1,rfl,rfl⟩ | ⟨rfl,rfl,rfl⟩
 ·omega
 ·have a:=zHz (y1+g) zo zo
  have b:=zOb (y1+g) zo zo
  have k:=zPs y1 (y1+g) zo
  have k2:=ly_le (y1+1) (y1+g) zo
  have s:=zL4 y1
  have u:=zOb y1 zo zo
  have n:nb y1 m1 d1=ah y1+am y1 m1+d1:=rfl
  refine⟨?_,zo⟩
  unfold lv
  unfold yl at i1
  by_cases p:lp y1=true
  ·rw[if_pos p] at *;omega
  ·rw[if_neg p] at *;omega
 ·omega
theorem ylen_any (y:Int) (w:World):Calls Tryz.prog 179 #[y] w fun e w'=>e=.returned (yl y)∧w=w':=by
 have CL:=zh (fun v=>zIj y v)
 unfold yl
 generalize lp y=p at *
 go_enter Tryz.func179,Tryz.ntmps179
 go_wp2_with fail
 with_reducible refine (CL.out _).mono ?_
 rintro e w1 ⟨rfl,rfl⟩
 cases p
 ·go_wp2
  go_ret
  exact⟨rfl,rfl⟩
 ·go_wp2
  go_ret
  exact⟨rfl,rfl⟩
theorem zqrf6 {P:Prop} (h:P:=by
 go_wp2
 go_round
 case rel=>exact⟨g+1,V',c',zo,zo,HC'.out,congrArg (Value.int .i64) (by have:=ev.out;omega),congrArg (Value.int .i64) (by have:=ev.out;omega),congrArg (Value.int .i64) HB.out,rfl⟩
 case measure=>simp[intOf];omega):P:=h
theorem zKr (a b y1 m1 d1 y2 m2 d2 x r:Int) (w:World) (hL:Lens w) (h1:may y1 m1 d1) (ha:nb y1 m1 d1=a) (h2:may y2 m2 d2) (hb:nb y2 m2 d2=b) (hab:a≤b) (hx:inX y1 m1 d1 y2 m2 d2=x) (hr:b-a-x=r) :
  Calls Tryz.prog 157 #[.agg #[a,b,y1,y2]] w fun e w'=>e=.returned (.tuple #[x,r])∧Below w w w':=by
 have H:=(Held.start w).add (f:=zAa) hL
 clear hL
 have yy:y1≤y2:=by
  by_cases k:y2<y1
  ·have:=nb_lt _ _ _ _ _ _ h2 h1 (Or.inl k);omega
  ·omega
 have yb1:=h1.1
 have yb2:=h2.2.1
 have F1:Hid (nN y1 1 1=ah y1+1∧nE y1 1 1=0):=zh (by
  have k:may y1 1 1:=⟨h1.1,h1.2.1,zo,zo,zo,by have:=zGr y1 1 zo zo;omega⟩
  have z:=zEa k
  have e:nb y1 1 1=ah y1+1:=by unfold nb;rw[zFl];omega
  rw[e] at z;exact z)
 have NB:=zh (fun v h=>by have k:=zHq y1 1 1 v h;rwa [F1.out.1,F1.out.2] at k)
 have ST:=zh (fun g V c hy hc=>cv_step y1 m1 d1 y2 m2 d2 g V c h1 h2 hy hc)
 have BD:=zh (fun g V c g0 hy hc=>cv_bd y1 m1 d1 y2 m2 d2 g V c h1 h2 zo g0 hy hc)
 have FIN:Hid (∀V c,CvAt y1 m1 d1 y2 m2 d2 (y2-y1+1) V c→V-lv y1 m1 d1=x∧c-a-(V-lv y1 m1 d1)=r):=zh (by
  rintro V c (⟨e,_,_⟩ | ⟨_,e,_,_⟩ | ⟨_,rfl,rfl⟩)
  ·omega
  ·omega
  ·unfold inX at hx;omega)
 have AB:=zh (fun g (g0:0≤g) (hy:y1+g≤y2)=>And.intro (zHz (y1+g) zo zo) (zPo (y1+g)))
 have A0:Hid (CvAt y1 m1 d1 y2 m2 d2 0 (lv y1 m1 d1) a):=zh (Or.inl ⟨rfl,rfl,ha.symm⟩)
 have CN:=zh (fun g=>zD6 (y1+g))
 have aB:=zAd _ _ _ h1
 have bB:=zAd _ _ _ h2
 rw[ha] at aB
 rw[hb] at bB
 rw[ha] at BD
 rw[ha,hb] at ST
 clear h1 h2 ha hb hx hr F1
 generalize lv y1 m1 d1=L at *
 obtain⟨A1,HA1⟩:∃A1,Hid (ah y1=A1):=⟨_,zh rfl⟩
 have ab1:=(AB.out 0 zo zo).1
 rw[Int.add_zero,HA1.out] at ab1
 rw[HA1.out] at NB
 go_enter Tryz.func157,Tryz.ntmps157
 go_wp2_with fail
 replace H:=(H.quad w a b y1 y2 195 rfl)
 revert H
 with_reducible refine zG (fun H=>NB.out _ (H.lens i8_)) ?_
 intro w1 H
 obtain⟨cs0,cs1,cs2,cs3⟩:=H.cells4 w
 have ls:=H.lt w 0 a i0_
 have HK:=H.old
 clear H
 go_wp2
 go_loop [2,3,4,23] (fun il io bg k=>∃g V c:Int,0≤g∧y1+g≤y2+1∧CvAt y1 m1 d1 y2 m2 d2 g V c∧il=.int .i64 (V-L)∧io=.int .i64 (c-a-(V-L))∧bg=.int .i64 (ah (y1+g)+1)∧k=.int .i64 g) (fun _ _ _ k=>(y2+1-y1-intOf k).toNat)
 case atStart=>exact⟨0,L,a,zo,zo,A0.out,zs,zs,by simp[HA1.out],rfl⟩
 case round=>
  obtain⟨g,V,c,g0,g1,hc,rfl,rfl,rfl,rfl⟩:=hrel
  have HC:=zh hc
  have bd:=BD.out g V c g0 g1 hc
  clear hc
  by_cases hk:g<y2-y1+1
  ·obtain⟨V',c',hc',e1,e2,e3,e4⟩:=ST.out g V c zo HC.out
   have bd':=BD.out (g+1) V' c' zo zo hc'
   have HC':=zh hc'
   have ab:=AB.out g g0 zo
   obtain⟨y,hy⟩:∃y,y=y1+g:=⟨_,rfl⟩
   have HY:=zh hy
   rw[←hy] at e1 e2 e3 e4 ab
   rw[←hy]
   have CN':=CN.out g
   rw[←hy] at CN'
   have CN2:=zh CN'
   have E1:=zh e1
   have E2:=zh e2
   have E3:=zh e3
   have E4:=zh e4
   obtain⟨A,HA⟩:∃A,Hid (ah y=A):=⟨_,zh rfl⟩
   obtain⟨Y,HYL⟩:∃Y,Hid (yl y=Y):=⟨_,zh rfl⟩
   have CL:=zh (fun v=>ylen_any y v)
   have CP:=zh (fun v=>zIj y v)
   rw[HYL.out] at CL
   rw[HA.out,HYL.out] at ab
   rw[HA.out]
   have m1':=E1.out
   have m2':=E2.out
   rw[HA.out] at m1' m2'
   rw[HYL.out] at m2'
   have sY:IntKind.i64.wrap (y1+g)=y:=by rw[IntWalk.i64_in _ zo];exact hy.symm
   have yb:1≤y∧y≤9999:=zo
   clear e1 e2 e3 e4 hc' CN' hy
   go_wp2_with fail
   with_reducible refine (CL.out _).mono ?_
   rintro e w8 ⟨rfl,rfl⟩
   obtain⟨p,HP⟩:∃p,Hid (lp y=p):=⟨_,zh rfl⟩
   rw[HP.out] at CP
   go_wp2_with fail
   with_reducible refine (CP.out _).mono ?_
   rintro e w9 ⟨rfl,rfl⟩
   have HB:Hid (A+1+Y=ah (y1+(g+1))+1):=zh (by
    have h:=CN2.out
    rw[HA.out,HYL.out] at h
    have e:y1+(g+1)=y+1:=by have:=HY.out;omega
    rw[e,h];omega)
   cases p
   ·have ev:=zh (E4.out HP.out)
    exact zqrf6
   ·have ev:=zh (E3.out HP.out)
    exact zqrf6
  ·have e:g=y2-y1+1:=zo
   have FE:=zh (FIN.out V c (e▸HC.out))
   clear e
   go_wp2
   go_ret2
   exact⟨ret2 FE.out.1 FE.out.2,HK⟩
end Go.Proofs.YtpfgdfpaoldhcaaGreatDoor
namespace Go.Proofs.YtpfgdfpaoldhcaaGreatDoor
open Go.RowKit
def Facts_ac (w:World):Prop:=Lens w∧Errs_ac w
theorem Facts_ac.below {W W':World} (h:Facts_ac W) (hb:Below W W W'):Facts_ac W':=⟨h.1.below hb,h.2.below hb⟩
def zGl:Fact:=.that Facts_ac (fun _ _ hb h=>h.below hb)
theorem Held.facts_ac {w W:World} {fs:List Fact} (h:Held w fs W) (hm:zGl∈fs:=by exact zm):Facts_ac W:=h.all _ hm
structure Ways_ac:Prop where
 by360:∀(a b p q c:Int) (w:World),Facts_ac w→AcIs aX 360 a b p q c→Calls Tryz.prog 131 #[a,b] w fun e w'=>e=.returned (.tuple #[.agg #[p,q],c])∧Below w w w'
 by365:∀(a b p q c:Int) (w:World),Facts_ac w→AcIs aX 365 a b p q c→Calls Tryz.prog 132 #[a,b] w fun e w'=>e=.returned (.tuple #[.agg #[p,q],c])∧Below w w w'
 byyears:∀(a b p q c:Int) (w:World),Facts_ac w→AcIs yX 133590 a b p q c→Calls Tryz.prog 133 #[a,b] w fun e w'=>e=.returned (.tuple #[.agg #[p,q],c])∧Below w w w'
end Go.Proofs.YtpfgdfpaoldhcaaGreatDoor
namespace Go.Proofs.YtpfgdfpaoldhcaaGreatDoor
open Go.RowKit
theorem Held.err {w W:World} {fs:List Fact} {a0 a1:Addr} (h:Held w fs W) (hm:zBn a0 a1∈fs:=by exact zm):ErrAt a0 a1 W:=h.all _ hm
theorem zQ1 (a b:Int) (a0 a1:Addr) (w:World) (hL:Lens w) (hE:ErrAt a0 a1 w) (h:(a<1∨3652059<a)∨(b<1∨3652059<b)):Calls Tryz.prog 155 #[a,b] w fun e' w'=>(∃s,e'=.returned (.tuple #[.agg #[(0:Int),(0:Int),(0:Int),(0:Int)],.iface 221 (.agg #[.string s,.iface 270 (.pointer (some a0))])]))∧Below w w w':=by
 by_cases h1:a<1∨3652059<a
 ·exact bet_day1 a b a0 a1 w hL hE h1
 ·obtain⟨y1,m1,d1,k1,k2⟩:=zBk a zo zo
  exact bet_day2 a b y1 m1 d1 a0 a1 w hL hE k1 k2 zo
theorem zJ8 (a b:Int) (a0 a1:Addr) (w:World) (hL:Lens w) (hE:ErrAt a0 a1 w) (h1:1≤a∧a≤3652059) (h2:1≤b∧b≤3652059) (h:b<a):Calls Tryz.prog 155 #[a,b] w fun e' w'=>(∃s,e'=.returned (.tuple #[.agg #[(0:Int),(0:Int),(0:Int),(0:Int)],.iface 221 (.agg #[.string s,.iface 270 (.pointer (some a1))])]))∧Below w w w':=by
 obtain⟨y1,m1,d1,k1,k2⟩:=zBk a h1.1 h1.2
 obtain⟨y2,m2,d2,k3,k4⟩:=zBk b h2.1 h2.2
 exact bet_gt a b y1 m1 d1 y2 m2 d2 a0 a1 w hL hE k1 k2 k3 k4 h
theorem by_ok (a b k y1 m1 d1 y2 m2 d2 p q:Int) (w:World) (hF:Facts_ac w) (h1:may y1 m1 d1) (e1:nb y1 m1 d1=a) (h2:may y2 m2 d2) (e2:nb y2 m2 d2=b) (hab:a≤b) (k0:0<k) (k1:k≤200000) (hp:rN (b-a) k=p) (hq:rD (b-a) k=q):Calls Tryz.prog 154 #[a,b,k] w fun e' w'=>e'=.returned (.tuple #[.agg #[p,q],(0:Int)])∧Below w w w':=by
 obtain⟨hL,a0,a1,hE⟩:=hF
 have H:=((Held.start w).add (f:=zAa) hL).add (f:=zBn a0 a1) hE
 clear hL hE
 have bd1:=zAd _ _ _ h1
 have bd2:=zAd _ _ _ h2
 rw[e1] at bd1
 rw[e2] at bd2
 have N1:Hid (rN (b-a) k=p∧rD (b-a) k=q∧rE (b-a) k=0):=zh ⟨hp,hq,(zCo (zCn (b-a) k zo zo k0 k1)).2.2⟩
 have CB:=zh (fun v hl he=>bet_ok a b y1 m1 d1 y2 m2 d2 a0 a1 v hl he h1 e1 h2 e2 zo)
 clear h1 e1 h2 e2 hp hq
 go_enter Tryz.func154,Tryz.ntmps154
 go_wp2_with fail
 replace H:=(H.pair w (0:Int) (0:Int) 48 rfl)
 revert H
 with_reducible refine zG (fun H=>CB.out _ (H.lens i5_) (H.err i4_)) ?_
 intro w1 H
 go_wp2_with fail
 replace H:=(H.quad w1 a b y1 y2 195 rfl)
 revert H
 with_reducible refine zG (fun H=>zGh a0 a1 _ (H.err i12_)) ?_
 intro w2 H
 obtain⟨cd0,cd1,cd2,cd3⟩:=H.cells4 w1
 have ld:=H.lt w1 0 a i0_
 go_wp2_with fail
 clear cd0 cd1 cd2 cd3 ld
 revert H
 with_reducible refine zG (fun _=>zN6 (b-a) k p q 0 _ zo zo zo zo N1.out) ?_
 intro w3 H
 obtain⟨cz0,cz1⟩:=H.cells2 w
 have lz:=H.lt w 0 (0:Int) i8_
 obtain⟨fz0,fz1⟩:=H.frozens2 w
 have HK:=H.old
 clear H
 go_wp2_with fail
 exact bodyPost_ret (v:=.tuple #[.agg #[p,q],(0:Int)]) (by simp[results,Tryz.results154,go_sem,cz0,cz1,lz]) rfl ⟨rfl,by repeat (first | exact HK | refine Below.drew ?_ | refine Below.setCell ?_ zw _ | refine Below.alloc ?_ zw _)⟩
theorem by_day (a b k:Int) (w:World) (hF:Facts_ac w) (h:(a<1∨3652059<a)∨(b<1∨3652059<b)):Calls Tryz.prog 154 #[a,b,k] w fun e' w'=>e'=.returned (.tuple #[.agg #[(0:Int),(0:Int)],(3:Int)])∧Below w w w':=by
 obtain⟨hL,a0,a1,hE⟩:=hF
 have H:=((Held.start w).add (f:=zAa) hL).add (f:=zBn a0 a1) hE
 clear hL hE
 have CB:=zh (fun v hl he=>zQ1 a b a0 a1 v hl he h)
 clear h
 go_enter Tryz.func154,Tryz.ntmps154
 go_wp2_with fail
 replace H:=(H.pair w (0:Int) (0:Int) 48 rfl)
 with_reducible refine (CB.out _ (H.lens i5_) (H.err i4_)).mono ?_
 rintro e w1 ⟨⟨s,rfl⟩,hb⟩
 replace H:=H.below hb
 clear hb
 go_wp2_with fail
 replace H:=(H.quad w1 (0:Int) (0:Int) (0:Int) (0:Int) 195 rfl)
 revert H
 with_reducible refine zG (fun H=>zMm s a0 a1 _ (H.err i12_)) ?_
 intro w2 H
 obtain⟨cz0,cz1⟩:=H.cells2 w
 have lz:=H.lt w 0 (0:Int) i8_
 obtain⟨fz0,fz1⟩:=H.frozens2 w
 have HK:=H.old
 clear H
 go_wp2_with fail
 exact bodyPost_ret (v:=.tuple #[.agg #[(0:Int),(0:Int)],(3:Int)]) (by simp[results,Tryz.results154,go_sem,cz0,cz1,lz]) rfl ⟨rfl,by repeat (first | exact HK | refine Below.drew ?_ | refine Below.setCell ?_ zw _ | refine Below.alloc ?_ zw _)⟩
theorem by_order (a b k:Int) (w:World) (hF:Facts_ac w) (h1:1≤a∧a≤3652059) (h2:1≤b∧b≤3652059) (h:b<a):Calls Tryz.prog 154 #[a,b,k] w fun e' w'=>e'=.returned (.tuple #[.agg #[(0:Int),(0:Int)],(4:Int)])∧Below w w w':=by
 obtain⟨hL,a0,a1,hE⟩:=hF
 have H:=((Held.start w).add (f:=zAa) hL).add (f:=zBn a0 a1) hE
 clear hL hE
 have CB:=zh (fun v hl he=>zJ8 a b a0 a1 v hl he h1 h2 h)
 clear h h1 h2
 go_enter Tryz.func154,Tryz.ntmps154
 go_wp2_with fail
 replace H:=(H.pair w (0:Int) (0:Int) 48 rfl)
 with_reducible refine (CB.out _ (H.lens i5_) (H.err i4_)).mono ?_
 rintro e w1 ⟨⟨s,rfl⟩,hb⟩
 replace H:=H.below hb
 clear hb
 go_wp2_with fail
 replace H:=(H.quad w1 (0:Int) (0:Int) (0:Int) (0:Int) 195 rfl)
 revert H
 with_reducible refine zG (fun H=>zHk s a0 a1 _ (H.err i12_)) ?_
 intro w2 H
 obtain⟨cz0,cz1⟩:=H.cells2 w
 have lz:=H.lt w 0 (0:Int) i8_
 obtain⟨fz0,fz1⟩:=H.frozens2 w
 have HK:=H.old
 clear H
 go_wp2_with fail
 exact bodyPost_ret (v:=.tuple #[.agg #[(0:Int),(0:Int)],(4:Int)]) (by simp[results,Tryz.results154,go_sem,cz0,cz1,lz]) rfl ⟨rfl,by repeat (first | exact HK | refine Below.drew ?_ | refine Below.setCell ?_ zw _ | refine Below.alloc ?_ zw _)⟩
theorem by_any (a b k p q c:Int) (w:World) (hF:Facts_ac w) (k0:0<k) (k1:k≤200000) (h:AcIs aX k a b p q c):Calls Tryz.prog 154 #[a,b,k] w fun e' w'=>e'=.returned (.tuple #[.agg #[p,q],c])∧Below w w w':=by
 rcases h with⟨y1,m1,d1,y2,m2,d2,h1,ha,h2,hb,hab,hp,hq,rfl⟩ | ⟨h,rfl,rfl,rfl⟩ | ⟨h1,h2,h,rfl,rfl,rfl⟩
 ·unfold aX at hp hq
  rw[ha,hb] at hp hq
  exact by_ok a b k y1 m1 d1 y2 m2 d2 p q w hF h1 ha h2 hb hab k0 k1 hp hq
 ·exact by_day a b k w hF h
 ·exact by_order a b k w hF h1 h2 h
theorem zQ7 (a b p q c:Int) (w:World) (hF:Facts_ac w) (h:AcIs aX 360 a b p q c):Calls Tryz.prog 131 #[a,b] w fun e' w'=>e'=.returned (.tuple #[.agg #[p,q],c])∧Below w w w':=by
 have C:=zh (fun v hf=>by_any a b 360 p q c v hf zd zd h)
 have H:=(Held.start w).add (f:=zGl) hF
 clear h hF
 go_enter Tryz.func131,Tryz.ntmps131
 go_wp2_with fail
 replace H:=(H.pair w (0:Int) (0:Int) 48 rfl)
 revert H
 with_reducible refine zG (fun H=>C.out _ (H.facts_ac i4_)) ?_
 intro w1 H
 obtain⟨cz0,cz1⟩:=H.cells2 w
 have lz:=H.lt w 0 (0:Int) i0_
 obtain⟨fz0,fz1⟩:=H.frozens2 w
 have HK:=H.old
 clear H
 go_wp2_with fail
 exact bodyPost_ret (v:=.tuple #[.agg #[p,q],c]) (by simp[results,Tryz.results131,go_sem,cz0,cz1,lz]) rfl ⟨rfl,by repeat (first | exact HK | refine Below.drew ?_ | refine Below.setCell ?_ zw _ | refine Below.alloc ?_ zw _)⟩
theorem zQ8 (a b p q c:Int) (w:World) (hF:Facts_ac w) (h:AcIs aX 365 a b p q c):Calls Tryz.prog 132 #[a,b] w fun e' w'=>e'=.returned (.tuple #[.agg #[p,q],c])∧Below w w w':=by
 have C:=zh (fun v hf=>by_any a b 365 p q c v hf zd zd h)
 have H:=(Held.start w).add (f:=zGl) hF
 clear h hF
 go_enter Tryz.func132,Tryz.ntmps132
 go_wp2_with fail
 replace H:=(H.pair w (0:Int) (0:Int) 48 rfl)
 revert H
 with_reducible refine zG (fun H=>C.out _ (H.facts_ac i4_)) ?_
 intro w1 H
 obtain⟨cz0,cz1⟩:=H.cells2 w
 have lz:=H.lt w 0 (0:Int) i0_
 obtain⟨fz0,fz1⟩:=H.frozens2 w
 have HK:=H.old
 clear H
 go_wp2_with fail
 exact bodyPost_ret (v:=.tuple #[.agg #[p,q],c]) (by simp[results,Tryz.results132,go_sem,cz0,cz1,lz]) rfl ⟨rfl,by repeat (first | exact HK | refine Below.drew ?_ | refine Below.setCell ?_ zw _ | refine Below.alloc ?_ zw _)⟩
theorem zNz (a b y1 m1 d1 y2 m2 d2 p q:Int) (w:World) (hF:Facts_ac w) (h1:may y1 m1 d1) (e1:nb y1 m1 d1=a) (h2:may y2 m2 d2) (e2:nb y2 m2 d2=b) (hab:a≤b) (hp:rN (yX y1 m1 d1 y2 m2 d2) 133590=p) (hq:rD (yX y1 m1 d1 y2 m2 d2) 133590=q):Calls Tryz.prog 133 #[a,b] w fun e' w'=>e'=.returned (.tuple #[.agg #[p,q],(0:Int)])∧Below w w w':=by
 obtain⟨hL,a0,a1,hE⟩:=hF
 have H:=((Held.start w).add (f:=zAa) hL).add (f:=zBn a0 a1) hE
 clear hL hE
 have bd1:=zAd _ _ _ h1
 have bd2:=zAd _ _ _ h2
 have lv:=lv_le _ _ _ _ _ _ h1 h2 zo
 rw[e1] at bd1 lv
 rw[e2] at bd2 lv
 obtain⟨i,hi⟩:∃i,inX y1 m1 d1 y2 m2 d2=i:=⟨_,rfl⟩
 have ii:0≤i∧i≤b-a:=by unfold inX at hi;omega
 have hY:yX y1 m1 d1 y2 m2 d2=365*i+366*(b-a-i):=by unfold yX;rw[hi,e1,e2]
 obtain⟨r,hr⟩:∃r,b-a-i=r:=⟨_,rfl⟩
 rw[hY,hr] at hp hq
 have sm:=zKl i r zo zo zo zo
 obtain⟨n1,HN1⟩:∃x,rN i 366=x:=⟨_,rfl⟩
 obtain⟨k1,HD1⟩:∃x,rD i 366=x:=⟨_,rfl⟩
 obtain⟨n2,HN2⟩:∃x,rN r 365=x:=⟨_,rfl⟩
 obtain⟨k2,HD2⟩:∃x,rD r 365=x:=⟨_,rfl⟩
 rw[HN1,HD1,HN2,HD2,hp,hq] at sm
 have N1:Hid (rN i 366=n1∧rD i 366=k1∧rE i 366=0):=zh ⟨HN1,HD1,(zCo (zCn i 366 zo zo zd zd)).2.2⟩
 have N2:Hid (rN r 365=n2∧rD r 365=k2∧rE r 365=0):=zh ⟨HN2,HD2,(zCo (zCn r 365 zo zo zd zd)).2.2⟩
 have SM:=zh sm
 have CS:=zh (fun v hl=>zKr a b y1 m1 d1 y2 m2 d2 i r v hl h1 e1 h2 e2 hab hi hr)
 have CB:=zh (fun v hl he=>bet_ok a b y1 m1 d1 y2 m2 d2 a0 a1 v hl he h1 e1 h2 e2 zo)
 have ir:(0≤i∧i≤3700000)∧(0≤r∧r≤3700000):=zo
 clear h1 e1 h2 e2 hp hq sm lv hi hr hY HN1 HD1 HN2 HD2 ii
 go_enter Tryz.func133,Tryz.ntmps133
 go_wp2_with fail
 replace H:=(H.pair w (0:Int) (0:Int) 48 rfl)
 revert H
 with_reducible refine zG (fun H=>CB.out _ (H.lens i5_) (H.err i4_)) ?_
 intro w1 H
 go_wp2_with fail
 replace H:=(H.quad w1 a b y1 y2 195 rfl)
 revert H
 with_reducible refine zG (fun H=>zGh a0 a1 _ (H.err i12_)) ?_
 intro w2 H
 obtain⟨cd0,cd1,cd2,cd3⟩:=H.cells4 w1
 have ld:=H.lt w1 0 a i0_
 go_wp2_with fail
 clear cd0 cd1 cd2 cd3 ld
 revert H
 with_reducible refine zG (fun H=>CS.out _ (H.lens i13_)) ?_
 intro w3 H
 go_wp2_with fail
 revert H
 with_reducible refine zG (fun _=>zN6 i 366 n1 k1 0 _ zo zo zd zd N1.out) ?_
 intro w4 H
 go_wp2_with fail
 replace H:=(H.pair w4 n1 k1 48 rfl)
 revert H
 with_reducible refine zG (fun _=>zN6 r 365 n2 k2 0 _ zo zo zd zd N2.out) ?_
 intro w5 H
 obtain⟨cm0,cm1⟩:=H.cells2 w4
 have lm:=H.lt w4 0 n1 i0_
 go_wp2_with fail
 clear cm0 cm1 lm
 replace H:=(H.pair w5 n2 k2 48 rfl)
 revert H
 with_reducible refine zG (fun _=>zSi n1 k1 n2 k2 p q 0 _ SM.out.1 SM.out.2.1 SM.out.2.2) ?_
 intro w6 H
 obtain⟨cz0,cz1⟩:=H.cells2 w
 have lz:=H.lt w 0 (0:Int) i16_
 obtain⟨fz0,fz1⟩:=H.frozens2 w
 have HK:=H.old
 clear H
 go_wp2_with fail
 exact bodyPost_ret (v:=.tuple #[.agg #[p,q],(0:Int)]) (by simp[results,Tryz.results133,go_sem,cz0,cz1,lz]) rfl ⟨rfl,by repeat (first | exact HK | refine Below.drew ?_ | refine Below.setCell ?_ zw _ | refine Below.alloc ?_ zw _)⟩
theorem zKt (a b:Int) (w:World) (hF:Facts_ac w) (h:(a<1∨3652059<a)∨(b<1∨3652059<b)):Calls Tryz.prog 133 #[a,b] w fun e' w'=>e'=.returned (.tuple #[.agg #[(0:Int),(0:Int)],(3:Int)])∧Below w w w':=by
 obtain⟨hL,a0,a1,hE⟩:=hF
 have H:=((Held.start w).add (f:=zAa) hL).add (f:=zBn a0 a1) hE
 clear hL hE
 have CB:=zh (fun v hl he=>zQ1 a b a0 a1 v hl he h)
 clear h
 go_enter Tryz.func133,Tryz.ntmps133
 go_wp2_with fail
 replace H:=(H.pair w (0:Int) (0:Int) 48 rfl)
 with_reducible refine (CB.out _ (H.lens i5_) (H.err i4_)).mono ?_
 rintro e w1 ⟨⟨s,rfl⟩,hb⟩
 replace H:=H.below hb
 clear hb
 go_wp2_with fail
 replace H:=(H.quad w1 (0:Int) (0:Int) (0:Int) (0:Int) 195 rfl)
 revert H
 with_reducible refine zG (fun H=>zMm s a0 a1 _ (H.err i12_)) ?_
 intro w2 H
 obtain⟨cz0,cz1⟩:=H.cells2 w
 have lz:=H.lt w 0 (0:Int) i8_
 obtain⟨fz0,fz1⟩:=H.frozens2 w
 have HK:=H.old
 clear H
 go_wp2_with fail
 exact bodyPost_ret (v:=.tuple #[.agg #[(0:Int),(0:Int)],(3:Int)]) (by simp[results,Tryz.results133,go_sem,cz0,cz1,lz]) rfl ⟨rfl,by repeat (first | exact HK | refine Below.drew ?_ | refine Below.setCell ?_ zw _ | refine Below.alloc ?_ zw _)⟩
theorem zI8 (a b:Int) (w:World) (hF:Facts_ac w) (h1:1≤a∧a≤3652059) (h2:1≤b∧b≤3652059) (h:b<a):Calls Tryz.prog 133 #[a,b] w fun e' w'=>e'=.returned (.tuple #[.agg #[(0:Int),(0:Int)],(4:Int)])∧Below w w w':=by
 obtain⟨hL,a0,a1,hE⟩:=hF
 have H:=((Held.start w).add (f:=zAa) hL).add (f:=zBn a0 a1) hE
 clear hL hE
 have CB:=zh (fun v hl he=>zJ8 a b a0 a1 v hl he h1 h2 h)
 clear h h1 h2
 go_enter Tryz.func133,Tryz.ntmps133
 go_wp2_with fail
 replace H:=(H.pair w (0:Int) (0:Int) 48 rfl)
 with_reducible refine (CB.out _ (H.lens i5_) (H.err i4_)).mono ?_
 rintro e w1 ⟨⟨s,rfl⟩,hb⟩
 replace H:=H.below hb
 clear hb
 go_wp2_with fail
 replace H:=(H.quad w1 (0:Int) (0:Int) (0:Int) (0:Int) 195 rfl)
 revert H
 with_reducible refine zG (fun H=>zHk s a0 a1 _ (H.err i12_)) ?_
 intro w2 H
 obtain⟨cz0,cz1⟩:=H.cells2 w
 have lz:=H.lt w 0 (0:Int) i8_
 obtain⟨fz0,fz1⟩:=H.frozens2 w
 have HK:=H.old
 clear H
 go_wp2_with fail
 exact bodyPost_ret (v:=.tuple #[.agg #[(0:Int),(0:Int)],(4:Int)]) (by simp[results,Tryz.results133,go_sem,cz0,cz1,lz]) rfl ⟨rfl,by repeat (first | exact HK | refine Below.drew ?_ | refine Below.setCell ?_ zw _ | refine Below.alloc ?_ zw _)⟩
theorem zKs (a b p q c:Int) (w:World) (hF:Facts_ac w) (h:AcIs yX 133590 a b p q c):Calls Tryz.prog 133 #[a,b] w fun e' w'=>e'=.returned (.tuple #[.agg #[p,q],c])∧Below w w w':=by
 rcases h with⟨y1,m1,d1,y2,m2,d2,h1,ha,h2,hb,hab,hp,hq,rfl⟩ | ⟨h,rfl,rfl,rfl⟩ | ⟨h1,h2,h,rfl,rfl,rfl⟩
 ·exact zNz a b y1 m1 d1 y2 m2 d2 p q w hF h1 ha h2 hb hab hp hq
 ·exact zKt a b w hF h
 ·exact zI8 a b w hF h1 h2 h
theorem zMe:Ways_ac where
 by360 a b p q c w hF h:=zQ7 a b p q c w hF h
 by365 a b p q c w hF h:=zQ8 a b p q c w hF h
 byyears a b p q c w hF h:=zKs a b p q c w hF h
end Go.Proofs.YtpfgdfpaoldhcaaGreatDoor
