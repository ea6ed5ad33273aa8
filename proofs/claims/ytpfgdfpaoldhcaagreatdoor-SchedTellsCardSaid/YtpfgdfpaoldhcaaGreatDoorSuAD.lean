/- Several texts in one: CRefB, CShown, MoRef. -/
import Derived.Test.YtpfgdfpaoldhcaaGreatDoorSuAC
set_option maxHeartbeats 8000000
set_option maxRecDepth 100000
set_option linter.unusedVariables false
set_option linter.unusedSimpArgs false
namespace Go.Proofs.YtpfgdfpaoldhcaaGreatDoor
open Go.RowKit
theorem zLt (y m d:Int) (w:World):Calls Tryz.prog 51 #[.agg #[y,m,d]] w fun e w'=>
  e=.returned (.tuple #[(nN y m d),(nE y m d)])∧Below w w w':=by
 have H:=Held.start w
 by_cases hm:may y m d
 ·obtain⟨e1,e2⟩:=zEa hm
  rw[e1,e2]
  have hb:=(zFp y m d).2 hm
  have bd:=zAd y m d hm
  have C1:=zh (fun v=>zNe y m d v)
  rw[hb] at C1
  obtain⟨m1,m2,m3,m4,m5,m6⟩:=hm
  have C2:=zh (fun v=>zHt y v m1 zo)
  have C3:=zh (fun k v=>zBu y k v)
  have u1:=zHz y m1 zo
  have hn:nb y m d=ah y+am y m+d:=rfl
  have HN:=zh hn
  have d31:d≤31:=by have:=zAh y m;omega
  obtain⟨a,HA⟩:∃a,Hid (ah y=a):=⟨_,zh rfl⟩
  rw[HA.out] at u1 C2 HN
  clear hn m6 bd
  go_enter Tryz.func51,Tryz.ntmps51
  replace H:=H.triple w.heap.size y m d 86 rfl
  go_wp2_with fail
  with_reducible refine (C1.out _).mono ?_
  rintro e w1 ⟨rfl,hb1⟩
  replace H:=H.below hb1
  clear hb1
  have HK:=H.old
  obtain⟨c0,c1,c2⟩:=H.cells3 w.heap.size
  clear H
  go_wp2
  go_quiet ((go_at_call 74;with_reducible exact zAt (C2.out _)))
  go_wp2
  go_loop [5,6] (fun n i=>∃b:Int,1≤b∧b≤m∧i=.int .i64 b∧n=.int .i64 (a+d+am y b)) (fun _ i=>(m-intOf i).toNat)
  case atStart=>exact⟨1,zo,m3,rfl,by rw[zFl];simp⟩
  case round=>
   obtain⟨b,b1,b2,rfl,rfl⟩:=hrel
   by_cases hb:b<m
   ·have st:=zh (zE4 y b b1 zo)
    have k1:=zJ1 y b
    have k2:=zAh y b
    obtain⟨A,HB⟩:∃A,Hid (am y b=A):=⟨_,zh rfl⟩
    rw[HB.out] at k1 st ⊢
    go_wp2_with fail
    with_reducible refine (C3.out _ _).mono ?_
    rintro e w1 ⟨rfl,rfl⟩
    obtain⟨l,HC⟩:∃l,Hid (ln y b=l):=⟨_,zh rfl⟩
    rw[HC.out] at k2 st ⊢
    go_wp2
    go_round
    case rel=>exact⟨b+1,zo,zo,rfl,by rw[st.out];simp only[Value.int.injEq,true_and];omega⟩
    case measure=>simp[intOf];omega
   ·have e:b=m:=zo
    subst e
    have e2:a+d+am y b=nb y b d:=by rw[HN.out];omega
    rw[e2]
    go_wp2
    go_ret2
    exact⟨rfl,zA7 HK _⟩
 ·obtain⟨e1,e2⟩:=n_no hm
  rw[e1,e2]
  have hb:=(zN4 y m d).2 hm
  have C1:=zh (fun v=>zNe y m d v)
  rw[hb] at C1
  clear hb hm
  go_enter Tryz.func51,Tryz.ntmps51
  replace H:=H.triple w.heap.size y m d 86 rfl
  go_wp2_with fail
  with_reducible refine (C1.out _).mono ?_
  exact zqt4r
theorem zqcrk {P:Prop} (h:P:=by
 go_enter Tryz.func60,Tryz.ntmps60
 go_wp2
 exact bodyPost_ret (v:=.tuple #[.agg #[(0:Int),(0:Int),(0:Int)],(3:Int)]) (by simp[results,Tryz.results60,go_sem]) rfl ⟨rfl,D _ _ _ _⟩):P:=h
theorem zA5 (n y m d e:Int) (w:World) (hd:zAf n y m d e):Calls Tryz.prog 60 #[n] w fun e' w'=>
  e'=.returned (.tuple #[.agg #[y,m,d],e])∧Below w w w':=by
 have D:∀(w:World) (a b c:Value),Below w w (w.alloc (.cells #[a,b,c] 86)):=fun w _ _ _=>(Below.refl _ _).alloc (Nat.le_refl _) _
 rcases hd with⟨hm,hn,rfl⟩ | ⟨ho,rfl,rfl,rfl,rfl⟩
 ·have iy:=zBq y m d hm
  have bd:=zAd y m d hm
  rw[hn] at bd
  obtain⟨m1,m2,m3,m4,m5,m6⟩:=hm
  have hn2:ah y+am y m+d=n:=hn
  have C1:=zh (fun k v h1 h2=>zHt k v h1 h2)
  have C2:=zh (fun k v=>zBu y k v)
  have st:=zD6 y
  have FA:=zh (show ah y<n∧n≤ah (y+1)∧d=n-ah y-am y m∧d≤ln y m by omega)
  clear iy hn hn2 m6 st
  have u1:=zHz y m1 zo
  go_enter Tryz.func60,Tryz.ntmps60
  go_wp2
  go_loop [4,5] (fun i j=>∃lo hi:Int,1≤lo∧lo<hi∧hi≤10000∧i=.int .i64 lo∧j=.int .i64 hi∧ah lo<n∧n≤ah hi) (fun i j=>(intOf j-intOf i).toNat)
  case atStart=>exact⟨1,10000,zo,zo,zo,rfl,rfl,by rw[zPt];omega,by rw[zMg];omega⟩
  case round=>
   obtain⟨lo,hi,l1,l2,l3,rfl,rfl,g1,g2⟩:=hrel
   by_cases hg:1<hi-lo
   ·obtain⟨k,HA⟩:∃k,Hid ((lo+hi)/2=k):=⟨_,zh rfl⟩
    have k1:lo<k∧k<hi:=by rw[←HA.out];omega
    have G:=zh (show ah lo<n∧n≤ah hi from⟨g1,g2⟩)
    clear g1 g2
    go_wp2_with fail
    rw[HA.out]
    with_reducible refine (C1.out _ _ zo zo).mono ?_
    rintro e w1 ⟨rfl,rfl⟩
    obtain⟨A,HB⟩:∃A,Hid (ah k=A):=⟨_,zh rfl⟩
    rw[HB.out]
    by_cases hA:A<n
    ·go_wp2
     go_round
     case rel=>exact⟨k,hi,zo,zo,l3,rfl,rfl,by rw[HB.out];exact hA,G.out.2⟩
     case measure=>simp[intOf];omega
    ·go_wp2
     go_round
     case rel=>exact⟨lo,k,l1,zo,zo,rfl,rfl,G.out.1,by rw[HB.out];omega⟩
     case measure=>simp[intOf];omega
   ·have e:hi=lo+1:=zo
    subst e
    have e:lo=y:=by
     obtain⟨f1,f2,-,-⟩:=FA.out
     by_cases a:lo<y
     ·have:=zKn (lo+1) y zo;omega
     ·by_cases b:y<lo
      ·have:=zKn (y+1) lo zo;omega
      ·omega
    subst e
    clear g1 g2 l1 l2 l3
    obtain⟨-,f2,f3,f4⟩:=FA.out
    have FB:=zh (show d=n-ah lo-am lo m∧d≤ln lo m from⟨f3,f4⟩)
    clear f2 f3 f4
    go_wp2_with fail
    with_reducible refine (C1.out _ _ zo zo).mono ?_
    rintro e w1 ⟨rfl,rfl⟩
    obtain⟨A,HB⟩:∃A,Hid (ah lo=A):=⟨_,zh rfl⟩
    rw[HB.out] at FB u1 ⊢
    go_wp2
    go_loop [7,8] (fun l i=>∃b:Int,1≤b∧b≤m∧i=.int .i64 b∧l=.int .i64 (n-A-am lo b)) (fun _ i=>(m-intOf i).toNat)
    case atStart=>exact⟨1,zo,m3,rfl,by rw[zFl];simp⟩
    case round=>
     obtain⟨b,b1,b2,rfl,rfl⟩:=hrel
     have k1:=zJ1 lo b
     have k2:=zAh lo b
     obtain⟨L,HC⟩:∃L,Hid (n-A-am lo b=L):=⟨_,zh rfl⟩
     obtain⟨l,HD⟩:∃l,Hid (ln lo b=l):=⟨_,zh rfl⟩
     have k5 : -5000000≤L∧L≤5000000:=by rw[←HC.out];omega
     rw[HC.out]
     by_cases hb:b<m
     ·have st:=zh (zE4 lo b b1 zo)
      have k4:l<L:=by
       rw[←HD.out,←HC.out]
       have:=am_lt lo b m b1 hb zo
       have:=FB.out.1
       omega
      rw[HD.out] at k2
      clear k1
      go_wp2_with fail
      with_reducible refine (C2.out _ _).mono ?_
      rintro e w1 ⟨rfl,rfl⟩
      rw[HD.out]
      go_wp2_with fail
      with_reducible refine (C2.out _ _).mono ?_
      rintro e w1 ⟨rfl,rfl⟩
      rw[HD.out]
      go_wp2
      go_round
      case rel=>exact⟨b+1,zo,zo,rfl,by rw[st.out,←HC.out,←HD.out];simp only[Value.int.injEq,true_and];omega⟩
      case measure=>simp[intOf];omega
     ·have e:b=m:=zo
      subst e
      have k4:L=d:=by rw[←HC.out];exact FB.out.1.symm
      subst k4
      have k6:L≤l:=by rw[←HD.out];exact FB.out.2
      rw[HD.out] at k2
      clear k1
      go_wp2_with fail
      with_reducible refine (C2.out _ _).mono ?_
      rintro e w1 ⟨rfl,rfl⟩
      rw[HD.out]
      go_wp2
      exact bodyPost_ret (v:=.tuple #[.agg #[lo,b,.int .i64 L],(0:Int)]) (by simp[results,Tryz.results60,go_sem]) rfl ⟨rfl,D _ _ _ _⟩
 ·by_cases h:n<1
  ·exact zqcrk
  ·have h2:3652059<n:=zo
   exact zqcrk
theorem zRi (y m l:Int) (w:World) (hL:Lens w) (h:ln y m=l):Calls Tryz.prog 167 #[y,m] w fun e w'=>e=.returned l∧Below w w w':=by
 subst h;exact Calls.same (zBt y m w hL)
theorem zCc (y m d n c:Int) (w:World) (hL:Lens w) (h:nN y m d=n∧nE y m d=c):Calls Tryz.prog 145 #[.agg #[y,m,d]] w fun e w'=>e=.returned (.tuple #[n,c])∧Below w w w':=by
 obtain⟨rfl,rfl⟩:=h;exact zHq y m d w hL
theorem zFe (y m l:Int) (w:World) (h:ln y m=l):Calls Tryz.prog 75 #[y,m] w fun e w'=>e=.returned l∧Below w w w':=by
 subst h;exact Calls.same (zBu y m w)
theorem zB9 (y m d n c:Int) (w:World) (h:nN y m d=n∧nE y m d=c):Calls Tryz.prog 51 #[.agg #[y,m,d]] w fun e w'=>e=.returned (.tuple #[n,c])∧Below w w w':=by
 obtain⟨rfl,rfl⟩:=h;exact zLt y m d w
theorem zAr (n k:Int) (w:World) (h:wk n=k):Calls Tryz.prog 38 #[n] w fun e w'=>e=.returned k∧Below w w w':=by
 subst h;exact Calls.same (zDi n w)
theorem rlast_in (n y m d:Int) (b:Bool) (w:World) (h:may y m d) (hn:nb y m d=n) (hb:decide (d=ln y m)=b) :
  Calls Tryz.prog 68 #[n] w fun e' w'=>e'=.returned b∧Below w w w':=by
 have H:=Held.start w
 have O1:Hid (zAf n y m d 0):=zh (Or.inl ⟨h,hn,rfl⟩)
 obtain⟨l,HB⟩:∃l,Hid (ln y m=l):=⟨_,zh rfl⟩
 have C1:=zh (fun v=>zBu y m v)
 rw[HB.out] at hb C1
 clear h hn
 have hb2:(d==l)=b:=by rw[←hb,Bool.eq_iff_iff];simp
 subst hb2
 go_enter Tryz.func68,Tryz.ntmps68
 go_wp2_with fail
 revert H
 with_reducible refine zG (fun _=>zA5 n y m d 0 _ O1.out) ?_
 intro w1 H
 go_wp2
 replace H:=(H.triple w1 y m d 86 rfl)
 obtain⟨cc0,cc1,cc2⟩:=H.cells3 w1
 have lc:=H.lt w1 0 y i0_
 have HK:=H.old
 clear H
 go_quiet ((go_at_call 75;with_reducible exact zAt (C1.out _)))
 go_wp2
 go_ret
 exact⟨zs,zA7 HK _⟩
theorem zqq9b {P:Prop} (h:P:=by
 go_wp2_with fail
 replace H:=(H.triple w1 (0:Int) (0:Int) (0:Int) 86 rfl)
 go_ret
 exact⟨rfl,H.old⟩):P:=h
theorem zT5 (n:Int) (w:World) (h:n<1∨3652059<n) :
  Calls Tryz.prog 68 #[n] w fun e' w'=>e'=.returned false∧Below w w w':=by
 have H:=Held.start w
 have O1:Hid (zAf n 0 0 0 3):=zh (Or.inr ⟨h,rfl,rfl,rfl,rfl⟩)
 clear h
 go_enter Tryz.func68,Tryz.ntmps68
 go_wp2_with fail
 revert H
 with_reducible refine zG (fun _=>zA5 n 0 0 0 3 _ O1.out) ?_
 intro w1 H
 exact zqq9b
theorem zAn (n:Int) (b:Bool) (w:World) (h:zB6 n b):Calls Tryz.prog 68 #[n] w fun e' w'=>e'=.returned b∧Below w w w':=by
 rcases h with⟨y,m,d,h1,h2,rfl⟩ | ⟨h,rfl⟩
 ·exact rlast_in n y m d _ w h1 h2 rfl
 ·exact zT5 n w h
theorem zq0b4 {P:Prop} (h:P:=by
 by_cases hm:M'+1>12
 ·go_wp2
  go_round
  case rel=>exact⟨j-1,Y'+1,1,rfl,rfl,rfl,zo,zo,zo,zo,zo⟩
  case measure=>simp[intOf];omega
 ·go_wp2
  go_round
  case rel=>exact⟨j-1,Y',M'+1,rfl,rfl,rfl,zo,zo,zo,zo,zo⟩
  case measure=>simp[intOf];omega):P:=h
theorem zq198 {P:Prop} (h:P:=by
 by_cases hm:U-1<1
 ·go_wp2
  go_round
  case rel=>exact⟨i+1,V-1,12,rfl,rfl,rfl,zo,zo,zo,zo,zo⟩
  case measure=>simp[intOf];omega
 ·go_wp2
  go_round
  case rel=>exact⟨i+1,V,U-1,rfl,rfl,rfl,zo,zo,zo,zo,zo⟩
  case measure=>simp[intOf];omega):P:=h
theorem zq4fg {P:Prop} (h:P:=by
 rintro e w9 ⟨rfl,hb9⟩
 go_wp2
 go_ret2
 exact⟨rfl,(HK.trans (hb8.mono HK.size)).trans (hb9.mono (Nat.le_trans HK.size hb8.size))⟩):P:=h
theorem zq2cy {P:Prop} (h:P:=by
 obtain⟨j,Y',M',rfl,rfl,rfl,q1,q2,q3,q4,q5⟩:=hrel
 by_cases hj:j>0
 ·exact zq0b4
 ·go_wp2
  go_loop [1,11,12] (fun a b c=>∃j Y' M':Int,a=.int .i64 j∧b=.int .i64 Y'∧c=.int .i64 M'∧1≤M'∧M'≤12∧-200000≤j∧j≤0∧12*Y'+M'+j=T) (fun a _ _=>(-(intOf a)).toNat)
  case atStart=>exact⟨j,Y',M',rfl,rfl,rfl,q1,q2,q3,zo,q5⟩
  case round=>
   clear hj q1 q2 q3 q4 q5
   obtain⟨i,V,U,rfl,rfl,rfl,q1,q2,q3,q4,q5⟩:=hrel
   by_cases hj:i<0
   ·exact zq198
   ·obtain rfl:V=Y:=zo
    obtain rfl:U=M:=zo
    go_wp2_with fail
    with_reducible refine (C1.out _).mono ?_
    rintro e w8 ⟨rfl,hb8⟩
    have c0:=keep hb8 (zA0 cc0) cc0
    have c1:=keep hb8 (zA0 cc1) cc1
    have c2:=keep hb8 (zA0 cc2) cc2
    go_wp2_with fail
    with_reducible refine (zB9 V U q r 0 _ N1.out).mono ?_
    exact zq4fg):P:=h
theorem rmove_cut (n k y m d T Y M r:Int) (b l:Bool) (w:World) (h:may y m d) (hn:nb y m d=n) (hT:12*y+m+k=T) (k1 : -200000≤k) (k2:k≤200000) (h1:1≤Y) (h2:Y≤9999) (h3:1≤M) (h4:M≤12) (hM:12*Y+M=T) (hl:zB6 n l) (hq:ln Y M<d) (hr:nb Y M (ln Y M)=r) :
  Calls Tryz.prog 55 #[n,k,.bool b] w fun e' w'=>e'=.returned (.tuple #[r,(0:Int)])∧Below w w w':=by
 have H:=Held.start w
 have O1:Hid (zAf n y m d 0):=zh (Or.inl ⟨h,hn,rfl⟩)
 have d31:d≤31:=by have:=zAh y m;obtain⟨-,-,-,-,-,a6⟩:=h;omega
 obtain⟨q,HQ⟩:∃q,Hid (ln Y M=q):=⟨_,zh rfl⟩
 have C1:=zh (fun v=>zFe Y M q v HQ.out)
 rw[HQ.out] at hq
 have hl2:=zAh Y M
 have hl3:=zGr Y M h3 h4
 rw[HQ.out] at hl2 hl3
 have N1:Hid (nN Y M q=r∧nE Y M q=0):=zh (by
  rw[←hr];(try rw[HQ.out]);refine zEa ⟨h1,h2,h3,h4,?_,?_⟩ <;> (try rw[HQ.out]) <;> (obtain⟨-,-,-,-,a5,a6⟩:=h;omega))
 have L1:=zh hl
 clear hl
 obtain⟨y1,y2,m1,m2,d1,d2⟩:=h
 clear d2 hn hr
 go_enter Tryz.func55,Tryz.ntmps55
 go_wp2_with fail
 revert H
 with_reducible refine zG (fun _=>zA5 n y m d 0 _ O1.out) ?_
 intro w1 H
 go_wp2_with fail
 replace H:=(H.triple w1 y m d 86 rfl)
 revert H
 with_reducible refine zG (fun _=>zAn n l _ L1.out) ?_
 intro w2 H
 obtain⟨cc0,cc1,cc2⟩:=H.cells3 w1
 have lc:=H.lt w1 0 y i0_
 have HK:=H.old
 clear H
 go_wp2
 go_loop [1,11,12] (fun a b c=>∃j Y' M':Int,a=.int .i64 j∧b=.int .i64 Y'∧c=.int .i64 M'∧1≤M'∧M'≤12∧-200000≤j∧j≤200000∧12*Y'+M'+j=T) (fun a _ _=>(intOf a).toNat)
 case atStart=>exact⟨k,y,m,rfl,rfl,rfl,m1,m2,zo,zo,zo⟩
 case round=>
  exact zq2cy
theorem rmove_stay (n k y m d T Y M r:Int) (w:World) (h:may y m d) (hn:nb y m d=n) (hT:12*y+m+k=T) (k1 : -200000≤k) (k2:k≤200000) (h1:1≤Y) (h2:Y≤9999) (h3:1≤M) (h4:M≤12) (hM:12*Y+M=T) (hl:zB6 n true) (hq:d≤ln Y M) (hr:nb Y M (ln Y M)=r) :
  Calls Tryz.prog 55 #[n,k,true] w fun e' w'=>e'=.returned (.tuple #[r,(0:Int)])∧Below w w w':=by
 have H:=Held.start w
 have O1:Hid (zAf n y m d 0):=zh (Or.inl ⟨h,hn,rfl⟩)
 have d31:d≤31:=by have:=zAh y m;obtain⟨-,-,-,-,-,a6⟩:=h;omega
 obtain⟨q,HQ⟩:∃q,Hid (ln Y M=q):=⟨_,zh rfl⟩
 have C1:=zh (fun v=>zFe Y M q v HQ.out)
 rw[HQ.out] at hq
 have hl2:=zAh Y M
 have hl3:=zGr Y M h3 h4
 rw[HQ.out] at hl2 hl3
 have N1:Hid (nN Y M q=r∧nE Y M q=0):=zh (by
  rw[←hr];(try rw[HQ.out]);refine zEa ⟨h1,h2,h3,h4,?_,?_⟩ <;> (try rw[HQ.out]) <;> (obtain⟨-,-,-,-,a5,a6⟩:=h;omega))
 have L1:=zh hl
 clear hl
 obtain⟨y1,y2,m1,m2,d1,d2⟩:=h
 clear d2 hn hr
 go_enter Tryz.func55,Tryz.ntmps55
 go_wp2_with fail
 revert H
 with_reducible refine zG (fun _=>zA5 n y m d 0 _ O1.out) ?_
 intro w1 H
 go_wp2_with fail
 replace H:=(H.triple w1 y m d 86 rfl)
 revert H
 with_reducible refine zG (fun _=>zAn n true _ L1.out) ?_
 intro w2 H
 obtain⟨cc0,cc1,cc2⟩:=H.cells3 w1
 have lc:=H.lt w1 0 y i0_
 have HK:=H.old
 clear H
 go_wp2
 go_loop [1,11,12] (fun a b c=>∃j Y' M':Int,a=.int .i64 j∧b=.int .i64 Y'∧c=.int .i64 M'∧1≤M'∧M'≤12∧-200000≤j∧j≤200000∧12*Y'+M'+j=T) (fun a _ _=>(intOf a).toNat)
 case atStart=>exact⟨k,y,m,rfl,rfl,rfl,m1,m2,zo,zo,zo⟩
 case round=>
  exact zq2cy
theorem zqdca {P:Prop} (h:P:=by
 obtain⟨j,Y',M',rfl,rfl,rfl,q1,q2,q3,q4,q5⟩:=hrel
 by_cases hj:j>0
 ·exact zq0b4
 ·go_wp2
  go_loop [1,11,12] (fun a b c=>∃j Y' M':Int,a=.int .i64 j∧b=.int .i64 Y'∧c=.int .i64 M'∧1≤M'∧M'≤12∧-200000≤j∧j≤0∧12*Y'+M'+j=T) (fun a _ _=>(-(intOf a)).toNat)
  case atStart=>exact⟨j,Y',M',rfl,rfl,rfl,q1,q2,q3,zo,q5⟩
  case round=>
   clear hj q1 q2 q3 q4 q5
   obtain⟨i,V,U,rfl,rfl,rfl,q1,q2,q3,q4,q5⟩:=hrel
   by_cases hj:i<0
   ·exact zq198
   ·obtain rfl:V=Y:=zo
    obtain rfl:U=M:=zo
    go_wp2_with fail
    with_reducible refine (C1.out _).mono ?_
    rintro e w8 ⟨rfl,hb8⟩
    have c0:=keep hb8 (zA0 cc0) cc0
    have c1:=keep hb8 (zA0 cc1) cc1
    have c2:=keep hb8 (zA0 cc2) cc2
    go_wp2_with fail
    with_reducible refine (zB9 V U d r 0 _ N1.out).mono ?_
    exact zq4fg):P:=h
theorem rmove_same0 (n k y m d T Y M r:Int) (l:Bool) (w:World) (h:may y m d) (hn:nb y m d=n) (hT:12*y+m+k=T) (k1 : -200000≤k) (k2:k≤200000) (h1:1≤Y) (h2:Y≤9999) (h3:1≤M) (h4:M≤12) (hM:12*Y+M=T) (hl:zB6 n l) (hq:d≤ln Y M) (hr:nb Y M d=r) :
  Calls Tryz.prog 55 #[n,k,false] w fun e' w'=>e'=.returned (.tuple #[r,(0:Int)])∧Below w w w':=by
 have H:=Held.start w
 have O1:Hid (zAf n y m d 0):=zh (Or.inl ⟨h,hn,rfl⟩)
 have d31:d≤31:=by have:=zAh y m;obtain⟨-,-,-,-,-,a6⟩:=h;omega
 obtain⟨q,HQ⟩:∃q,Hid (ln Y M=q):=⟨_,zh rfl⟩
 have C1:=zh (fun v=>zFe Y M q v HQ.out)
 rw[HQ.out] at hq
 have hl2:=zAh Y M
 have hl3:=zGr Y M h3 h4
 rw[HQ.out] at hl2 hl3
 have N1:Hid (nN Y M d=r∧nE Y M d=0):=zh (by
  rw[←hr];(try rw[HQ.out]);refine zEa ⟨h1,h2,h3,h4,?_,?_⟩ <;> (try rw[HQ.out]) <;> (obtain⟨-,-,-,-,a5,a6⟩:=h;omega))
 have L1:=zh hl
 clear hl
 obtain⟨y1,y2,m1,m2,d1,d2⟩:=h
 clear d2 hn hr
 go_enter Tryz.func55,Tryz.ntmps55
 go_wp2_with fail
 revert H
 with_reducible refine zG (fun _=>zA5 n y m d 0 _ O1.out) ?_
 intro w1 H
 go_wp2_with fail
 replace H:=(H.triple w1 y m d 86 rfl)
 revert H
 with_reducible refine zG (fun _=>zAn n l _ L1.out) ?_
 intro w2 H
 obtain⟨cc0,cc1,cc2⟩:=H.cells3 w1
 have lc:=H.lt w1 0 y i0_
 have HK:=H.old
 clear H
 go_wp2
 go_loop [1,11,12] (fun a b c=>∃j Y' M':Int,a=.int .i64 j∧b=.int .i64 Y'∧c=.int .i64 M'∧1≤M'∧M'≤12∧-200000≤j∧j≤200000∧12*Y'+M'+j=T) (fun a _ _=>(intOf a).toNat)
 case atStart=>exact⟨k,y,m,rfl,rfl,rfl,m1,m2,zo,zo,zo⟩
 case round=>
  exact zqdca
theorem rmove_same1 (n k y m d T Y M r:Int) (w:World) (h:may y m d) (hn:nb y m d=n) (hT:12*y+m+k=T) (k1 : -200000≤k) (k2:k≤200000) (h1:1≤Y) (h2:Y≤9999) (h3:1≤M) (h4:M≤12) (hM:12*Y+M=T) (hl:zB6 n false) (hq:d≤ln Y M) (hr:nb Y M d=r) :
  Calls Tryz.prog 55 #[n,k,true] w fun e' w'=>e'=.returned (.tuple #[r,(0:Int)])∧Below w w w':=by
 have H:=Held.start w
 have O1:Hid (zAf n y m d 0):=zh (Or.inl ⟨h,hn,rfl⟩)
 have d31:d≤31:=by have:=zAh y m;obtain⟨-,-,-,-,-,a6⟩:=h;omega
 obtain⟨q,HQ⟩:∃q,Hid (ln Y M=q):=⟨_,zh rfl⟩
 have C1:=zh (fun v=>zFe Y M q v HQ.out)
 rw[HQ.out] at hq
 have hl2:=zAh Y M
 have hl3:=zGr Y M h3 h4
 rw[HQ.out] at hl2 hl3
 have N1:Hid (nN Y M d=r∧nE Y M d=0):=zh (by
  rw[←hr];(try rw[HQ.out]);refine zEa ⟨h1,h2,h3,h4,?_,?_⟩ <;> (try rw[HQ.out]) <;> (obtain⟨-,-,-,-,a5,a6⟩:=h;omega))
 have L1:=zh hl
 clear hl
 obtain⟨y1,y2,m1,m2,d1,d2⟩:=h
 clear d2 hn hr
 go_enter Tryz.func55,Tryz.ntmps55
 go_wp2_with fail
 revert H
 with_reducible refine zG (fun _=>zA5 n y m d 0 _ O1.out) ?_
 intro w1 H
 go_wp2_with fail
 replace H:=(H.triple w1 y m d 86 rfl)
 revert H
 with_reducible refine zG (fun _=>zAn n false _ L1.out) ?_
 intro w2 H
 obtain⟨cc0,cc1,cc2⟩:=H.cells3 w1
 have lc:=H.lt w1 0 y i0_
 have HK:=H.old
 clear H
 go_wp2
 go_loop [1,11,12] (fun a b c=>∃j Y' M':Int,a=.int .i64 j∧b=.int .i64 Y'∧c=.int .i64 M'∧1≤M'∧M'≤12∧-200000≤j∧j≤200000∧12*Y'+M'+j=T) (fun a _ _=>(intOf a).toNat)
 case atStart=>exact⟨k,y,m,rfl,rfl,rfl,m1,m2,zo,zo,zo⟩
 case round=>
  exact zqdca
theorem rmove_far (n k y m d T:Int) (w:World) (h:may y m d) (hn:nb y m d=n) (hT:12*y+m+k=T) (k1 : -200000≤k) (k2:k≤200000) (b l:Bool) (hl:zB6 n l) (hf:T<13∨120000<T) :
  Calls Tryz.prog 55 #[n,k,.bool b] w fun e' w'=>e'=.returned (.tuple #[(0:Int),(3:Int)])∧Below w w w':=by
 have H:=Held.start w
 have O1:Hid (zAf n y m d 0):=zh (Or.inl ⟨h,hn,rfl⟩)
 have L1:=zh hl
 obtain⟨y1,y2,m1,m2,d1,d2⟩:=h
 clear d2 hn hl
 go_enter Tryz.func55,Tryz.ntmps55
 go_wp2_with fail
 revert H
 with_reducible refine zG (fun _=>zA5 n y m d 0 _ O1.out) ?_
 intro w1 H
 go_wp2_with fail
 replace H:=(H.triple w1 y m d 86 rfl)
 revert H
 with_reducible refine zG (fun _=>zAn n l _ L1.out) ?_
 intro w2 H
 obtain⟨cc0,cc1,cc2⟩:=H.cells3 w1
 have lc:=H.lt w1 0 y i0_
 have HK:=H.old
 clear H
 go_wp2
 go_loop [1,11,12] (fun a b c=>∃j Y' M':Int,a=.int .i64 j∧b=.int .i64 Y'∧c=.int .i64 M'∧1≤M'∧M'≤12∧-200000≤j∧j≤200000∧12*Y'+M'+j=T) (fun a _ _=>(intOf a).toNat)
 case atStart=>exact⟨k,y,m,rfl,rfl,rfl,m1,m2,zo,zo,zo⟩
 case round=>
  obtain⟨j,Y',M',rfl,rfl,rfl,q1,q2,q3,q4,q5⟩:=hrel
  by_cases hj:j>0
  ·exact zq0b4
  ·go_wp2
   go_loop [1,11,12] (fun a b c=>∃j Y' M':Int,a=.int .i64 j∧b=.int .i64 Y'∧c=.int .i64 M'∧1≤M'∧M'≤12∧-200000≤j∧j≤0∧12*Y'+M'+j=T) (fun a _ _=>(-(intOf a)).toNat)
   case atStart=>exact⟨j,Y',M',rfl,rfl,rfl,q1,q2,q3,zo,q5⟩
   case round=>
    clear hj q1 q2 q3 q4 q5
    obtain⟨i,V,U,rfl,rfl,rfl,q1,q2,q3,q4,q5⟩:=hrel
    by_cases hj:i<0
    ·exact zq198
    ·by_cases hy:V<1
     ·go_wp2
      go_ret2
      exact⟨rfl,HK⟩
     ·have hy2:V>9999:=zo
      go_wp2
      go_ret2
      exact⟨rfl,HK⟩
theorem zqr3e {P:Prop} (h:P:=by
 have H:=Held.start w
 have O1:Hid (zAf n y m d 0):=zh (Or.inl ⟨h,hn,rfl⟩)
 clear h hn
 go_enter Tryz.func55,Tryz.ntmps55
 go_wp2_with fail
 revert H
 with_reducible refine zG (fun _=>zA5 n y m d 0 _ O1.out) ?_
 intro w1 H
 go_wp2_with fail
 replace H:=(H.triple w1 y m d 86 rfl)
 go_ret2
 exact⟨rfl,H.old⟩):P:=h
theorem rmove_big (n k y m d:Int) (b:Bool) (w:World) (h:may y m d) (hn:nb y m d=n) (hk:k>200000) :
  Calls Tryz.prog 55 #[n,k,b] w fun e' w'=>e'=.returned (.tuple #[(0:Int),(3:Int)])∧Below w w w':=by
 exact zqr3e
theorem rmove_less (n k y m d:Int) (b:Bool) (w:World) (h:may y m d) (hn:nb y m d=n) (hk:k < -200000) :
  Calls Tryz.prog 55 #[n,k,b] w fun e' w'=>e'=.returned (.tuple #[(0:Int),(3:Int)])∧Below w w w':=by
 exact zqr3e
theorem zq3y8 {P:Prop} (h:P:=by
 intro w1 H
 go_wp2_with fail
 replace H:=(H.triple w1 (0:Int) (0:Int) (0:Int) 86 rfl)
 go_ret2
 exact⟨rfl,H.old⟩):P:=h
theorem rmove_out (n k:Int) (b:Bool) (w:World) (h:n<1∨3652059<n) :
  Calls Tryz.prog 55 #[n,k,b] w fun e' w'=>e'=.returned (.tuple #[(0:Int),(3:Int)])∧Below w w w':=by
 have H:=Held.start w
 have O1:Hid (zAf n 0 0 0 3):=zh (Or.inr ⟨h,rfl,rfl,rfl,rfl⟩)
 clear h
 go_enter Tryz.func55,Tryz.ntmps55
 go_wp2_with fail
 revert H
 with_reducible refine zG (fun _=>zA5 n 0 0 0 3 _ O1.out) ?_
 exact zq3y8
theorem rmove_any (n k r e:Int) (b:Bool) (w:World) (h:zD3 n k b r e):Calls Tryz.prog 55 #[n,k,b] w fun e' w'=>e'=.returned (.tuple #[r,e])∧Below w w w':=by
 rcases h with⟨y,m,d,Y,M,h,hn,h1,h2,h3,h4,hM,hr,rfl⟩ | ⟨⟨y,m,d,h,hn,hk⟩,rfl,rfl⟩ | ⟨h,rfl,rfl⟩
 ·have h':=h
  obtain⟨y1,y2,m1,m2,d1,d2⟩:=h'
  by_cases hq:ln Y M<d
  ·refine rmove_cut n k y m d _ Y M r b _ w h hn hM.symm zo zo h1 h2 h3 h4 rfl (zAy y m d h hn rfl) hq ?_
   unfold dm at hr
   split at hr
   ·exact hr
   ·rw[Int.min_eq_right zo] at hr;exact hr
  ·cases b
   ·refine rmove_same0 n k y m d _ Y M r _ w h hn hM.symm zo zo h1 h2 h3 h4 rfl (zAy y m d h hn rfl) zo ?_
    unfold dm at hr
    rw[if_neg zs,Int.min_eq_left zo] at hr;exact hr
   ·by_cases hd:d=ln y m
    ·refine rmove_stay n k y m d _ Y M r w h hn hM.symm zo zo h1 h2 h3 h4 rfl (zAy y m d h hn (by simpa using hd)) zo ?_
     unfold dm at hr
     rw[if_pos ⟨rfl,hd⟩] at hr;exact hr
    ·refine rmove_same1 n k y m d _ Y M r w h hn hM.symm zo zo h1 h2 h3 h4 rfl (zAy y m d h hn (by simpa using hd)) zo ?_
     unfold dm at hr
     rw[if_neg (by simp[hd]),Int.min_eq_left zo] at hr;exact hr
 ·by_cases k1:k>200000
  ·exact rmove_big n k y m d b w h hn k1
  ·by_cases k2:k < -200000
   ·exact rmove_less n k y m d b w h hn k2
   ·exact rmove_far n k y m d _ w h hn rfl zo zo b _ (zAy y m d h hn rfl) hk
 ·exact rmove_out n k b w h
end Go.Proofs.YtpfgdfpaoldhcaaGreatDoor
