/- Several texts in one: RuWays. -/
import Derived.Test.YtpfgdfpaoldhcaaGreatDoorSuAR
import Derived.Test.YtpfgdfpaoldhcaaGreatDoorSuAT
set_option maxHeartbeats 8000000
set_option maxRecDepth 100000
set_option linter.unusedVariables false
set_option linter.unusedSimpArgs false
namespace Go.Proofs.YtpfgdfpaoldhcaaGreatDoor
open Go.RowKit
theorem win_any (n lo hi:Int) (w:World):Calls Tryz.prog 218 #[n,lo,hi] w fun e w'=>e=.returned (.bool (decide (lo≤n∧n≤hi)))∧w=w':=by
 go_enter Tryz.func218,Tryz.ntmps218
 go_wp2
 all_goals (go_ret;refine⟨retB ?_,rfl⟩;rw[Bool.eq_iff_iff];(try simp only[ge_iff_le,Bool.and_eq_true,decide_eq_true_eq,Bool.false_eq_true,false_iff,true_iff]);omega)
theorem zB2 (n lo hi:Int) (b:Bool) (w:World) (h:decide (lo≤n∧n≤hi)=b):Calls Tryz.prog 218 #[n,lo,hi] w fun e w'=>e=.returned b∧w=w':=by
 subst h;exact win_any n lo hi w
theorem len_eq (y m l:Int) (w:World) (hL:Lens w) (h:ln y m=l):Calls Tryz.prog 167 #[y,m] w fun e w'=>e=.returned l∧w=w':=by
 subst h;exact zBt y m w hL
theorem wk_eq (n k:Int) (w:World) (h:wk n=k):Calls Tryz.prog 162 #[n] w fun e w'=>e=.returned k∧w=w':=by
 subst h;exact zNl n w
theorem zqxsn {P:Prop} (h:P:=by
 clear hb hn
 go_enter Tryz.func225,Tryz.ntmps225
 go_wp2_with fail
 with_reducible refine (C.out _ hL).mono ?_
 rintro e w1 ⟨rfl,hb⟩
 go_wp2
 go_ret2
 exact⟨rfl,hb⟩):P:=h
theorem zIy (y m d n:Int) (b:Bool) (w:World) (hL:Lens w) (hb:mb y m d=b) (hn:nN y m d=n):Calls Tryz.prog 225 #[y,m,d] w fun e w'=>e=.returned (.tuple #[n,b])∧Below w w w':=by
 cases b
 ·have C:=zh (fun v h=>zCc y m d n 3 v h ⟨hn,by unfold nE;rw[hb];rfl⟩)
  exact zqxsn
 ·have C:=zh (fun v h=>zCc y m d n 0 v h ⟨hn,by unfold nE;rw[hb];rfl⟩)
  exact zqxsn
theorem zqcob {P:Prop} (h:P:=by
 go_enter Tryz.func212,Tryz.ntmps212
 go_wp2_with fail
 with_reducible refine (C.out _).mono ?_
 rintro e w1 ⟨rfl,rfl⟩
 go_wp2
 go_ret2
 exact⟨rfl,rfl⟩):P:=h
theorem zUl (n k:Int) (b:Bool) (w:World) (hb:decide (1≤n∧n≤3652059)=b) (hk:(if b=true then n else 0)=k):Calls Tryz.prog 212 #[n] w fun e w'=>e=.returned (.tuple #[k,b])∧w=w':=by
 have C:=zh (fun v=>zB2 n 1 3652059 b v hb)
 clear hb
 cases b
 ·obtain rfl:0=k:=hk
  exact zqcob
 ·obtain rfl:n=k:=hk
  exact zqcob
theorem zqxby {P:Prop} (h:P:=by
 clear hk
 go_enter Tryz.func213,Tryz.ntmps213
 go_wp2_with fail
 with_reducible refine (C.out _).mono ?_
 rintro e w1 ⟨rfl,rfl⟩
 go_wp2
 go_ret
 first | exact⟨rfl,rfl⟩ | exact⟨retI zo,rfl⟩):P:=h
theorem zq3nn {P:Prop} (h:P:=by
 obtain rfl:n=k:=by simpa [h5,h6] using hk
 have g5:(x==5)=false:=by simpa using h5
 have g6:(x==6)=false:=by simpa using h6
 exact zqxby):P:=h
theorem zUr (n s k:Int) (w:World) (hn:1≤n∧n≤3652059) (hs:0≤s∧s≤2) (hk:shd s n=k):Calls Tryz.prog 213 #[n,s] w fun e w'=>e=.returned k∧w=w':=by
 obtain⟨n1,n2⟩:=hn
 obtain⟨x,hx⟩:∃x,wk n=x:=⟨_,rfl⟩
 have C:=zh (fun v=>wk_eq n x v hx)
 unfold shd at hk
 rw[hx] at hk
 clear hx
 have h3:s=0∨s=1∨s=2:=zo
 clear hs
 rcases h3 with rfl | rfl | rfl
 ·obtain rfl:n=k:=by simpa using hk
  go_enter Tryz.func213,Tryz.ntmps213
  go_wp2
  go_ret
  exact⟨rfl,rfl⟩
 ·have h5:x=5∨x=6∨(x≠5∧x≠6):=zo
  rcases h5 with rfl | rfl | ⟨h5,h6⟩
  ·obtain rfl:n-1=k:=by simpa using hk
   exact zqxby
  ·obtain rfl:n+1=k:=by simpa using hk
   exact zqxby
  ·exact zq3nn
 ·have h5:x=5∨x=6∨(x≠5∧x≠6):=zo
  rcases h5 with rfl | rfl | ⟨h5,h6⟩
  ·obtain rfl:n+2=k:=by simpa using hk
   exact zqxby
  ·obtain rfl:n+1=k:=by simpa using hk
   exact zqxby
  ·exact zq3nn
theorem zqzsr {P:Prop} (h:P:=by
 obtain⟨c0,c1,c2,c3,c4,c5,c6,c7⟩:=H.cells8 w
 have lc:=H.lt w 0 k i0_
 go_wp2_with fail
 revert H
 with_reducible refine zG (fun H=>C.out _ (H.lens i16_)) ?_
 intro w1 H
 go_wp2
 go_ret2
 exact⟨rfl,H.old⟩):P:=h
theorem zUm (k m d q o s f t y n:Int) (b:Bool) (w:World) (hL:FactsU w) (hb:mb y m d=b) (hn:nN y m d=n):Calls Tryz.prog 222 #[.agg #[k,m,d,q,o,s,f,t],y] w fun e w'=>e=.returned (.tuple #[n,b])∧Below w w w':=by
 have hL:Lens w:=hL
 have H:=(Held.start w).add (f:=zAa) hL
 have C:=zh (fun v h=>zIy y m d n b v h hb hn)
 clear hb hn hL
 go_enter Tryz.func222,Tryz.ntmps222
 replace H:=H.oct w k m d q o s f t 266 rfl
 exact zqzsr
theorem unth_is (k m d q o s f t y n:Int) (b:Bool) (w:World) (hL:FactsU w) (hm:1≤m∧m≤12) (hd:0≤d∧d≤6) (hq:1≤q∧q≤5) (hy:1≤y∧y≤9999) (hb:mb y m (nthD y m d q)=b) (hn:nN y m (nthD y m d q)=n):Calls Tryz.prog 223 #[.agg #[k,m,d,q,o,s,f,t],y] w fun e w'=>e=.returned (.tuple #[n,b])∧Below w w w':=by
 have hL:Lens w:=hL
 have H:=(Held.start w).add (f:=zAa) hL
 have m1:may y m 1:=⟨hy.1,hy.2,hm.1,hm.2,zd,by have:=zGr y m hm.1 hm.2;omega⟩
 have e1:=zEa m1
 obtain⟨A,hA⟩:∃A,nb y m 1=A:=⟨_,rfl⟩
 have bA:=zAd _ _ _ m1
 obtain⟨x,hx⟩:∃x,wk A=x:=⟨_,rfl⟩
 have bx:0≤x∧x≤6:=by rw[←hx];unfold wk;omega
 have hD:nthD y m d q=1+(d-x)%7+7*(q-1):=by unfold nthD;rw[hA,hx]
 rw[hD] at hb hn
 rw[hA] at e1 bA
 have C1:=zh (fun v h=>zIy y m 1 A true v h ((zFp _ _ _).2 m1) e1.1)
 have C2:=zh (fun v=>wk_eq A x v hx)
 have C3:=zh (fun v h=>zIy y m (1+(d-x)%7+7*(q-1)) n b v h hb hn)
 obtain⟨d1,d2⟩:=hd
 obtain⟨q1,q2⟩:=hq
 obtain⟨x1,x2⟩:=bx
 clear hb hn hL hD hA hx e1 m1
 go_enter Tryz.func223,Tryz.ntmps223
 replace H:=H.oct w k m d q o s f t 266 rfl
 obtain⟨c0,c1,c2,c3,c4,c5,c6,c7⟩:=H.cells8 w
 have lc:=H.lt w 0 k i0_
 go_wp2_with fail
 with_reducible refine (C1.out _ (H.lens i16_)).mono ?_
 rintro e w1 ⟨rfl,hb⟩
 clear c0 c1 c2 c3 c4 c5 c6 c7 lc
 replace H:=H.below hb
 clear hb
 obtain⟨c0,c1,c2,c3,c4,c5,c6,c7⟩:=H.cells8 w
 have lc:=H.lt w 0 k i0_
 go_wp2_with fail
 go_quiet (first | (go_at_call 162;with_reducible exact zAt (C2.out _)))
 go_wp2_with fail
 replace H:=H.drewN nq
 revert H
 with_reducible refine zG (fun H=>C3.out _ (H.lens i16_)) ?_
 intro w2 H
 go_wp2
 go_ret2
 exact⟨rfl,H.old⟩
theorem ulast_is (k m d q o s f t y n:Int) (b:Bool) (w:World) (hL:FactsU w) (hm:1≤m∧m≤12) (hd:0≤d∧d≤6) (hy:1≤y∧y≤9999) (hb:b=true) (hn:nb y m (zEp y m d)=n):Calls Tryz.prog 221 #[.agg #[k,m,d,q,o,s,f,t],y] w fun e w'=>e=.returned (.tuple #[n,b])∧Below w w w':=by
 have hL:Lens w:=hL
 have H:=(Held.start w).add (f:=zAa) hL
 subst hb
 have l28:=zGr y m hm.1 hm.2
 obtain⟨l,hl⟩:∃l,ln y m=l:=⟨_,rfl⟩
 rw[hl] at l28
 have m1:may y m l:=⟨hy.1,hy.2,hm.1,hm.2,zo,zo⟩
 have e1:=zEa m1
 obtain⟨A,hA⟩:∃A,nb y m l=A:=⟨_,rfl⟩
 have bA:=zAd _ _ _ m1
 obtain⟨x,hx⟩:∃x,wk A=x:=⟨_,rfl⟩
 have bx:0≤x∧x≤6:=by rw[←hx];unfold wk;omega
 have hD:A-(x-d)%7=n:=by
  have:nb y m (zEp y m d)=nb y m l-(x-d)%7:=by unfold zEp;rw[hl,hA,hx,←hA];unfold nb;omega
  rw[←hn,this,hA]
 rw[hA] at e1 bA
 have C0:=zh (fun v h=>zRi y m l v h hl)
 have C1:=zh (fun v h=>zIy y m l A true v h ((zFp _ _ _).2 m1) e1.1)
 have C2:=zh (fun v=>wk_eq A x v hx)
 obtain⟨d1,d2⟩:=hd
 obtain⟨x1,x2⟩:=bx
 have HD:=zh hD
 clear hn hL hD hA hx e1 m1 hl l28
 go_enter Tryz.func221,Tryz.ntmps221
 replace H:=(H.oct w k m d q o s f t 266 rfl)
 obtain⟨cr0,cr1,cr2,cr3,cr4,cr5,cr6,cr7⟩:=H.cells8 w
 have lr:=H.lt w 0 k i0_
 go_wp2_with fail
 have KS:Hid (∀w':World,Held w [.cell w 0 k,.cell w 1 m,.cell w 2 d,.cell w 3 q,.cell w 4 o,.cell w 5 s,.cell w 6 f,.cell w 7 t,.free w 0,.free w 1,.free w 2,.free w 3,.free w 4,.free w 5,.free w 6,.free w 7,zAa] w'→w'.cell? ⟨w,0,none⟩=some (.int .i64 k)∧w'.cell? ⟨w,1,none⟩=some (.int .i64 m)∧w'.cell? ⟨w,2,none⟩=some (.int .i64 d)∧w'.cell? ⟨w,3,none⟩=some (.int .i64 q)∧w'.cell? ⟨w,4,none⟩=some (.int .i64 o)∧w'.cell? ⟨w,5,none⟩=some (.int .i64 s)∧w'.cell? ⟨w,6,none⟩=some (.int .i64 f)∧w'.cell? ⟨w,7,none⟩=some (.int .i64 t)∧Held w [.cell w 0 k,.cell w 1 m,.cell w 2 d,.cell w 3 q,.cell w 4 o,.cell w 5 s,.cell w 6 f,.cell w 7 t,.free w 0,.free w 1,.free w 2,.free w 3,.free w 4,.free w 5,.free w 6,.free w 7,zAa] w'):=zh (fun _ h=>⟨h.cell w 0 k i0_,h.cell w 1 m i1_,h.cell w 2 d i2_,h.cell w 3 q i3_,h.cell w 4 o i4_,h.cell w 5 s i5_,h.cell w 6 f i6_,h.cell w 7 t i7_,h⟩)
 have KH:Hid (∀w':World,w'.cell? ⟨w,0,none⟩=some (.int .i64 k)∧w'.cell? ⟨w,1,none⟩=some (.int .i64 m)∧w'.cell? ⟨w,2,none⟩=some (.int .i64 d)∧w'.cell? ⟨w,3,none⟩=some (.int .i64 q)∧w'.cell? ⟨w,4,none⟩=some (.int .i64 o)∧w'.cell? ⟨w,5,none⟩=some (.int .i64 s)∧w'.cell? ⟨w,6,none⟩=some (.int .i64 f)∧w'.cell? ⟨w,7,none⟩=some (.int .i64 t)∧Held w [.cell w 0 k,.cell w 1 m,.cell w 2 d,.cell w 3 q,.cell w 4 o,.cell w 5 s,.cell w 6 f,.cell w 7 t,.free w 0,.free w 1,.free w 2,.free w 3,.free w 4,.free w 5,.free w 6,.free w 7,zAa] w'→Held w [.cell w 0 k,.cell w 1 m,.cell w 2 d,.cell w 3 q,.cell w 4 o,.cell w 5 s,.cell w 6 f,.cell w 7 t,.free w 0,.free w 1,.free w 2,.free w 3,.free w 4,.free w 5,.free w 6,.free w 7,zAa] w'):=zh (fun _ h=>h.2.2.2.2.2.2.2.2)
 have KL:Hid (∀w':World,w'.cell? ⟨w,0,none⟩=some (.int .i64 k)∧w'.cell? ⟨w,1,none⟩=some (.int .i64 m)∧w'.cell? ⟨w,2,none⟩=some (.int .i64 d)∧w'.cell? ⟨w,3,none⟩=some (.int .i64 q)∧w'.cell? ⟨w,4,none⟩=some (.int .i64 o)∧w'.cell? ⟨w,5,none⟩=some (.int .i64 s)∧w'.cell? ⟨w,6,none⟩=some (.int .i64 f)∧w'.cell? ⟨w,7,none⟩=some (.int .i64 t)∧Held w [.cell w 0 k,.cell w 1 m,.cell w 2 d,.cell w 3 q,.cell w 4 o,.cell w 5 s,.cell w 6 f,.cell w 7 t,.free w 0,.free w 1,.free w 2,.free w 3,.free w 4,.free w 5,.free w 6,.free w 7,zAa] w'→Lens w'):=zh (fun w' h=>(KH.out w' h).lens i16_)
 have HS:=zh (KS.out _ H.drew)
 go_region_held3 (fun w'=>w'.cell? ⟨w,0,none⟩=some (.int .i64 k)∧w'.cell? ⟨w,1,none⟩=some (.int .i64 m)∧w'.cell? ⟨w,2,none⟩=some (.int .i64 d)∧w'.cell? ⟨w,3,none⟩=some (.int .i64 q)∧w'.cell? ⟨w,4,none⟩=some (.int .i64 o)∧w'.cell? ⟨w,5,none⟩=some (.int .i64 s)∧w'.cell? ⟨w,6,none⟩=some (.int .i64 f)∧w'.cell? ⟨w,7,none⟩=some (.int .i64 t)∧Held w [.cell w 0 k,.cell w 1 m,.cell w 2 d,.cell w 3 q,.cell w 4 o,.cell w 5 s,.cell w 6 f,.cell w 7 t,.free w 0,.free w 1,.free w 2,.free w 3,.free w 4,.free w 5,.free w 6,.free w 7,zAa] w')
  (first | exact HS.out | (refine KS.out _ (Held.below (KH.out _ ?_) hb);assumption) | (refine KS.out _ (Held.alloc (KH.out _ ?_) _);assumption))
  (first
   | (go_at_call 225;(with_reducible refine (C1.out _ (KL.out _ za)).mono ?_);rintro e w' ⟨rfl,hb⟩)
   | (go_at_call 167;(with_reducible refine (C0.out _ (KL.out _ za)).mono ?_);rintro e w' ⟨rfl,hb⟩))
 all_goals (have H:=KH.out _ za)
 all_goals clear KS KL KH HS
 all_goals go_wp2_with fail
 all_goals (have c0:=H.cell w 0 k i0_)
 all_goals (have c1:=H.cell w 1 m i1_)
 all_goals (have c2:=H.cell w 2 d i2_)
 all_goals (have c3:=H.cell w 3 q i3_)
 all_goals (have c4:=H.cell w 4 o i4_)
 all_goals (have c5:=H.cell w 5 s i5_)
 all_goals (have c6:=H.cell w 6 f i6_)
 all_goals (have c7:=H.cell w 7 t i7_)
 all_goals (have lc:=H.lt w 0 k i0_)
 all_goals go_quiet (first | (go_at_call 162;with_reducible exact zAt (C2.out _)))
 all_goals go_wp2
 all_goals (replace H:=H.drewN nq)
 all_goals go_ret2
 all_goals exact⟨by (rw[HD.out];rfl),H.old⟩
theorem zPj (k m d q o s f t y n:Int) (b:Bool) (w:World) (hL:FactsU w) (hy:1≤y∧y≤9999) (ho : -100≤o∧o≤250) (hb:decide (1≤east y+o∧east y+o≤3652059)=b) (hn:(if b=true then east y+o else 0)=n):Calls Tryz.prog 224 #[.agg #[k,m,d,q,o,s,f,t],y] w fun e w'=>e=.returned (.tuple #[n,b])∧Below w w w':=by
 have hL:Lens w:=hL
 have H:=(Held.start w).add (f:=zAa) hL
 obtain⟨E,hE⟩:∃E,east y=E:=⟨_,rfl⟩
 have C1:=zh (fun v (h:Lens v)=>eday_any y E 0 v h (ea_val hy.1 hy.2 hE))
 have bE:1≤E∧E≤4000000:=by
  have a:=ea_bd y
  have c:=zAd y 3 1 (zDf y 1 hy.1 hy.2 zd zd)
  omega
 rw[hE] at hb hn
 have C2:=zh (fun v=>zUl (E+o) n b v hb hn)
 obtain⟨o1,o2⟩:=ho
 clear hb hn hL hE
 go_enter Tryz.func224,Tryz.ntmps224
 replace H:=H.oct w k m d q o s f t 266 rfl
 go_wp2_with fail
 revert H
 with_reducible refine zG (fun H=>C1.out _ (H.lens i16_)) ?_
 intro w1 H
 obtain⟨c0,c1,c2,c3,c4,c5,c6,c7⟩:=H.cells8 w
 have lc:=H.lt w 0 k i0_
 go_wp2_with fail
 with_reducible refine (C2.out _).mono ?_
 rintro e w2 ⟨rfl,rfl⟩
 go_wp2
 go_ret2
 exact⟨rfl,H.old⟩
def utl (k:Int) (b:Bool):Value:=if b=true then (if k=0 then .func (.func 222) #[] #[] else if k=1 then .func (.func 223) #[] #[] else if k=2 then .func (.func 221) #[] #[] else .func (.func 224) #[] #[]) else .nilFunc
theorem utell_a (k m d q o s f t:Int) (w:World) (hL:Lens w) (h:decide (0≤s∧s≤2)=false):Calls Tryz.prog 217 #[.agg #[k,m,d,q,o,s,f,t]] w fun e w'=>e=.returned (.tuple #[.nilFunc,false])∧Below w w w':=by
 have H:=(Held.start w).add (f:=zAa) hL
 have W1:=zh (fun v=>zB2 s 0 2 false v h)
 clear h
 go_enter Tryz.func217,Tryz.ntmps217
 replace H:=H.oct w k m d q o s f t 76 rfl
 obtain⟨c0,c1,c2,c3,c4,c5,c6,c7⟩:=H.cells8 w
 have lc:=H.lt w 0 k i0_
 go_wp2_with fail
 with_reducible refine (W1.out _).mono ?_
 rintro e v ⟨rfl,rfl⟩
 go_wp2
 go_ret2
 exact⟨rfl,H.old⟩
theorem zqr1u {P:Prop} (h:P:=by
 go_enter Tryz.func217,Tryz.ntmps217
 replace H:=H.oct w k m d q o s f t 76 rfl
 obtain⟨c0,c1,c2,c3,c4,c5,c6,c7⟩:=H.cells8 w
 have lc:=H.lt w 0 k i0_
 go_wp2_with fail
 with_reducible refine (W1.out _).mono ?_
 rintro e v ⟨rfl,rfl⟩
 go_wp2_with fail
 with_reducible refine (W2.out _).mono ?_
 rintro e v ⟨rfl,rfl⟩
 go_wp2
 go_ret2
 exact⟨rfl,H.old⟩):P:=h
theorem utell_b (k m d q o s f t:Int) (w:World) (hL:Lens w) (hs:decide (0≤s∧s≤2)=true) (h:decide (1≤f∧f≤t)=false):Calls Tryz.prog 217 #[.agg #[k,m,d,q,o,s,f,t]] w fun e w'=>e=.returned (.tuple #[.nilFunc,false])∧Below w w w':=by
 have H:=(Held.start w).add (f:=zAa) hL
 have W1:=zh (fun v=>zB2 s 0 2 true v hs)
 have W2:=zh (fun v=>zB2 f 1 t false v h)
 clear h hs
 exact zqr1u
theorem zqpuy {P:Prop} (h:P:=by
 have H:=(Held.start w).add (f:=zAa) hL
 have W1:=zh (fun v=>zB2 s 0 2 true v hs)
 have W2:=zh (fun v=>zB2 f 1 t true v hf)
 clear hf hs
 exact zqr1u):P:=h
theorem utell_c (k m d q o s f t:Int) (w:World) (hL:Lens w) (hs:decide (0≤s∧s≤2)=true) (hf:decide (1≤f∧f≤t)=true) (h:9999<t):Calls Tryz.prog 217 #[.agg #[k,m,d,q,o,s,f,t]] w fun e w'=>e=.returned (.tuple #[.nilFunc,false])∧Below w w w':=by
 exact zqpuy
theorem utell_x (k m d q o s f t:Int) (w:World) (hL:Lens w) (hs:decide (0≤s∧s≤2)=true) (hf:decide (1≤f∧f≤t)=true) (h9:t≤9999) (h0:(k==0)=false) (h1:(k==1)=false) (h2:(k==2)=false) (h3:(k==3)=false):Calls Tryz.prog 217 #[.agg #[k,m,d,q,o,s,f,t]] w fun e w'=>e=.returned (.tuple #[.nilFunc,false])∧Below w w w':=by
 exact zqpuy
theorem utell_0 (k m d q o s f t:Int) (b:Bool) (w:World) (hL:Lens w) (hs:decide (0≤s∧s≤2)=true) (hf:decide (1≤f∧f≤t)=true) (h9:t≤9999) (hb:decide (1≤d∧d≤ln 2000 m)=b):Calls Tryz.prog 217 #[.agg #[(0:Int),m,d,q,o,s,f,t]] w fun e w'=>e=.returned (.tuple #[utl 0 b,b])∧Below w w w':=by
 have H:=(Held.start w).add (f:=zAa) hL
 have W1:=zh (fun v=>zB2 s 0 2 true v hs)
 have W2:=zh (fun v=>zB2 f 1 t true v hf)
 obtain⟨l,hl⟩:∃l,ln 2000 m=l:=⟨_,rfl⟩
 rw[hl] at hb
 have C0:=zh (fun v h=>len_eq 2000 m l v h hl)
 have W3:=zh (fun v=>zB2 d 1 l b v hb)
 clear hf hs hb hl
 go_enter Tryz.func217,Tryz.ntmps217
 replace H:=H.oct w (0:Int) m d q o s f t 76 rfl
 obtain⟨c0,c1,c2,c3,c4,c5,c6,c7⟩:=H.cells8 w
 have lc:=H.lt w 0 (0:Int) i0_
 go_wp2_with fail
 with_reducible refine (W1.out _).mono ?_
 rintro e v ⟨rfl,rfl⟩
 go_wp2_with fail
 with_reducible refine (W2.out _).mono ?_
 rintro e v ⟨rfl,rfl⟩
 go_wp2_with fail
 have HK:=H.old
 have L0:=zh (fun n=>(H.drewN n).lens i16_)
 clear H
 go_quiet (first | (go_at_call 167;with_reducible exact zAt (C0.out _ (L0.out _))) | (go_at_call 218;with_reducible exact zAt (W3.out _)))
 cases b
 ·go_wp2
  go_ret2
  exact⟨rfl,zA7 HK _⟩
 ·go_wp2
  go_ret2
  exact⟨rfl,zA7 HK _⟩
theorem zq2x0 {P:Prop} (h:P:=by
 rintro e v ⟨rfl,rfl⟩
 go_wp2_with fail
 with_reducible refine (W4.out _).mono ?_
 rintro e v ⟨rfl,rfl⟩
 cases b1
 ·obtain rfl:false=b:=by simpa using HB.out
  go_wp2
  go_ret2
  exact⟨rfl,H.old⟩
 ·go_wp2_with fail
  with_reducible refine (W5.out _).mono ?_
  rintro e v ⟨rfl,rfl⟩
  obtain rfl:b2=b:=by simpa using HB.out
  cases b2
  ·go_wp2
   go_ret2
   exact⟨rfl,H.old⟩
  ·go_wp2
   go_ret2
   exact⟨rfl,H.old⟩):P:=h
theorem utell_2 (k m d q o s f t:Int) (b:Bool) (w:World) (hL:Lens w) (hs:decide (0≤s∧s≤2)=true) (hf:decide (1≤f∧f≤t)=true) (h9:t≤9999) (hb:(decide (1≤m∧m≤12)&&decide (0≤d∧d≤6))=b):Calls Tryz.prog 217 #[.agg #[(2:Int),m,d,q,o,s,f,t]] w fun e w'=>e=.returned (.tuple #[utl 2 b,b])∧Below w w w':=by
 have H:=(Held.start w).add (f:=zAa) hL
 have W1:=zh (fun v=>zB2 s 0 2 true v hs)
 have W2:=zh (fun v=>zB2 f 1 t true v hf)
 obtain⟨b1,hb1⟩:∃c,decide (1≤m∧m≤12)=c:=⟨_,rfl⟩
 obtain⟨b2,hb2⟩:∃c,decide (0≤d∧d≤6)=c:=⟨_,rfl⟩
 rw[hb1,hb2] at hb
 have HB:=zh hb
 have W4:=zh (fun v=>zB2 m 1 12 b1 v hb1)
 have W5:=zh (fun v=>zB2 d 0 6 b2 v hb2)
 clear hf hs hb hb1 hb2
 go_enter Tryz.func217,Tryz.ntmps217
 replace H:=H.oct w (2:Int) m d q o s f t 76 rfl
 obtain⟨c0,c1,c2,c3,c4,c5,c6,c7⟩:=H.cells8 w
 have lc:=H.lt w 0 (2:Int) i0_
 go_wp2_with fail
 with_reducible refine (W1.out _).mono ?_
 rintro e v ⟨rfl,rfl⟩
 go_wp2_with fail
 with_reducible refine (W2.out _).mono ?_
 exact zq2x0
theorem utell_1n (k m d q o s f t:Int) (w:World) (hL:Lens w) (hs:decide (0≤s∧s≤2)=true) (hf:decide (1≤f∧f≤t)=true) (h9:t≤9999) (hq:decide (1≤q∧q≤5)=false):Calls Tryz.prog 217 #[.agg #[(1:Int),m,d,q,o,s,f,t]] w fun e w'=>e=.returned (.tuple #[.nilFunc,false])∧Below w w w':=by
 have H:=(Held.start w).add (f:=zAa) hL
 have W1:=zh (fun v=>zB2 s 0 2 true v hs)
 have W2:=zh (fun v=>zB2 f 1 t true v hf)
 have W3:=zh (fun v=>zB2 q 1 5 false v hq)
 clear hf hs hq
 go_enter Tryz.func217,Tryz.ntmps217
 replace H:=H.oct w (1:Int) m d q o s f t 76 rfl
 obtain⟨c0,c1,c2,c3,c4,c5,c6,c7⟩:=H.cells8 w
 have lc:=H.lt w 0 (1:Int) i0_
 go_wp2_with fail
 with_reducible refine (W1.out _).mono ?_
 rintro e v ⟨rfl,rfl⟩
 go_wp2_with fail
 with_reducible refine (W2.out _).mono ?_
 rintro e v ⟨rfl,rfl⟩
 go_wp2_with fail
 with_reducible refine (W3.out _).mono ?_
 rintro e v ⟨rfl,rfl⟩
 go_wp2
 go_ret2
 exact⟨rfl,H.old⟩
theorem utell_1 (k m d q o s f t:Int) (b:Bool) (w:World) (hL:Lens w) (hs:decide (0≤s∧s≤2)=true) (hf:decide (1≤f∧f≤t)=true) (h9:t≤9999) (hq:decide (1≤q∧q≤5)=true) (hb:(decide (1≤m∧m≤12)&&decide (0≤d∧d≤6))=b):Calls Tryz.prog 217 #[.agg #[(1:Int),m,d,q,o,s,f,t]] w fun e w'=>e=.returned (.tuple #[utl 1 b,b])∧Below w w w':=by
 have H:=(Held.start w).add (f:=zAa) hL
 have W1:=zh (fun v=>zB2 s 0 2 true v hs)
 have W2:=zh (fun v=>zB2 f 1 t true v hf)
 obtain⟨b1,hb1⟩:∃c,decide (1≤m∧m≤12)=c:=⟨_,rfl⟩
 obtain⟨b2,hb2⟩:∃c,decide (0≤d∧d≤6)=c:=⟨_,rfl⟩
 rw[hb1,hb2] at hb
 have HB:=zh hb
 have W4:=zh (fun v=>zB2 m 1 12 b1 v hb1)
 have W5:=zh (fun v=>zB2 d 0 6 b2 v hb2)
 have W3:=zh (fun v=>zB2 q 1 5 true v hq)
 clear hf hs hb hb1 hb2 hq
 go_enter Tryz.func217,Tryz.ntmps217
 replace H:=H.oct w (1:Int) m d q o s f t 76 rfl
 obtain⟨c0,c1,c2,c3,c4,c5,c6,c7⟩:=H.cells8 w
 have lc:=H.lt w 0 (1:Int) i0_
 go_wp2_with fail
 with_reducible refine (W1.out _).mono ?_
 rintro e v ⟨rfl,rfl⟩
 go_wp2_with fail
 with_reducible refine (W2.out _).mono ?_
 rintro e v ⟨rfl,rfl⟩
 go_wp2_with fail
 with_reducible refine (W3.out _).mono ?_
 exact zq2x0
theorem utell_3 (k m d q o s f t:Int) (b:Bool) (w:World) (hL:Lens w) (hs:decide (0≤s∧s≤2)=true) (hf:decide (1≤f∧f≤t)=true) (h9:t≤9999) (hb:decide (-100≤o∧o≤250)=b):Calls Tryz.prog 217 #[.agg #[(3:Int),m,d,q,o,s,f,t]] w fun e w'=>e=.returned (.tuple #[utl 3 b,b])∧Below w w w':=by
 have H:=(Held.start w).add (f:=zAa) hL
 have W1:=zh (fun v=>zB2 s 0 2 true v hs)
 have W2:=zh (fun v=>zB2 f 1 t true v hf)
 have W3:=zh (fun v=>zB2 o (-100) 250 b v hb)
 clear hf hs hb
 go_enter Tryz.func217,Tryz.ntmps217
 replace H:=H.oct w (3:Int) m d q o s f t 76 rfl
 obtain⟨c0,c1,c2,c3,c4,c5,c6,c7⟩:=H.cells8 w
 have lc:=H.lt w 0 (3:Int) i0_
 go_wp2_with fail
 with_reducible refine (W1.out _).mono ?_
 rintro e v ⟨rfl,rfl⟩
 go_wp2_with fail
 with_reducible refine (W2.out _).mono ?_
 rintro e v ⟨rfl,rfl⟩
 go_wp2_with fail
 with_reducible refine (W3.out _).mono ?_
 rintro e v ⟨rfl,rfl⟩
 cases b
 ·go_wp2
  go_ret2
  exact⟨rfl,H.old⟩
 ·go_wp2
  go_ret2
  exact⟨rfl,H.old⟩
theorem zF4 (k m d q o s f t:Int) (b:Bool) (w:World) (hL:Lens w) (hb:Ru.mb ⟨k,m,d,q,o,s,f,t⟩=b):Calls Tryz.prog 217 #[.agg #[k,m,d,q,o,s,f,t]] w fun e w'=>e=.returned (.tuple #[utl k b,b])∧Below w w w':=by
 by_cases hs:0≤s∧s≤2
 ·by_cases hf:1≤f∧f≤t
  ·by_cases h9:t≤9999
   ·have gs:=decide_eq_true hs
    have gf:=decide_eq_true hf
    have h3:1≤f∧f≤t∧t≤9999:=⟨hf.1,hf.2,h9⟩
    by_cases k0:k=0
    ·subst k0
     refine utell_0 0 _ _ _ _ _ _ _ b w hL gs gf h9 ?_
     rw[←hb];unfold Ru.mb;rw[decide_eq_decide]
     refine⟨fun a=>⟨⟨zs,zs⟩,hs,h3,fun c=>?_,fun _=>?_,fun _=>a,fun c=>?_,fun c=>?_⟩,fun a=>a.2.2.2.2.2.1 rfl⟩
     ·simp at c
     ·by_cases g:1≤m∧m≤12
      ·exact g
      ·have:=zN1 2000 m zo;simp only at *;omega
     ·simp at c
     ·simp at c
    ·by_cases k1:k=1
     ·subst k1
      by_cases hq:1≤q∧q≤5
      ·refine utell_1 1 _ _ _ _ _ _ _ b w hL gs gf h9 (decide_eq_true hq) ?_
       rw[←hb,Bool.eq_iff_iff];unfold Ru.mb
       simp only[Bool.and_eq_true,decide_eq_true_eq]
       exact⟨fun a=>⟨⟨zs,zs⟩,hs,h3,fun c=>by simp at c,fun _=>a.1,fun c=>by simp at c,fun _=>a.2,fun _=>hq⟩,fun a=>⟨a.2.2.2.2.1 zs,a.2.2.2.2.2.2.1 zs⟩⟩
      ·obtain rfl:false=b:=by
        rw[←hb];exact (decide_eq_false (fun a=>hq (a.2.2.2.2.2.2.2 rfl))).symm
       exact utell_1n 1 _ _ _ _ _ _ _ w hL gs gf h9 (decide_eq_false hq)
     ·by_cases k2:k=2
      ·subst k2
       refine utell_2 2 _ _ _ _ _ _ _ b w hL gs gf h9 ?_
       rw[←hb,Bool.eq_iff_iff];unfold Ru.mb
       simp only[Bool.and_eq_true,decide_eq_true_eq]
       exact⟨fun a=>⟨⟨zs,zs⟩,hs,h3,fun c=>by simp at c,fun _=>a.1,fun c=>by simp at c,fun _=>a.2,fun c=>by simp at c⟩,fun a=>⟨a.2.2.2.2.1 zs,a.2.2.2.2.2.2.1 zs⟩⟩
      ·by_cases k3:k=3
       ·subst k3
        refine utell_3 3 _ _ _ _ _ _ _ b w hL gs gf h9 ?_
        rw[←hb];unfold Ru.mb;rw[decide_eq_decide]
        exact⟨fun a=>⟨⟨zs,zs⟩,hs,h3,fun _=>a,fun c=>absurd rfl c,fun c=>by simp at c,fun c=>by simp at c,fun c=>by simp at c⟩,fun a=>a.2.2.2.1 rfl⟩
       ·obtain rfl:false=b:=by
         rw[←hb];exact (decide_eq_false (fun a=>by have:=a.1;simp only at this;omega)).symm
        exact utell_x k _ _ _ _ _ _ _ w hL gs gf h9 (by simpa using k0) (by simpa using k1) (by simpa using k2) (by simpa using k3)
   ·obtain rfl:false=b:=by
     rw[←hb];exact (decide_eq_false (fun a=>h9 a.2.2.1.2.2)).symm
    exact utell_c k _ _ _ _ _ _ _ w hL (decide_eq_true hs) (decide_eq_true hf) zo
  ·obtain rfl:false=b:=by
    rw[←hb];exact (decide_eq_false (fun a=>hf ⟨a.2.2.1.1,a.2.2.1.2.1⟩)).symm
   exact utell_b k _ _ _ _ _ _ _ w hL (decide_eq_true hs) (decide_eq_false hf)
 ·obtain rfl:false=b:=by
   rw[←hb];exact (decide_eq_false (fun a=>hs a.2.1)).symm
  exact utell_a k _ _ _ _ _ _ _ w hL (decide_eq_false hs)
theorem zUk (k m d q o s f t y n:Int) (b:Bool) (w:World) (hL:Lens w) (hM:Ru.mb ⟨k,m,d,q,o,s,f,t⟩=true) (hy:y<f∨t<y):Calls Tryz.prog 211 #[.agg #[k,m,d,q,o,s,f,t],y] w fun e w'=>e=.returned (.tuple #[(0:Int),false])∧Below w w w':=by
 have H:=(Held.start w).add (f:=zAa) hL
 have C:=zh (fun v h=>zF4 k m d q o s f t true v h hM)
 obtain⟨fv,hfv⟩:∃fv,utl k true=fv:=⟨_,rfl⟩
 rw[hfv] at C
 clear hfv
 clear hL hM
 go_enter Tryz.func211,Tryz.ntmps211
 replace H:=H.oct w k m d q o s f t 76 rfl
 obtain⟨c0,c1,c2,c3,c4,c5,c6,c7⟩:=H.cells8 w
 have lc:=H.lt w 0 k i0_
 go_wp2_with fail
 with_reducible refine (C.out _ (H.lens i16_)).mono ?_
 rintro e w1 ⟨rfl,hb⟩
 clear c0 c1 c2 c3 c4 c5 c6 c7 lc
 replace H:=H.below hb
 clear hb
 obtain⟨c0,c1,c2,c3,c4,c5,c6,c7⟩:=H.cells8 w
 have lc:=H.lt w 0 k i0_
 go_wp2
 all_goals first | (exfalso;omega) | skip
 all_goals (go_ret2;exact⟨rfl,H.old⟩)
theorem zqsa7 {P:Prop} (h:P:=by
 go_wp2_with fail
 revert H
 with_reducible refine zG (fun H=>K.out _ (H.lens i16_)) ?_
 intro w2 H
 go_wp2
 go_ret2
 exact⟨rfl,H.old⟩):P:=h
theorem zUg (k m d q o s f t y n:Int) (b:Bool) (w:World) (hL:Lens w) (hM:Ru.mb ⟨0,m,d,q,o,s,f,t⟩=true) (h1:f≤y) (h2:y≤t) (K:∀v:World,Lens v→Calls Tryz.prog 222 #[.agg #[(0:Int),m,d,q,o,s,f,t],y] v fun e v'=>e=.returned (.tuple #[n,b])∧Below v v v'):Calls Tryz.prog 211 #[.agg #[(0:Int),m,d,q,o,s,f,t],y] w fun e w'=>e=.returned (.tuple #[n,b])∧Below w w w':=by
 have H:=(Held.start w).add (f:=zAa) hL
 have K:=zh K
 have C:=zh (fun v h=>zF4 0 m d q o s f t true v h hM)
 have C:Hid (∀v:World,Lens v→Calls Tryz.prog 217 #[.agg #[(0:Int),m,d,q,o,s,f,t]] v fun e v'=>e=.returned (.tuple #[.func (.func 222) #[] #[],true])∧Below v v v'):=C
 clear hL hM
 go_enter Tryz.func211,Tryz.ntmps211
 replace H:=H.oct w (0:Int) m d q o s f t 76 rfl
 obtain⟨c0,c1,c2,c3,c4,c5,c6,c7⟩:=H.cells8 w
 have lc:=H.lt w 0 (0:Int) i0_
 go_wp2_with fail
 with_reducible refine (C.out _ (H.lens i16_)).mono ?_
 rintro e w1 ⟨rfl,hb⟩
 clear c0 c1 c2 c3 c4 c5 c6 c7 lc
 replace H:=H.below hb
 clear hb
 obtain⟨c0,c1,c2,c3,c4,c5,c6,c7⟩:=H.cells8 w
 have lc:=H.lt w 0 (0:Int) i0_
 exact zqsa7
theorem zUh (k m d q o s f t y n:Int) (b:Bool) (w:World) (hL:Lens w) (hM:Ru.mb ⟨1,m,d,q,o,s,f,t⟩=true) (h1:f≤y) (h2:y≤t) (K:∀v:World,Lens v→Calls Tryz.prog 223 #[.agg #[(1:Int),m,d,q,o,s,f,t],y] v fun e v'=>e=.returned (.tuple #[n,b])∧Below v v v'):Calls Tryz.prog 211 #[.agg #[(1:Int),m,d,q,o,s,f,t],y] w fun e w'=>e=.returned (.tuple #[n,b])∧Below w w w':=by
 have H:=(Held.start w).add (f:=zAa) hL
 have K:=zh K
 have C:=zh (fun v h=>zF4 1 m d q o s f t true v h hM)
 have C:Hid (∀v:World,Lens v→Calls Tryz.prog 217 #[.agg #[(1:Int),m,d,q,o,s,f,t]] v fun e v'=>e=.returned (.tuple #[.func (.func 223) #[] #[],true])∧Below v v v'):=C
 clear hL hM
 go_enter Tryz.func211,Tryz.ntmps211
 replace H:=H.oct w (1:Int) m d q o s f t 76 rfl
 obtain⟨c0,c1,c2,c3,c4,c5,c6,c7⟩:=H.cells8 w
 have lc:=H.lt w 0 (1:Int) i0_
 go_wp2_with fail
 with_reducible refine (C.out _ (H.lens i16_)).mono ?_
 rintro e w1 ⟨rfl,hb⟩
 clear c0 c1 c2 c3 c4 c5 c6 c7 lc
 replace H:=H.below hb
 clear hb
 obtain⟨c0,c1,c2,c3,c4,c5,c6,c7⟩:=H.cells8 w
 have lc:=H.lt w 0 (1:Int) i0_
 exact zqsa7
theorem zUi (k m d q o s f t y n:Int) (b:Bool) (w:World) (hL:Lens w) (hM:Ru.mb ⟨2,m,d,q,o,s,f,t⟩=true) (h1:f≤y) (h2:y≤t) (K:∀v:World,Lens v→Calls Tryz.prog 221 #[.agg #[(2:Int),m,d,q,o,s,f,t],y] v fun e v'=>e=.returned (.tuple #[n,b])∧Below v v v'):Calls Tryz.prog 211 #[.agg #[(2:Int),m,d,q,o,s,f,t],y] w fun e w'=>e=.returned (.tuple #[n,b])∧Below w w w':=by
 have H:=(Held.start w).add (f:=zAa) hL
 have K:=zh K
 have C:=zh (fun v h=>zF4 2 m d q o s f t true v h hM)
 have C:Hid (∀v:World,Lens v→Calls Tryz.prog 217 #[.agg #[(2:Int),m,d,q,o,s,f,t]] v fun e v'=>e=.returned (.tuple #[.func (.func 221) #[] #[],true])∧Below v v v'):=C
 clear hL hM
 go_enter Tryz.func211,Tryz.ntmps211
 replace H:=H.oct w (2:Int) m d q o s f t 76 rfl
 obtain⟨c0,c1,c2,c3,c4,c5,c6,c7⟩:=H.cells8 w
 have lc:=H.lt w 0 (2:Int) i0_
 go_wp2_with fail
 with_reducible refine (C.out _ (H.lens i16_)).mono ?_
 rintro e w1 ⟨rfl,hb⟩
 clear c0 c1 c2 c3 c4 c5 c6 c7 lc
 replace H:=H.below hb
 clear hb
 obtain⟨c0,c1,c2,c3,c4,c5,c6,c7⟩:=H.cells8 w
 have lc:=H.lt w 0 (2:Int) i0_
 exact zqsa7
theorem zUj (k m d q o s f t y n:Int) (b:Bool) (w:World) (hL:Lens w) (hM:Ru.mb ⟨3,m,d,q,o,s,f,t⟩=true) (h1:f≤y) (h2:y≤t) (K:∀v:World,Lens v→Calls Tryz.prog 224 #[.agg #[(3:Int),m,d,q,o,s,f,t],y] v fun e v'=>e=.returned (.tuple #[n,b])∧Below v v v'):Calls Tryz.prog 211 #[.agg #[(3:Int),m,d,q,o,s,f,t],y] w fun e w'=>e=.returned (.tuple #[n,b])∧Below w w w':=by
 have H:=(Held.start w).add (f:=zAa) hL
 have K:=zh K
 have C:=zh (fun v h=>zF4 3 m d q o s f t true v h hM)
 have C:Hid (∀v:World,Lens v→Calls Tryz.prog 217 #[.agg #[(3:Int),m,d,q,o,s,f,t]] v fun e v'=>e=.returned (.tuple #[.func (.func 224) #[] #[],true])∧Below v v v'):=C
 clear hL hM
 go_enter Tryz.func211,Tryz.ntmps211
 replace H:=H.oct w (3:Int) m d q o s f t 76 rfl
 obtain⟨c0,c1,c2,c3,c4,c5,c6,c7⟩:=H.cells8 w
 have lc:=H.lt w 0 (3:Int) i0_
 go_wp2_with fail
 with_reducible refine (C.out _ (H.lens i16_)).mono ?_
 rintro e w1 ⟨rfl,hb⟩
 clear c0 c1 c2 c3 c4 c5 c6 c7 lc
 replace H:=H.below hb
 clear hb
 obtain⟨c0,c1,c2,c3,c4,c5,c6,c7⟩:=H.cells8 w
 have lc:=H.lt w 0 (3:Int) i0_
 exact zqsa7
theorem zNk (k m d q o s f t y n:Int) (b:Bool) (w:World) (hL:FactsU w) (hM:Ru.May ⟨k,m,d,q,o,s,f,t⟩) (hn:Ru.bas ⟨k,m,d,q,o,s,f,t⟩ y=n) (hb:decide (0<n)=b):Calls Tryz.prog 211 #[.agg #[.int .i64 k,m,d,q,o,s,f,t],y] w fun e w'=>e=.returned (.tuple #[n,b])∧Below w w w':=by
 have hM1:=ru_yes hM
 obtain⟨hk,hs,hf,ho,hm,h0,h12,hq⟩:=id hM
 simp only at hk hs hf ho hm h0 h12 hq
 by_cases hy:y<f∨t<y
 ·obtain rfl:0=n:=by rw[←hn,zI6 hy]
  obtain rfl:false=b:=by rw[←hb];rfl
  exact zUk k m d q o s f t y 0 false w hL hM1 hy
 ·have y1:f≤y:=zo
  have y2:y≤t:=zo
  have yy:1≤y∧y≤9999:=zo
  by_cases k3:k=3
  ·subst k3
   refine zUj 3 m d q o s f t y n b w hL hM1 y1 y2 (fun v h=>zPj 3 m d q o s f t y n b v h yy (ho rfl) ?_ ?_)
   ·rw[←hb,←hn,decide_eq_decide]
    by_cases he:1≤east y+o∧east y+o≤3652059
    ·rw[zFx rfl ⟨y1,y2⟩ he];exact⟨fun _=>by simp only;omega,fun _=>he⟩
    ·rw[zFy rfl ⟨y1,y2⟩ he];exact⟨fun a=>absurd a he,fun a=>by omega⟩
   ·rw[←hb,←hn]
    by_cases he:1≤east y+o∧east y+o≤3652059
    ·rw[zFx rfl ⟨y1,y2⟩ he,if_pos (decide_eq_true (by simp only;omega))]
    ·rw[zFy rfl ⟨y1,y2⟩ he,if_neg zs]
  ·have hm1:=hm k3
   clear hm
   obtain⟨D,hD⟩:∃D,Ru.dd ⟨k,m,d,q,o,s,f,t⟩ y=D:=⟨_,rfl⟩
   have D1:1≤D:=by rw[←hD];exact dd_one hM k3
   have E:mb y m D=b∧nN y m D=n:=by
    by_cases c:D≤ln y m
    ·have a:=zG9 (r:=⟨k,m,d,q,o,s,f,t⟩) (y:=y) hM k3 ⟨y1,y2⟩ (by rw[hD];exact c)
     rw[hD] at a
     have p:=zAd _ _ _ a.2
     have nn:=zEa a.2
     rw[hn] at a
     simp only at a p nn
     refine⟨?_,by rw[nn.1,a.1]⟩
     rw[(zFp _ _ _).2 a.2,←hb,a.1]
     exact (decide_eq_true zo).symm
    ·have a:=zI5 (r:=⟨k,m,d,q,o,s,f,t⟩) (y:=y) k3 ⟨y1,y2⟩ (by rw[hD];simp only;omega)
     rw[hn] at a
     subst a
     have no:¬may y m D:=fun k=>c (by have:=k.2.2.2.2.2;exact this)
     exact⟨by rw[(zN4 _ _ _).2 no,←hb];rfl,(n_no no).1⟩
   by_cases k0:k=0
   ·subst k0
    have e:D=d:=by rw[←hD];rfl
    subst e
    exact zUg 0 m _ q o s f t y n b w hL hM1 y1 y2 (fun v h=>zUm 0 _ _ _ _ _ _ _ y n b v h E.1 E.2)
   ·by_cases k1:k=1
    ·subst k1
     have e:nthD y m d q=D:=by rw[←hD];rfl
     exact zUh 1 m d q o s f t y n b w hL hM1 y1 y2 (fun v h=>unth_is 1 _ _ _ _ _ _ _ y n b v h hm1 (h12 (Or.inl rfl)) (hq rfl) yy (by rw[e];exact E.1) (by rw[e];exact E.2))
    ·obtain rfl:k=2:=zo
     have e:zEp y m d=D:=by rw[←hD];rfl
     have lw:=zRh (y:=y) (m:=m) (h12 (Or.inr rfl))
     have my:may y m D:=⟨yy.1,yy.2,hm1.1,hm1.2,D1,by rw[←e];exact lw.2.1⟩
     exact zUi 2 m d q o s f t y n b w hL hM1 y1 y2 (fun v h=>ulast_is 2 _ _ _ _ _ _ _ y n b v h hm1 (h12 (Or.inr rfl)) yy (by rw[←E.1];exact (zFp _ _ _).2 my) (by rw[e,←E.2,(zEa my).1]))
theorem uin_no (k m d q o s f t y:Int) (w:World) (hL:Lens w) (hM:Ru.May ⟨k,m,d,q,o,s,f,t⟩) (hB:Ru.bas ⟨k,m,d,q,o,s,f,t⟩ y=0):Calls Tryz.prog 195 #[.agg #[k,m,d,q,o,s,f,t],y] w fun e w'=>e=.returned (.tuple #[(0:Int),false])∧Below w w w':=by
 have H:=(Held.start w).add (f:=zAa) hL
 have C:=zh (fun v (h:Lens v)=>zNk k m d q o s f t y 0 false v h hM hB rfl)
 clear hL hM hB
 go_enter Tryz.func195,Tryz.ntmps195
 replace H:=H.oct w k m d q o s f t 76 rfl
 exact zqzsr
theorem zUn (k m d q o s f t y B S n:Int) (b:Bool) (w:World) (hL:Lens w) (hM:Ru.May ⟨k,m,d,q,o,s,f,t⟩) (hB:Ru.bas ⟨k,m,d,q,o,s,f,t⟩ y=B) (bB:1≤B∧B≤3652059) (hs:0≤s∧s≤2) (hS:shd s B=S) (hb:decide (1≤S∧S≤3652059)=b) (hn:(if b=true then S else 0)=n):Calls Tryz.prog 195 #[.agg #[k,m,d,q,o,s,f,t],y] w fun e w'=>e=.returned (.tuple #[n,b])∧Below w w w':=by
 have H:=(Held.start w).add (f:=zAa) hL
 have C:=zh (fun v (h:Lens v)=>zNk k m d q o s f t y B true v h hM hB (decide_eq_true zo))
 have C2:=zh (fun v=>zUr B s S v bB hs hS)
 have C3:=zh (fun v=>zUl S n b v hb hn)
 clear hL hM hB bB hs hS hb hn
 go_enter Tryz.func195,Tryz.ntmps195
 replace H:=H.oct w k m d q o s f t 76 rfl
 obtain⟨c0,c1,c2,c3,c4,c5,c6,c7⟩:=H.cells8 w
 have lc:=H.lt w 0 k i0_
 go_wp2_with fail
 with_reducible refine (C.out _ (H.lens i16_)).mono ?_
 rintro e w1 ⟨rfl,hb⟩
 clear c0 c1 c2 c3 c4 c5 c6 c7 lc
 replace H:=H.below hb
 clear hb
 obtain⟨c0,c1,c2,c3,c4,c5,c6,c7⟩:=H.cells8 w
 have lc:=H.lt w 0 k i0_
 go_wp2_with fail
 with_reducible refine (C2.out _).mono ?_
 rintro e v ⟨rfl,rfl⟩
 go_wp2_with fail
 with_reducible refine (C3.out _).mono ?_
 rintro e v ⟨rfl,rfl⟩
 go_wp2
 go_ret2
 exact⟨rfl,H.old⟩
theorem uin_is (k m d q o s f t y n:Int) (b:Bool) (w:World) (hL:FactsU w) (hM:Ru.May ⟨k,m,d,q,o,s,f,t⟩) (hn:Ru.inn ⟨k,m,d,q,o,s,f,t⟩ y=n) (hb:decide (0<n)=b):Calls Tryz.prog 195 #[.agg #[k,m,d,q,o,s,f,t],y] w fun e w'=>e=.returned (.tuple #[n,b])∧Below w w w':=by
 obtain⟨B,hB⟩:∃B,Ru.bas ⟨k,m,d,q,o,s,f,t⟩ y=B:=⟨_,rfl⟩
 have bb:=bas_bd (r:=⟨k,m,d,q,o,s,f,t⟩) y hM
 rw[hB] at bb
 by_cases h0:B=0
 ·subst h0
  obtain rfl:0=n:=by rw[←hn,zRb hB]
  obtain rfl:false=b:=by rw[←hb];rfl
  exact uin_no k m d q o s f t y w hL hM hB
 ·have h1:0<B:=zo
  unfold Ru.inn at hn
  rw[hB] at hn
  simp only at hn
  by_cases c:1≤shd s B∧shd s B≤3652059
  ·have e:n=shd s B:=by rw[←hn,if_pos ⟨h1,c.1,c.2⟩]
   obtain rfl:true=b:=by rw[←hb,e];exact (decide_eq_true zo).symm
   exact zUn k m d q o s f t y B _ n true w hL hM hB ⟨zo,bb.2⟩ hM.2.1 rfl (decide_eq_true c) (by rw[e];rfl)
  ·have e:n=0:=by rw[←hn,if_neg (fun a=>c ⟨a.2.1,a.2.2⟩)]
   obtain rfl:false=b:=by rw[←hb,e];rfl
   exact zUn k m d q o s f t y B _ n false w hL hM hB ⟨zo,bb.2⟩ hM.2.1 rfl (decide_eq_false c) (by rw[e];rfl)
theorem uis_out (k m d q o s f t n:Int) (w:World) (hL:Lens w) (h:n<1∨3652059<n):Calls Tryz.prog 166 #[.agg #[k,m,d,q,o,s,f,t],n] w fun e w'=>e=.returned false∧Below w w w':=by
 have H:=(Held.start w).add (f:=zAa) hL
 have C:=zh (fun v g=>zAx n 0 0 0 3 v g (Or.inr ⟨h,rfl,rfl,rfl,rfl⟩))
 clear h hL
 go_enter Tryz.func166,Tryz.ntmps166
 replace H:=H.oct w k m d q o s f t 76 rfl
 go_wp2_with fail
 with_reducible refine (C.out _ (H.lens i16_)).mono ?_
 rintro e w1 ⟨rfl,hb1⟩
 replace H:=H.below hb1
 clear hb1
 exact zqq9b
theorem uis_in (k m d q o s f t n Y M D:Int) (b:Bool) (w:World) (hL:Lens w) (hM:Ru.May ⟨k,m,d,q,o,s,f,t⟩) (hd:may Y M D) (hN:nb Y M D=n) (h0:0<n) (hb:b=true↔Ru.Is ⟨k,m,d,q,o,s,f,t⟩ n):Calls Tryz.prog 166 #[.agg #[k,m,d,q,o,s,f,t],n] w fun e w'=>e=.returned (.bool b)∧Below w w w':=by
 have H:=(Held.start w).add (f:=zAa) hL
 have C:=zh (fun v g=>zAx n Y M D 0 v g (Or.inl ⟨hd,hN,rfl⟩))
 have C2:=zh (fun y x c v (g:Lens v) h1 h2=>uin_is k m d q o s f t y x c v g hM h1 h2)
 have NR:=zh (fun y (h:Ru.inn ⟨k,m,d,q,o,s,f,t⟩ y=n)=>zRd hM h0 h hd hN)
 have HB:=zh hb
 have hy:1≤Y∧Y≤9999:=⟨hd.1,hd.2.1⟩
 clear hb hd hN hL
 go_enter Tryz.func166,Tryz.ntmps166
 replace H:=H.oct w k m d q o s f t 76 rfl
 go_wp2_with fail
 with_reducible refine (C.out _ (H.lens i16_)).mono ?_
 rintro e w1 ⟨rfl,hb1⟩
 replace H:=H.below hb1
 clear hb1
 go_wp2_with fail
 replace H:=(H.triple w1 Y M D 86 rfl)
 go_loopw [7] (fun y W'=>∃i:Int,y=.int .i64 i∧Y-1≤i∧i≤Y+2∧(∀z,Y-1≤z→z<i→Ru.inn ⟨k,m,d,q,o,s,f,t⟩ z≠n)∧Held w (.cell w1 0 Y::.cell w1 1 M::.cell w1 2 D::.free w1 0::.free w1 1::.free w1 2::.cell w 0 k::.cell w 1 m::.cell w 2 d::.cell w 3 q::.cell w 4 o::.cell w 5 s::.cell w 6 f::.cell w 7 t::.free w 0::.free w 1::.free w 2::.free w 3::.free w 4::.free w 5::.free w 6::.free w 7::zAa::[]) W') (fun y _=>(Y+2-intOf y).toNat)
 case atStart=>exact⟨Y-1,rfl,zo,zo,fun z a b=>by omega,H⟩
 case round=>
  clear H
  obtain⟨i,rfl,i1,i2,hz,H⟩:=hrel
  have ll:=H.lt w1 0 Y i0_
  have kk:=H.cell w1 0 _ i0_
  obtain⟨c0,c1,c2,c3,c4,c5,c6,c7⟩:=H.cells8 w
  have HZ:=zh hz
  clear hz
  by_cases hi:i≤Y+1
  ·obtain⟨x,HX⟩:∃x,Hid (Ru.inn ⟨k,m,d,q,o,s,f,t⟩ i=x):=⟨_,zh rfl⟩
   obtain⟨c,HC⟩:∃c,Hid (decide (0<x)=c):=⟨_,zh rfl⟩
   go_wp2_with fail
   with_reducible refine (C2.out i x c _ (H.lens i22_) HX.out HC.out).mono ?_
   exact zqso7
  ·exact zquv8
theorem uis_is (k m d q o s f t n:Int) (b:Bool) (w:World) (hL:FactsU w) (hM:Ru.May ⟨k,m,d,q,o,s,f,t⟩) (hb:b=true↔Ru.Is ⟨k,m,d,q,o,s,f,t⟩ n):Calls Tryz.prog 166 #[.agg #[k,m,d,q,o,s,f,t],n] w fun e w'=>e=.returned b∧Below w w w':=by
 by_cases h:1≤n∧n≤3652059
 ·obtain⟨Y,M,D,h1,h2⟩:=zBk n h.1 h.2
  exact uis_in _ _ _ _ _ _ _ _ _ _ _ _ _ w hL hM h1 h2 zo hb
 ·have e:b=false:=by
   cases hbb:b with
   | false=>rfl
   | true=>exact absurd (zNh (hb.1 hbb)) h
  subst e
  exact uis_out _ _ _ _ _ _ _ _ _ w hL zo
end Go.Proofs.YtpfgdfpaoldhcaaGreatDoor
