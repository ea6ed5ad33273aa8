/- Several texts in one: GTy. -/
import Derived.Test.YtpfgdfpaoldhcaaGreatDoorSuAJ
import Derived.LoopTactic
set_option maxHeartbeats 8000000
set_option maxRecDepth 100000
set_option linter.unusedVariables false
set_option linter.unusedSimpArgs false
namespace Go.Proofs.YtpfgdfpaoldhcaaGreatDoor
open Go.RowKit
structure Ways_ty:Prop where
 us:∀(a b p q c:Int) (t:Bool) (w:World),Lens w→zBd (uX t) a b p q c→Calls Tryz.prog 148 #[a,b,t] w fun e w'=>e=.returned (.tuple #[.agg #[p,q],c])∧Below w w w'
 e:∀(a b p q c:Int) (w:World),Lens w→zBd eX a b p q c→Calls Tryz.prog 129 #[a,b] w fun e w'=>e=.returned (.tuple #[.agg #[p,q],c])∧Below w w w'
 isda:∀(a b k p q c:Int) (w:World),Lens w→zBd (iX (decide (b=k))) a b p q c→Calls Tryz.prog 153 #[a,b,k] w fun e w'=>e=.returned (.tuple #[.agg #[p,q],c])∧Below w w w'
end Go.Proofs.YtpfgdfpaoldhcaaGreatDoor
namespace Go.Proofs.YtpfgdfpaoldhcaaGreatDoor
open Go.RowKit
end Go.Proofs.YtpfgdfpaoldhcaaGreatDoor
namespace Go.Proofs.YtpfgdfpaoldhcaaGreatDoor
open Go.RowKit
def zFj (n y m d:Int) (l:Bool) (e:Int):Prop:=(may y m d∧nb y m d=n∧decide (d=ln y m)=l∧e=0)∨((n<1∨3652059<n)∧y=0∧m=0∧d=0∧l=false∧e=3)
structure ReadSays:Prop where
 says:∀(n y m d e:Int) (l:Bool) (w:World),Lens w→zFj n y m d l e→Calls Tryz.prog 178 #[n] w fun e' w'=>e'=.returned (.tuple #[.agg #[m,d,l,y],e])∧Below w w w'
theorem p_own (m d:Int) (l:Bool) (w:World) :
  Calls Tryz.prog 175 #[.agg #[m,d,l]] w fun e w'=>e=.returned d∧Below w w w':=by
 have A:∀w:World,Below w w (w.alloc (.cells #[m,d,l] 185)):=fun w=>(Below.refl _ _).alloc (Nat.le_refl _) _
 go_enter Tryz.func175,Tryz.ntmps175
 go_wp2
 go_ret
 exact⟨rfl,A _⟩
theorem p_full (m d:Int) (l:Bool) (w:World) :
  Calls Tryz.prog 177 #[.agg #[m,d,l]] w fun e w'=>e=.returned (if l=true then 30 else d:Int)∧Below w w w':=by
 have A:∀w:World,Below w w (w.alloc (.cells #[m,d,l] 185)):=fun w=>(Below.refl _ _).alloc (Nat.le_refl _) _
 cases l
 ·go_enter Tryz.func177,Tryz.ntmps177
  go_wp2
  go_ret
  exact⟨rfl,A _⟩
 ·go_enter Tryz.func177,Tryz.ntmps177
  go_wp2
  go_ret
  exact⟨rfl,A _⟩
theorem p_cut (m d:Int) (l:Bool) (w:World) :
  Calls Tryz.prog 152 #[.agg #[m,d,l]] w fun e w'=>e=.returned (min d 30:Int)∧Below w w w':=by
 have A:∀w:World,Below w w (w.alloc (.cells #[m,d,l] 185)):=fun w=>(Below.refl _ _).alloc (Nat.le_refl _) _
 go_enter Tryz.func152,Tryz.ntmps152
 go_wp2
 all_goals (go_ret;refine⟨?_,A _⟩;first | rfl | (congr;omega))
theorem zqnzj {P:Prop} (h:P:=by
 go_enter Tryz.func176,Tryz.ntmps176
 go_wp2
 go_ret
 exact⟨rfl,A _⟩):P:=h
theorem p_feb (m d:Int) (l b:Bool) (w:World) (h:decide (m=2∧l=true)=b) :
  Calls Tryz.prog 176 #[.agg #[m,d,l]] w fun e w'=>e=.returned b∧Below w w w':=by
 subst h
 by_cases hm:m=2
 ·subst hm
  cases l
  ·have A:∀w:World,Below w w (w.alloc (.cells #[(2:Int),d,false] 185)):=fun w=>(Below.refl _ _).alloc (Nat.le_refl _) _
   exact zqnzj
  ·have A:∀w:World,Below w w (w.alloc (.cells #[(2:Int),d,true] 185)):=fun w=>(Below.refl _ _).alloc (Nat.le_refl _) _
   exact zqnzj
 ·have A:∀w:World,Below w w (w.alloc (.cells #[m,d,l] 185)):=fun w=>(Below.refl _ _).alloc (Nat.le_refl _) _
  have t1:(m==2)=false:=beq_eq_false_iff_ne.2 hm
  rw[decide_eq_false (show ¬(m=2∧l=true) from fun h=>hm h.1)]
  clear hm
  exact zqnzj
end Go.Proofs.YtpfgdfpaoldhcaaGreatDoor
namespace Go.Proofs.YtpfgdfpaoldhcaaGreatDoor
open Go.RowKit
theorem zIo (m d v:Int) (l:Bool) (w:World) (h:d=v):Calls Tryz.prog 175 #[.agg #[m,d,l]] w fun e w'=>e=.returned v∧Below w w w':=by
 subst h;exact p_own m d l w
theorem zNb (m d v:Int) (l:Bool) (w:World) (h:min d 30=v):Calls Tryz.prog 152 #[.agg #[m,d,l]] w fun e w'=>e=.returned v∧Below w w w':=by
 subst h;exact p_cut m d l w
theorem zGu (m d v:Int) (l:Bool) (w:World) (h:(if l=true then 30 else d)=v):Calls Tryz.prog 177 #[.agg #[m,d,l]] w fun e w'=>e=.returned v∧Below w w w':=by
 subst h;exact p_full m d l w
theorem zqhby {P:Prop} (h:P:=by
 have H3:=KH.out _ za
 clear H s1 s2 s3 s4 s5 s6 s7 hm1 hm2
 go_wp2_with fail
 all_goals first
  | (with_reducible refine (KN.out _).mono ?_)
  | (have KM:=KN.out;rw[Int.max_eq_left (show (0:Int)≤x by omega)] at KM;(with_reducible refine (KM _).mono ?_))
  | (have KM:=KN.out;rw[Int.max_eq_right (show x≤(0:Int) by omega)] at KM;(with_reducible refine (KM _).mono ?_))
 all_goals
  rintro e w9 ⟨rfl,hb⟩
  replace H3:=H3.below hb
  clear hb
  obtain⟨cz0,cz1⟩:=H3.cells2 (w+2)
  have lz:=H3.lt (w+2) 0 (0:Int) i0_
  obtain⟨fz0,fz1⟩:=H3.frozens2 (w+2)
  go_wp2_with fail
  exact bodyPost_ret (v:=.tuple #[.agg #[p,q],c]) (by simp[results,Tryz.results151,go_sem,cz0,cz1]) rfl ⟨rfl,(H3.old.setCell zw _).setCell zw _⟩):P:=h
theorem zJu (y1 m1 d1 y2 m2 d2 v1 v2 x p q c:Int) (l1 l2:Bool) (w:World) (by1:1≤y1∧y1≤9999) (by2:1≤y2∧y2≤9999) (bm1:1≤m1∧m1≤12) (bm2:1≤m2∧m2≤12) (bd1:0≤v1∧v1≤31) (bd2:0≤v2∧v2≤31) (h1:d1=v1) (h2:d2=v2) (hx:360*(y2-y1)+30*(m2-m1)+v2-v1=x) (hr:rN (max x 0) 360=p∧rD (max x 0) 360=q∧rE (max x 0) 360=c) :
  Calls Tryz.prog 151 #[.agg #[m1,d1,l1,y1],.agg #[m2,d2,l2,y2],.func (.methodOf 187 "demurrage/thirty.own") #[] #[],.func (.methodOf 187 "demurrage/thirty.own") #[] #[]] w fun e' w'=>e'=.returned (.tuple #[.agg #[p,q],c])∧Below w w w':=by
 have H:=Held.start w
 have bx : -10000000≤x∧x≤10000000:=zo
 have K1:=zh (fun u=>zIo m1 d1 v1 l1 u h1)
 have K2:=zh (fun u=>zIo m2 d2 v2 l2 u h2)
 have KN:Hid (∀u,Calls Tryz.prog 158 #[(max x 0:Int),(360:Int)] u fun e w'=>e=.returned (.tuple #[.agg #[p,q],c])∧Below u u w'):=zh (fun u=>by have:=zGs (max x 0) 360 u zo zo zd zd;rwa [hr.1,hr.2.1,hr.2.2] at this)
 have hm1:∀w:World,(method 403 187 (.agg #[m1,d1,l1,y1]) "demurrage/thirty.own").run Tryz.prog w=.ok (175,.agg #[m1,d1,l1]) w:=fun _=>by kernel_rfl
 have hm2:∀w:World,(method 403 187 (.agg #[m2,d2,l2,y2]) "demurrage/thirty.own").run Tryz.prog w=.ok (175,.agg #[m2,d2,l2]) w:=fun _=>by kernel_rfl
 have s1:IntKind.i64.wrap (y2-y1)=y2-y1:=IntWalk.i64_in _ zo
 have s2:IntKind.i64.wrap (360*(y2-y1))=360*(y2-y1):=IntWalk.i64_in _ zo
 have s3:IntKind.i64.wrap (m2-m1)=m2-m1:=IntWalk.i64_in _ zo
 have s4:IntKind.i64.wrap (30*(m2-m1))=30*(m2-m1):=IntWalk.i64_in _ zo
 have s5:IntKind.i64.wrap (360*(y2-y1)+30*(m2-m1))=360*(y2-y1)+30*(m2-m1):=IntWalk.i64_in _ zo
 have s6:IntKind.i64.wrap (360*(y2-y1)+30*(m2-m1)+v2)=360*(y2-y1)+30*(m2-m1)+v2:=IntWalk.i64_in _ zo
 have s7:IntKind.i64.wrap (360*(y2-y1)+30*(m2-m1)+v2-v1)=x:=by rw[IntWalk.i64_in _ zo];exact hx
 clear h1 h2 hr hx by1 by2 bm1 bm2 bd1 bd2
 go_enter Tryz.func151,Tryz.ntmps151
 go_wp2_with fail
 replace H:=(((H.quad w m1 d1 l1 y1 187 rfl).quad (w+1) m2 d2 l2 y2 187 zs).pair (w+2) (0:Int) (0:Int) 48 zs)
 obtain⟨cf0,cf1,cf2,cf3⟩:=H.cells4 w
 have lf:=H.lt w 0 m1 i12_
 obtain⟨ct0,ct1,ct2,ct3⟩:=H.cells4 (w+1)
 have lt:=H.lt (w+1) 0 m2 i4_
 have KS:Hid (∀w':World,Held w [.cell (w+2) 0 (0:Int),.cell (w+2) 1 (0:Int),.free (w+2) 0,.free (w+2) 1,.cell (w+1) 0 m2,.cell (w+1) 1 d2,.cell (w+1) 2 l2,.cell (w+1) 3 y2,.free (w+1) 0,.free (w+1) 1,.free (w+1) 2,.free (w+1) 3,.cell w 0 m1,.cell w 1 d1,.cell w 2 l1,.cell w 3 y1,.free w 0,.free w 1,.free w 2,.free w 3] w'→w'.cell? ⟨w,0,none⟩=some (.int .i64 m1)∧w'.cell? ⟨w,1,none⟩=some (.int .i64 d1)∧w'.cell? ⟨w,2,none⟩=some (.bool l1)∧w'.cell? ⟨w,3,none⟩=some (.int .i64 y1)∧w'.cell? ⟨w+1,0,none⟩=some (.int .i64 m2)∧w'.cell? ⟨w+1,1,none⟩=some (.int .i64 d2)∧w'.cell? ⟨w+1,2,none⟩=some (.bool l2)∧w'.cell? ⟨w+1,3,none⟩=some (.int .i64 y2)∧Held w [.cell (w+2) 0 (0:Int),.cell (w+2) 1 (0:Int),.free (w+2) 0,.free (w+2) 1,.cell (w+1) 0 m2,.cell (w+1) 1 d2,.cell (w+1) 2 l2,.cell (w+1) 3 y2,.free (w+1) 0,.free (w+1) 1,.free (w+1) 2,.free (w+1) 3,.cell w 0 m1,.cell w 1 d1,.cell w 2 l1,.cell w 3 y1,.free w 0,.free w 1,.free w 2,.free w 3] w'):=zh (fun _ h=>⟨h.cell w 0 m1 i12_,h.cell w 1 d1 i13_,h.cell w 2 l1 i14_,h.cell w 3 y1 i15_,h.cell (w+1) 0 m2 i4_,h.cell (w+1) 1 d2 i5_,h.cell (w+1) 2 l2 i6_,h.cell (w+1) 3 y2 i7_,h⟩)
 have KH:Hid (∀w':World,w'.cell? ⟨w,0,none⟩=some (.int .i64 m1)∧w'.cell? ⟨w,1,none⟩=some (.int .i64 d1)∧w'.cell? ⟨w,2,none⟩=some (.bool l1)∧w'.cell? ⟨w,3,none⟩=some (.int .i64 y1)∧w'.cell? ⟨w+1,0,none⟩=some (.int .i64 m2)∧w'.cell? ⟨w+1,1,none⟩=some (.int .i64 d2)∧w'.cell? ⟨w+1,2,none⟩=some (.bool l2)∧w'.cell? ⟨w+1,3,none⟩=some (.int .i64 y2)∧Held w [.cell (w+2) 0 (0:Int),.cell (w+2) 1 (0:Int),.free (w+2) 0,.free (w+2) 1,.cell (w+1) 0 m2,.cell (w+1) 1 d2,.cell (w+1) 2 l2,.cell (w+1) 3 y2,.free (w+1) 0,.free (w+1) 1,.free (w+1) 2,.free (w+1) 3,.cell w 0 m1,.cell w 1 d1,.cell w 2 l1,.cell w 3 y1,.free w 0,.free w 1,.free w 2,.free w 3] w'→Held w [.cell (w+2) 0 (0:Int),.cell (w+2) 1 (0:Int),.free (w+2) 0,.free (w+2) 1,.cell (w+1) 0 m2,.cell (w+1) 1 d2,.cell (w+1) 2 l2,.cell (w+1) 3 y2,.free (w+1) 0,.free (w+1) 1,.free (w+1) 2,.free (w+1) 3,.cell w 0 m1,.cell w 1 d1,.cell w 2 l1,.cell w 3 y1,.free w 0,.free w 1,.free w 2,.free w 3] w'):=zh (fun _ h=>h.2.2.2.2.2.2.2.2)
 have HS:=zh (KS.out _ H.drew)
 go_region_held3 (fun w'=>w'.cell? ⟨w,0,none⟩=some (.int .i64 m1)∧w'.cell? ⟨w,1,none⟩=some (.int .i64 d1)∧w'.cell? ⟨w,2,none⟩=some (.bool l1)∧w'.cell? ⟨w,3,none⟩=some (.int .i64 y1)∧w'.cell? ⟨w+1,0,none⟩=some (.int .i64 m2)∧w'.cell? ⟨w+1,1,none⟩=some (.int .i64 d2)∧w'.cell? ⟨w+1,2,none⟩=some (.bool l2)∧w'.cell? ⟨w+1,3,none⟩=some (.int .i64 y2)∧Held w [.cell (w+2) 0 (0:Int),.cell (w+2) 1 (0:Int),.free (w+2) 0,.free (w+2) 1,.cell (w+1) 0 m2,.cell (w+1) 1 d2,.cell (w+1) 2 l2,.cell (w+1) 3 y2,.free (w+1) 0,.free (w+1) 1,.free (w+1) 2,.free (w+1) 3,.cell w 0 m1,.cell w 1 d1,.cell w 2 l1,.cell w 3 y1,.free w 0,.free w 1,.free w 2,.free w 3] w')
  (first | exact HS.out | (refine KS.out _ (Held.below (KH.out _ ?_) hb);assumption) | (refine KS.out _ (Held.alloc (KH.out _ ?_) _);assumption))
  (first
   | (go_at_call 175;(with_reducible refine (K2.out _).mono ?_);rintro e w' ⟨rfl,hb⟩)
   | (go_at_call 175;(with_reducible refine (K1.out _).mono ?_);rintro e w' ⟨rfl,hb⟩))
 all_goals
  exact zqhby
theorem zJt (y1 m1 d1 y2 m2 d2 v1 v2 x p q c:Int) (l1 l2:Bool) (w:World) (by1:1≤y1∧y1≤9999) (by2:1≤y2∧y2≤9999) (bm1:1≤m1∧m1≤12) (bm2:1≤m2∧m2≤12) (bd1:0≤v1∧v1≤31) (bd2:0≤v2∧v2≤31) (h1:min d1 30=v1) (h2:min d2 30=v2) (hx:360*(y2-y1)+30*(m2-m1)+v2-v1=x) (hr:rN (max x 0) 360=p∧rD (max x 0) 360=q∧rE (max x 0) 360=c) :
  Calls Tryz.prog 151 #[.agg #[m1,d1,l1,y1],.agg #[m2,d2,l2,y2],.func (.methodOf 187 "demurrage/thirty.cut") #[] #[],.func (.methodOf 187 "demurrage/thirty.cut") #[] #[]] w fun e' w'=>e'=.returned (.tuple #[.agg #[p,q],c])∧Below w w w':=by
 have H:=Held.start w
 have bx : -10000000≤x∧x≤10000000:=zo
 have K1:=zh (fun u=>zNb m1 d1 v1 l1 u h1)
 have K2:=zh (fun u=>zNb m2 d2 v2 l2 u h2)
 have KN:Hid (∀u,Calls Tryz.prog 158 #[(max x 0:Int),(360:Int)] u fun e w'=>e=.returned (.tuple #[.agg #[p,q],c])∧Below u u w'):=zh (fun u=>by have:=zGs (max x 0) 360 u zo zo zd zd;rwa [hr.1,hr.2.1,hr.2.2] at this)
 have hm1:∀w:World,(method 403 187 (.agg #[m1,d1,l1,y1]) "demurrage/thirty.cut").run Tryz.prog w=.ok (152,.agg #[m1,d1,l1]) w:=fun _=>by kernel_rfl
 have hm2:∀w:World,(method 403 187 (.agg #[m2,d2,l2,y2]) "demurrage/thirty.cut").run Tryz.prog w=.ok (152,.agg #[m2,d2,l2]) w:=fun _=>by kernel_rfl
 have s1:IntKind.i64.wrap (y2-y1)=y2-y1:=IntWalk.i64_in _ zo
 have s2:IntKind.i64.wrap (360*(y2-y1))=360*(y2-y1):=IntWalk.i64_in _ zo
 have s3:IntKind.i64.wrap (m2-m1)=m2-m1:=IntWalk.i64_in _ zo
 have s4:IntKind.i64.wrap (30*(m2-m1))=30*(m2-m1):=IntWalk.i64_in _ zo
 have s5:IntKind.i64.wrap (360*(y2-y1)+30*(m2-m1))=360*(y2-y1)+30*(m2-m1):=IntWalk.i64_in _ zo
 have s6:IntKind.i64.wrap (360*(y2-y1)+30*(m2-m1)+v2)=360*(y2-y1)+30*(m2-m1)+v2:=IntWalk.i64_in _ zo
 have s7:IntKind.i64.wrap (360*(y2-y1)+30*(m2-m1)+v2-v1)=x:=by rw[IntWalk.i64_in _ zo];exact hx
 clear h1 h2 hr hx by1 by2 bm1 bm2 bd1 bd2
 go_enter Tryz.func151,Tryz.ntmps151
 go_wp2_with fail
 replace H:=(((H.quad w m1 d1 l1 y1 187 rfl).quad (w+1) m2 d2 l2 y2 187 zs).pair (w+2) (0:Int) (0:Int) 48 zs)
 obtain⟨cf0,cf1,cf2,cf3⟩:=H.cells4 w
 have lf:=H.lt w 0 m1 i12_
 obtain⟨ct0,ct1,ct2,ct3⟩:=H.cells4 (w+1)
 have lt:=H.lt (w+1) 0 m2 i4_
 have KS:Hid (∀w':World,Held w [.cell (w+2) 0 (0:Int),.cell (w+2) 1 (0:Int),.free (w+2) 0,.free (w+2) 1,.cell (w+1) 0 m2,.cell (w+1) 1 d2,.cell (w+1) 2 l2,.cell (w+1) 3 y2,.free (w+1) 0,.free (w+1) 1,.free (w+1) 2,.free (w+1) 3,.cell w 0 m1,.cell w 1 d1,.cell w 2 l1,.cell w 3 y1,.free w 0,.free w 1,.free w 2,.free w 3] w'→w'.cell? ⟨w,0,none⟩=some (.int .i64 m1)∧w'.cell? ⟨w,1,none⟩=some (.int .i64 d1)∧w'.cell? ⟨w,2,none⟩=some (.bool l1)∧w'.cell? ⟨w,3,none⟩=some (.int .i64 y1)∧w'.cell? ⟨w+1,0,none⟩=some (.int .i64 m2)∧w'.cell? ⟨w+1,1,none⟩=some (.int .i64 d2)∧w'.cell? ⟨w+1,2,none⟩=some (.bool l2)∧w'.cell? ⟨w+1,3,none⟩=some (.int .i64 y2)∧Held w [.cell (w+2) 0 (0:Int),.cell (w+2) 1 (0:Int),.free (w+2) 0,.free (w+2) 1,.cell (w+1) 0 m2,.cell (w+1) 1 d2,.cell (w+1) 2 l2,.cell (w+1) 3 y2,.free (w+1) 0,.free (w+1) 1,.free (w+1) 2,.free (w+1) 3,.cell w 0 m1,.cell w 1 d1,.cell w 2 l1,.cell w 3 y1,.free w 0,.free w 1,.free w 2,.free w 3] w'):=zh (fun _ h=>⟨h.cell w 0 m1 i12_,h.cell w 1 d1 i13_,h.cell w 2 l1 i14_,h.cell w 3 y1 i15_,h.cell (w+1) 0 m2 i4_,h.cell (w+1) 1 d2 i5_,h.cell (w+1) 2 l2 i6_,h.cell (w+1) 3 y2 i7_,h⟩)
 have KH:Hid (∀w':World,w'.cell? ⟨w,0,none⟩=some (.int .i64 m1)∧w'.cell? ⟨w,1,none⟩=some (.int .i64 d1)∧w'.cell? ⟨w,2,none⟩=some (.bool l1)∧w'.cell? ⟨w,3,none⟩=some (.int .i64 y1)∧w'.cell? ⟨w+1,0,none⟩=some (.int .i64 m2)∧w'.cell? ⟨w+1,1,none⟩=some (.int .i64 d2)∧w'.cell? ⟨w+1,2,none⟩=some (.bool l2)∧w'.cell? ⟨w+1,3,none⟩=some (.int .i64 y2)∧Held w [.cell (w+2) 0 (0:Int),.cell (w+2) 1 (0:Int),.free (w+2) 0,.free (w+2) 1,.cell (w+1) 0 m2,.cell (w+1) 1 d2,.cell (w+1) 2 l2,.cell (w+1) 3 y2,.free (w+1) 0,.free (w+1) 1,.free (w+1) 2,.free (w+1) 3,.cell w 0 m1,.cell w 1 d1,.cell w 2 l1,.cell w 3 y1,.free w 0,.free w 1,.free w 2,.free w 3] w'→Held w [.cell (w+2) 0 (0:Int),.cell (w+2) 1 (0:Int),.free (w+2) 0,.free (w+2) 1,.cell (w+1) 0 m2,.cell (w+1) 1 d2,.cell (w+1) 2 l2,.cell (w+1) 3 y2,.free (w+1) 0,.free (w+1) 1,.free (w+1) 2,.free (w+1) 3,.cell w 0 m1,.cell w 1 d1,.cell w 2 l1,.cell w 3 y1,.free w 0,.free w 1,.free w 2,.free w 3] w'):=zh (fun _ h=>h.2.2.2.2.2.2.2.2)
 have HS:=zh (KS.out _ H.drew)
 go_region_held3 (fun w'=>w'.cell? ⟨w,0,none⟩=some (.int .i64 m1)∧w'.cell? ⟨w,1,none⟩=some (.int .i64 d1)∧w'.cell? ⟨w,2,none⟩=some (.bool l1)∧w'.cell? ⟨w,3,none⟩=some (.int .i64 y1)∧w'.cell? ⟨w+1,0,none⟩=some (.int .i64 m2)∧w'.cell? ⟨w+1,1,none⟩=some (.int .i64 d2)∧w'.cell? ⟨w+1,2,none⟩=some (.bool l2)∧w'.cell? ⟨w+1,3,none⟩=some (.int .i64 y2)∧Held w [.cell (w+2) 0 (0:Int),.cell (w+2) 1 (0:Int),.free (w+2) 0,.free (w+2) 1,.cell (w+1) 0 m2,.cell (w+1) 1 d2,.cell (w+1) 2 l2,.cell (w+1) 3 y2,.free (w+1) 0,.free (w+1) 1,.free (w+1) 2,.free (w+1) 3,.cell w 0 m1,.cell w 1 d1,.cell w 2 l1,.cell w 3 y1,.free w 0,.free w 1,.free w 2,.free w 3] w')
  (first | exact HS.out | (refine KS.out _ (Held.below (KH.out _ ?_) hb);assumption) | (refine KS.out _ (Held.alloc (KH.out _ ?_) _);assumption))
  (first
   | (go_at_call 152;(with_reducible refine (K2.out _).mono ?_);rintro e w' ⟨rfl,hb⟩)
   | (go_at_call 152;(with_reducible refine (K1.out _).mono ?_);rintro e w' ⟨rfl,hb⟩))
 all_goals
  exact zqhby
theorem zHb (y1 m1 d1 y2 m2 d2 v1 v2 x p q c:Int) (l1 l2:Bool) (w:World) (by1:1≤y1∧y1≤9999) (by2:1≤y2∧y2≤9999) (bm1:1≤m1∧m1≤12) (bm2:1≤m2∧m2≤12) (bd1:0≤v1∧v1≤31) (bd2:0≤v2∧v2≤31) (h1:(if l1=true then 30 else d1)=v1) (h2:(if l2=true then 30 else d2)=v2) (hx:360*(y2-y1)+30*(m2-m1)+v2-v1=x) (hr:rN (max x 0) 360=p∧rD (max x 0) 360=q∧rE (max x 0) 360=c) :
  Calls Tryz.prog 151 #[.agg #[m1,d1,l1,y1],.agg #[m2,d2,l2,y2],.func (.methodOf 187 "demurrage/thirty.full") #[] #[],.func (.methodOf 187 "demurrage/thirty.full") #[] #[]] w fun e' w'=>e'=.returned (.tuple #[.agg #[p,q],c])∧Below w w w':=by
 have H:=Held.start w
 have bx : -10000000≤x∧x≤10000000:=zo
 have K1:=zh (fun u=>zGu m1 d1 v1 l1 u h1)
 have K2:=zh (fun u=>zGu m2 d2 v2 l2 u h2)
 have KN:Hid (∀u,Calls Tryz.prog 158 #[(max x 0:Int),(360:Int)] u fun e w'=>e=.returned (.tuple #[.agg #[p,q],c])∧Below u u w'):=zh (fun u=>by have:=zGs (max x 0) 360 u zo zo zd zd;rwa [hr.1,hr.2.1,hr.2.2] at this)
 have hm1:∀w:World,(method 403 187 (.agg #[m1,d1,l1,y1]) "demurrage/thirty.full").run Tryz.prog w=.ok (177,.agg #[m1,d1,l1]) w:=fun _=>by kernel_rfl
 have hm2:∀w:World,(method 403 187 (.agg #[m2,d2,l2,y2]) "demurrage/thirty.full").run Tryz.prog w=.ok (177,.agg #[m2,d2,l2]) w:=fun _=>by kernel_rfl
 have s1:IntKind.i64.wrap (y2-y1)=y2-y1:=IntWalk.i64_in _ zo
 have s2:IntKind.i64.wrap (360*(y2-y1))=360*(y2-y1):=IntWalk.i64_in _ zo
 have s3:IntKind.i64.wrap (m2-m1)=m2-m1:=IntWalk.i64_in _ zo
 have s4:IntKind.i64.wrap (30*(m2-m1))=30*(m2-m1):=IntWalk.i64_in _ zo
 have s5:IntKind.i64.wrap (360*(y2-y1)+30*(m2-m1))=360*(y2-y1)+30*(m2-m1):=IntWalk.i64_in _ zo
 have s6:IntKind.i64.wrap (360*(y2-y1)+30*(m2-m1)+v2)=360*(y2-y1)+30*(m2-m1)+v2:=IntWalk.i64_in _ zo
 have s7:IntKind.i64.wrap (360*(y2-y1)+30*(m2-m1)+v2-v1)=x:=by rw[IntWalk.i64_in _ zo];exact hx
 clear h1 h2 hr hx by1 by2 bm1 bm2 bd1 bd2
 go_enter Tryz.func151,Tryz.ntmps151
 go_wp2_with fail
 replace H:=(((H.quad w m1 d1 l1 y1 187 rfl).quad (w+1) m2 d2 l2 y2 187 zs).pair (w+2) (0:Int) (0:Int) 48 zs)
 obtain⟨cf0,cf1,cf2,cf3⟩:=H.cells4 w
 have lf:=H.lt w 0 m1 i12_
 obtain⟨ct0,ct1,ct2,ct3⟩:=H.cells4 (w+1)
 have lt:=H.lt (w+1) 0 m2 i4_
 have KS:Hid (∀w':World,Held w [.cell (w+2) 0 (0:Int),.cell (w+2) 1 (0:Int),.free (w+2) 0,.free (w+2) 1,.cell (w+1) 0 m2,.cell (w+1) 1 d2,.cell (w+1) 2 l2,.cell (w+1) 3 y2,.free (w+1) 0,.free (w+1) 1,.free (w+1) 2,.free (w+1) 3,.cell w 0 m1,.cell w 1 d1,.cell w 2 l1,.cell w 3 y1,.free w 0,.free w 1,.free w 2,.free w 3] w'→w'.cell? ⟨w,0,none⟩=some (.int .i64 m1)∧w'.cell? ⟨w,1,none⟩=some (.int .i64 d1)∧w'.cell? ⟨w,2,none⟩=some (.bool l1)∧w'.cell? ⟨w,3,none⟩=some (.int .i64 y1)∧w'.cell? ⟨w+1,0,none⟩=some (.int .i64 m2)∧w'.cell? ⟨w+1,1,none⟩=some (.int .i64 d2)∧w'.cell? ⟨w+1,2,none⟩=some (.bool l2)∧w'.cell? ⟨w+1,3,none⟩=some (.int .i64 y2)∧Held w [.cell (w+2) 0 (0:Int),.cell (w+2) 1 (0:Int),.free (w+2) 0,.free (w+2) 1,.cell (w+1) 0 m2,.cell (w+1) 1 d2,.cell (w+1) 2 l2,.cell (w+1) 3 y2,.free (w+1) 0,.free (w+1) 1,.free (w+1) 2,.free (w+1) 3,.cell w 0 m1,.cell w 1 d1,.cell w 2 l1,.cell w 3 y1,.free w 0,.free w 1,.free w 2,.free w 3] w'):=zh (fun _ h=>⟨h.cell w 0 m1 i12_,h.cell w 1 d1 i13_,h.cell w 2 l1 i14_,h.cell w 3 y1 i15_,h.cell (w+1) 0 m2 i4_,h.cell (w+1) 1 d2 i5_,h.cell (w+1) 2 l2 i6_,h.cell (w+1) 3 y2 i7_,h⟩)
 have KH:Hid (∀w':World,w'.cell? ⟨w,0,none⟩=some (.int .i64 m1)∧w'.cell? ⟨w,1,none⟩=some (.int .i64 d1)∧w'.cell? ⟨w,2,none⟩=some (.bool l1)∧w'.cell? ⟨w,3,none⟩=some (.int .i64 y1)∧w'.cell? ⟨w+1,0,none⟩=some (.int .i64 m2)∧w'.cell? ⟨w+1,1,none⟩=some (.int .i64 d2)∧w'.cell? ⟨w+1,2,none⟩=some (.bool l2)∧w'.cell? ⟨w+1,3,none⟩=some (.int .i64 y2)∧Held w [.cell (w+2) 0 (0:Int),.cell (w+2) 1 (0:Int),.free (w+2) 0,.free (w+2) 1,.cell (w+1) 0 m2,.cell (w+1) 1 d2,.cell (w+1) 2 l2,.cell (w+1) 3 y2,.free (w+1) 0,.free (w+1) 1,.free (w+1) 2,.free (w+1) 3,.cell w 0 m1,.cell w 1 d1,.cell w 2 l1,.cell w 3 y1,.free w 0,.free w 1,.free w 2,.free w 3] w'→Held w [.cell (w+2) 0 (0:Int),.cell (w+2) 1 (0:Int),.free (w+2) 0,.free (w+2) 1,.cell (w+1) 0 m2,.cell (w+1) 1 d2,.cell (w+1) 2 l2,.cell (w+1) 3 y2,.free (w+1) 0,.free (w+1) 1,.free (w+1) 2,.free (w+1) 3,.cell w 0 m1,.cell w 1 d1,.cell w 2 l1,.cell w 3 y1,.free w 0,.free w 1,.free w 2,.free w 3] w'):=zh (fun _ h=>h.2.2.2.2.2.2.2.2)
 have HS:=zh (KS.out _ H.drew)
 go_region_held3 (fun w'=>w'.cell? ⟨w,0,none⟩=some (.int .i64 m1)∧w'.cell? ⟨w,1,none⟩=some (.int .i64 d1)∧w'.cell? ⟨w,2,none⟩=some (.bool l1)∧w'.cell? ⟨w,3,none⟩=some (.int .i64 y1)∧w'.cell? ⟨w+1,0,none⟩=some (.int .i64 m2)∧w'.cell? ⟨w+1,1,none⟩=some (.int .i64 d2)∧w'.cell? ⟨w+1,2,none⟩=some (.bool l2)∧w'.cell? ⟨w+1,3,none⟩=some (.int .i64 y2)∧Held w [.cell (w+2) 0 (0:Int),.cell (w+2) 1 (0:Int),.free (w+2) 0,.free (w+2) 1,.cell (w+1) 0 m2,.cell (w+1) 1 d2,.cell (w+1) 2 l2,.cell (w+1) 3 y2,.free (w+1) 0,.free (w+1) 1,.free (w+1) 2,.free (w+1) 3,.cell w 0 m1,.cell w 1 d1,.cell w 2 l1,.cell w 3 y1,.free w 0,.free w 1,.free w 2,.free w 3] w')
  (first | exact HS.out | (refine KS.out _ (Held.below (KH.out _ ?_) hb);assumption) | (refine KS.out _ (Held.alloc (KH.out _ ?_) _);assumption))
  (first
   | (go_at_call 177;(with_reducible refine (K2.out _).mono ?_);rintro e w' ⟨rfl,hb⟩)
   | (go_at_call 177;(with_reducible refine (K1.out _).mono ?_);rintro e w' ⟨rfl,hb⟩))
 all_goals
  exact zqhby
theorem zIp (y1 m1 d1 y2 m2 d2 v1 v2 x p q c:Int) (l1 l2:Bool) (w:World) (by1:1≤y1∧y1≤9999) (by2:1≤y2∧y2≤9999) (bm1:1≤m1∧m1≤12) (bm2:1≤m2∧m2≤12) (bd1:0≤v1∧v1≤31) (bd2:0≤v2∧v2≤31) (h1:(if l1=true then 30 else d1)=v1) (h2:d2=v2) (hx:360*(y2-y1)+30*(m2-m1)+v2-v1=x) (hr:rN (max x 0) 360=p∧rD (max x 0) 360=q∧rE (max x 0) 360=c) :
  Calls Tryz.prog 151 #[.agg #[m1,d1,l1,y1],.agg #[m2,d2,l2,y2],.func (.methodOf 187 "demurrage/thirty.full") #[] #[],.func (.methodOf 187 "demurrage/thirty.own") #[] #[]] w fun e' w'=>e'=.returned (.tuple #[.agg #[p,q],c])∧Below w w w':=by
 have H:=Held.start w
 have bx : -10000000≤x∧x≤10000000:=zo
 have K1:=zh (fun u=>zGu m1 d1 v1 l1 u h1)
 have K2:=zh (fun u=>zIo m2 d2 v2 l2 u h2)
 have KN:Hid (∀u,Calls Tryz.prog 158 #[(max x 0:Int),(360:Int)] u fun e w'=>e=.returned (.tuple #[.agg #[p,q],c])∧Below u u w'):=zh (fun u=>by have:=zGs (max x 0) 360 u zo zo zd zd;rwa [hr.1,hr.2.1,hr.2.2] at this)
 have hm1:∀w:World,(method 403 187 (.agg #[m1,d1,l1,y1]) "demurrage/thirty.full").run Tryz.prog w=.ok (177,.agg #[m1,d1,l1]) w:=fun _=>by kernel_rfl
 have hm2:∀w:World,(method 403 187 (.agg #[m2,d2,l2,y2]) "demurrage/thirty.own").run Tryz.prog w=.ok (175,.agg #[m2,d2,l2]) w:=fun _=>by kernel_rfl
 have s1:IntKind.i64.wrap (y2-y1)=y2-y1:=IntWalk.i64_in _ zo
 have s2:IntKind.i64.wrap (360*(y2-y1))=360*(y2-y1):=IntWalk.i64_in _ zo
 have s3:IntKind.i64.wrap (m2-m1)=m2-m1:=IntWalk.i64_in _ zo
 have s4:IntKind.i64.wrap (30*(m2-m1))=30*(m2-m1):=IntWalk.i64_in _ zo
 have s5:IntKind.i64.wrap (360*(y2-y1)+30*(m2-m1))=360*(y2-y1)+30*(m2-m1):=IntWalk.i64_in _ zo
 have s6:IntKind.i64.wrap (360*(y2-y1)+30*(m2-m1)+v2)=360*(y2-y1)+30*(m2-m1)+v2:=IntWalk.i64_in _ zo
 have s7:IntKind.i64.wrap (360*(y2-y1)+30*(m2-m1)+v2-v1)=x:=by rw[IntWalk.i64_in _ zo];exact hx
 clear h1 h2 hr hx by1 by2 bm1 bm2 bd1 bd2
 go_enter Tryz.func151,Tryz.ntmps151
 go_wp2_with fail
 replace H:=(((H.quad w m1 d1 l1 y1 187 rfl).quad (w+1) m2 d2 l2 y2 187 zs).pair (w+2) (0:Int) (0:Int) 48 zs)
 obtain⟨cf0,cf1,cf2,cf3⟩:=H.cells4 w
 have lf:=H.lt w 0 m1 i12_
 obtain⟨ct0,ct1,ct2,ct3⟩:=H.cells4 (w+1)
 have lt:=H.lt (w+1) 0 m2 i4_
 have KS:Hid (∀w':World,Held w [.cell (w+2) 0 (0:Int),.cell (w+2) 1 (0:Int),.free (w+2) 0,.free (w+2) 1,.cell (w+1) 0 m2,.cell (w+1) 1 d2,.cell (w+1) 2 l2,.cell (w+1) 3 y2,.free (w+1) 0,.free (w+1) 1,.free (w+1) 2,.free (w+1) 3,.cell w 0 m1,.cell w 1 d1,.cell w 2 l1,.cell w 3 y1,.free w 0,.free w 1,.free w 2,.free w 3] w'→w'.cell? ⟨w,0,none⟩=some (.int .i64 m1)∧w'.cell? ⟨w,1,none⟩=some (.int .i64 d1)∧w'.cell? ⟨w,2,none⟩=some (.bool l1)∧w'.cell? ⟨w,3,none⟩=some (.int .i64 y1)∧w'.cell? ⟨w+1,0,none⟩=some (.int .i64 m2)∧w'.cell? ⟨w+1,1,none⟩=some (.int .i64 d2)∧w'.cell? ⟨w+1,2,none⟩=some (.bool l2)∧w'.cell? ⟨w+1,3,none⟩=some (.int .i64 y2)∧Held w [.cell (w+2) 0 (0:Int),.cell (w+2) 1 (0:Int),.free (w+2) 0,.free (w+2) 1,.cell (w+1) 0 m2,.cell (w+1) 1 d2,.cell (w+1) 2 l2,.cell (w+1) 3 y2,.free (w+1) 0,.free (w+1) 1,.free (w+1) 2,.free (w+1) 3,.cell w 0 m1,.cell w 1 d1,.cell w 2 l1,.cell w 3 y1,.free w 0,.free w 1,.free w 2,.free w 3] w'):=zh (fun _ h=>⟨h.cell w 0 m1 i12_,h.cell w 1 d1 i13_,h.cell w 2 l1 i14_,h.cell w 3 y1 i15_,h.cell (w+1) 0 m2 i4_,h.cell (w+1) 1 d2 i5_,h.cell (w+1) 2 l2 i6_,h.cell (w+1) 3 y2 i7_,h⟩)
 have KH:Hid (∀w':World,w'.cell? ⟨w,0,none⟩=some (.int .i64 m1)∧w'.cell? ⟨w,1,none⟩=some (.int .i64 d1)∧w'.cell? ⟨w,2,none⟩=some (.bool l1)∧w'.cell? ⟨w,3,none⟩=some (.int .i64 y1)∧w'.cell? ⟨w+1,0,none⟩=some (.int .i64 m2)∧w'.cell? ⟨w+1,1,none⟩=some (.int .i64 d2)∧w'.cell? ⟨w+1,2,none⟩=some (.bool l2)∧w'.cell? ⟨w+1,3,none⟩=some (.int .i64 y2)∧Held w [.cell (w+2) 0 (0:Int),.cell (w+2) 1 (0:Int),.free (w+2) 0,.free (w+2) 1,.cell (w+1) 0 m2,.cell (w+1) 1 d2,.cell (w+1) 2 l2,.cell (w+1) 3 y2,.free (w+1) 0,.free (w+1) 1,.free (w+1) 2,.free (w+1) 3,.cell w 0 m1,.cell w 1 d1,.cell w 2 l1,.cell w 3 y1,.free w 0,.free w 1,.free w 2,.free w 3] w'→Held w [.cell (w+2) 0 (0:Int),.cell (w+2) 1 (0:Int),.free (w+2) 0,.free (w+2) 1,.cell (w+1) 0 m2,.cell (w+1) 1 d2,.cell (w+1) 2 l2,.cell (w+1) 3 y2,.free (w+1) 0,.free (w+1) 1,.free (w+1) 2,.free (w+1) 3,.cell w 0 m1,.cell w 1 d1,.cell w 2 l1,.cell w 3 y1,.free w 0,.free w 1,.free w 2,.free w 3] w'):=zh (fun _ h=>h.2.2.2.2.2.2.2.2)
 have HS:=zh (KS.out _ H.drew)
 go_region_held3 (fun w'=>w'.cell? ⟨w,0,none⟩=some (.int .i64 m1)∧w'.cell? ⟨w,1,none⟩=some (.int .i64 d1)∧w'.cell? ⟨w,2,none⟩=some (.bool l1)∧w'.cell? ⟨w,3,none⟩=some (.int .i64 y1)∧w'.cell? ⟨w+1,0,none⟩=some (.int .i64 m2)∧w'.cell? ⟨w+1,1,none⟩=some (.int .i64 d2)∧w'.cell? ⟨w+1,2,none⟩=some (.bool l2)∧w'.cell? ⟨w+1,3,none⟩=some (.int .i64 y2)∧Held w [.cell (w+2) 0 (0:Int),.cell (w+2) 1 (0:Int),.free (w+2) 0,.free (w+2) 1,.cell (w+1) 0 m2,.cell (w+1) 1 d2,.cell (w+1) 2 l2,.cell (w+1) 3 y2,.free (w+1) 0,.free (w+1) 1,.free (w+1) 2,.free (w+1) 3,.cell w 0 m1,.cell w 1 d1,.cell w 2 l1,.cell w 3 y1,.free w 0,.free w 1,.free w 2,.free w 3] w')
  (first | exact HS.out | (refine KS.out _ (Held.below (KH.out _ ?_) hb);assumption) | (refine KS.out _ (Held.alloc (KH.out _ ?_) _);assumption))
  (first
   | (go_at_call 175;(with_reducible refine (K2.out _).mono ?_);rintro e w' ⟨rfl,hb⟩)
   | (go_at_call 177;(with_reducible refine (K1.out _).mono ?_);rintro e w' ⟨rfl,hb⟩))
 all_goals
  exact zqhby
end Go.Proofs.YtpfgdfpaoldhcaaGreatDoor
namespace Go.Proofs.YtpfgdfpaoldhcaaGreatDoor
open Go.RowKit
theorem read7_in (n y m d:Int) (l:Bool) (w:World) (hL:Lens w) (h:may y m d) (hn:nb y m d=n) (hl:decide (d=ln y m)=l) :
  Calls Tryz.prog 178 #[n] w fun e' w'=>e'=.returned (.tuple #[.agg #[m,d,l,y],(0:Int)])∧Below w w w':=by
 have H:=(Held.start w).add (f:=zAa) hL
 have O1:Hid (zAf n y m d 0):=zh (Or.inl ⟨h,hn,rfl⟩)
 have O2:Hid (zB6 n l):=zh (zAy y m d h hn hl)
 clear hL h hn hl
 go_enter Tryz.func178,Tryz.ntmps178
 go_wp2_with fail
 replace H:=(H.quad w (0:Int) (0:Int) false (0:Int) 187 rfl)
 revert H
 with_reducible refine zG (fun H=>zAx n y m d 0 _ (H.lens i8_) O1.out) ?_
 intro w1 H
 go_wp2_with fail
 replace H:=(H.triple w1 y m d 86 rfl)
 obtain⟨cc0,cc1,cc2⟩:=H.cells3 w1
 have lc:=H.lt w1 0 y i0_
 obtain⟨cz0,cz1,cz2,cz3⟩:=H.cells4 w
 have lz:=H.lt w 0 (0:Int) i6_
 obtain⟨fz0,fz1,fz2,fz3⟩:=H.frozens4 w
 replace H:=H.drew
 go_region_with
  (first
   | (go_at_call 125;(with_reducible refine (zIi n l _ (H.lens i14_) O2.out).mono ?_);rintro e w' ⟨rfl,hb⟩;replace H:=H.below hb;clear hb;replace cc0:=H.cell w1 0 y i0_;replace cc1:=H.cell w1 1 m i1_;replace cc2:=H.cell w1 2 d i2_;replace lc:=H.lt w1 0 y i0_;replace cz0:=H.cell w 0 (0:Int) i6_;replace cz1:=H.cell w 1 (0:Int) i7_;replace cz2:=H.cell w 2 false i8_;replace cz3:=H.cell w 3 (0:Int) i9_;replace lz:=H.lt w 0 (0:Int) i6_;replace fz0:=H.frozen w 0 i10_;replace fz1:=H.frozen w 1 i11_;replace fz2:=H.frozen w 2 i12_;replace fz3:=H.frozen w 3 i13_))
 all_goals
  go_wp2_with fail
  exact bodyPost_ret (v:=.tuple #[.agg #[m,d,l,y],(0:Int)]) (by simp[results,Tryz.results178,go_sem,cz0,cz1,cz2,cz3]) rfl ⟨rfl,(((H.old.setCell zw _).setCell zw _).setCell zw _).setCell zw _⟩
theorem zSs (n:Int) (w:World) (hL:Lens w) (h:n<1∨3652059<n) :
  Calls Tryz.prog 178 #[n] w fun e' w'=>e'=.returned (.tuple #[.agg #[(0:Int),(0:Int),false,(0:Int)],(3:Int)])∧Below w w w':=by
 have H:=(Held.start w).add (f:=zAa) hL
 have O1:Hid (zAf n 0 0 0 3):=zh (Or.inr ⟨h,rfl,rfl,rfl,rfl⟩)
 clear hL h
 go_enter Tryz.func178,Tryz.ntmps178
 go_wp2_with fail
 replace H:=(H.quad w (0:Int) (0:Int) false (0:Int) 187 rfl)
 revert H
 with_reducible refine zG (fun H=>zAx n 0 0 0 3 _ (H.lens i8_) O1.out) ?_
 intro w1 H
 obtain⟨cz0,cz1,cz2,cz3⟩:=H.cells4 w
 have lz:=H.lt w 0 (0:Int) i0_
 obtain⟨fz0,fz1,fz2,fz3⟩:=H.frozens4 w
 go_wp2_with fail
 exact bodyPost_ret (v:=.tuple #[.agg #[(0:Int),(0:Int),false,(0:Int)],(3:Int)]) (by simp[results,Tryz.results178,go_sem,cz0,cz1,cz2,cz3,lz]) rfl ⟨rfl,((((H.old.setCell zw _).setCell zw _).setCell zw _).setCell zw _).alloc zw _⟩
theorem zEw:ReadSays:=by
 refine⟨fun n y m d e l w hL h=>?_⟩
 rcases h with⟨h,hn,hl,rfl⟩ | ⟨h,rfl,rfl,rfl,rfl,rfl⟩
 ·exact read7_in n y m d l w hL h hn hl
 ·exact zSs n w hL h
end Go.Proofs.YtpfgdfpaoldhcaaGreatDoor
namespace Go.Proofs.YtpfgdfpaoldhcaaGreatDoor
open Go.RowKit
theorem Lens.off7 {w:World} (hL:Lens w) {B:Nat} (hB:w.heap.size≤B):zAa.off B:=by
 intro W o u h i hi
 have k:9<w.heap.size:=zA0 (hL 0 zd)
 exact (World.cell?_setCell_far W ⟨B,o,none⟩ ⟨9,i,none⟩ u (show B≠9 by omega)).trans (h i hi)
theorem Held.put4 {w W:World} {fs:List Fact} (h:Held w fs W) (B:Nat) (u0 u1 u2 u3 v0 v1 v2 v3:Value) (hB:w.heap.size≤B) (hoff:∀f∈fs,f.off B)
  (c0:W.cell? ⟨B,0,none⟩=Option.some v0) (c1:W.cell? ⟨B,1,none⟩=Option.some v1) (c2:W.cell? ⟨B,2,none⟩=Option.some v2) (c3:W.cell? ⟨B,3,none⟩=Option.some v3) :
  Held w (.cell B 0 u0::.cell B 1 u1::.cell B 2 u2::.cell B 3 u3::fs) ((((W.setCell ⟨B,0,none⟩ u0).setCell ⟨B,1,none⟩ u1).setCell ⟨B,2,none⟩ u2).setCell ⟨B,3,none⟩ u3):=by
 have hh:=(((h.set B 0 u0 hB hoff).set B 1 u1 hB hoff).set B 2 u2 hB hoff).set B 3 u3 hB hoff
 exact (((hh.add (f:=.cell B 3 u3) (by simp[Fact.at,go_sem,c0,c1,c2,c3])).add (f:=.cell B 2 u2) (by simp[Fact.at,go_sem,c0,c1,c2,c3])).add (f:=.cell B 1 u1) (by simp[Fact.at,go_sem,c0,c1,c2,c3])).add (f:=.cell B 0 u0) (by simp[Fact.at,go_sem,c0,c1,c2,c3])
def two (B C:Nat) (f0 f1 f2 f3 t0 t1 t2 t3:Value):List Fact:=
 [.cell B 0 f0,.cell B 1 f1,.cell B 2 f2,.cell B 3 f3,.cell C 0 t0,.cell C 1 t1,.cell C 2 t2,.cell C 3 t3,.free B 0,.free B 1,.free B 2,.free B 3,.free C 0,.free C 1,.free C 2,.free C 3,zAa]
theorem zt {P:Prop} (h:P:=by simp[two]):P:=h
theorem zqeju {P:Prop} (h:P:=by
 simp only[List.mem_cons,List.not_mem_nil,or_false,forall_eq_or_imp,forall_eq]
 exact⟨hBC,hBC,hBC,hBC,trivial,trivial,trivial,trivial,trivial,trivial,trivial,trivial,hL⟩):P:=h
theorem Held.putF {w W:World} {B C:Nat} {f0 f1 f2 f3 t0 t1 t2 t3:Value} (h:Held w (two B C f0 f1 f2 f3 t0 t1 t2 t3) W) (u0 u1 u2 u3:Value) (hB:w.heap.size≤B) (hBC:C≠B) (hL:zAa.off B) :
  Held w (two B C u0 u1 u2 u3 t0 t1 t2 t3) ((((W.setCell ⟨B,0,none⟩ u0).setCell ⟨B,1,none⟩ u1).setCell ⟨B,2,none⟩ u2).setCell ⟨B,3,none⟩ u3):=by
 have a:Held w [.cell C 0 t0,.cell C 1 t1,.cell C 2 t2,.cell C 3 t3,.free B 0,.free B 1,.free B 2,.free B 3,.free C 0,.free C 1,.free C 2,.free C 3,zAa] W:=h.sub zt
 have off:∀f∈[Fact.cell C 0 t0,.cell C 1 t1,.cell C 2 t2,.cell C 3 t3,.free B 0,.free B 1,.free B 2,.free B 3,.free C 0,.free C 1,.free C 2,.free C 3,zAa],f.off B:=by
  exact zqeju
 exact a.put4 B u0 u1 u2 u3 f0 f1 f2 f3 hB off (h.cell B 0 f0 zt) (h.cell B 1 f1 zt) (h.cell B 2 f2 zt) (h.cell B 3 f3 zt)
theorem Held.putT {w W:World} {B C:Nat} {f0 f1 f2 f3 t0 t1 t2 t3:Value} (h:Held w (two B C f0 f1 f2 f3 t0 t1 t2 t3) W) (u0 u1 u2 u3:Value) (hC:w.heap.size≤C) (hBC:B≠C) (hL:zAa.off C) :
  Held w (two B C f0 f1 f2 f3 u0 u1 u2 u3) ((((W.setCell ⟨C,0,none⟩ u0).setCell ⟨C,1,none⟩ u1).setCell ⟨C,2,none⟩ u2).setCell ⟨C,3,none⟩ u3):=by
 have a:Held w [.cell B 0 f0,.cell B 1 f1,.cell B 2 f2,.cell B 3 f3,.free B 0,.free B 1,.free B 2,.free B 3,.free C 0,.free C 1,.free C 2,.free C 3,zAa] W:=h.sub zt
 have off:∀f∈[Fact.cell B 0 f0,.cell B 1 f1,.cell B 2 f2,.cell B 3 f3,.free B 0,.free B 1,.free B 2,.free B 3,.free C 0,.free C 1,.free C 2,.free C 3,zAa],f.off C:=by
  exact zqeju
 exact (a.put4 C u0 u1 u2 u3 t0 t1 t2 t3 hC off (h.cell C 0 t0 zt) (h.cell C 1 t1 zt) (h.cell C 2 t2 zt) (h.cell C 3 t3 zt)).sub zt
theorem zqfyv {P:Prop} (h:P:=by
 revert H
 generalize World.setCell _ _ _=W9
 intro H
 have HB:=H.old
 have cf0:=H.cell w 0 (0:Int) zt
 have ff0:=H.frozen w 0 zt
 have cf1:=H.cell w 1 (0:Int) zt
 have ff1:=H.frozen w 1 zt
 have cf2:=H.cell w 2 false zt
 have ff2:=H.frozen w 2 zt
 have cf3:=H.cell w 3 (0:Int) zt
 have ff3:=H.frozen w 3 zt
 have lf:=H.lt w 0 (0:Int) zt
 have ct0:=H.cell (w+1) 0 (0:Int) zt
 have ft0:=H.frozen (w+1) 0 zt
 have ct1:=H.cell (w+1) 1 (0:Int) zt
 have ft1:=H.frozen (w+1) 1 zt
 have ct2:=H.cell (w+1) 2 false zt
 have ft2:=H.frozen (w+1) 2 zt
 have ct3:=H.cell (w+1) 3 (0:Int) zt
 have ft3:=H.frozen (w+1) 3 zt
 have lt:=H.lt (w+1) 0 (0:Int) zt
 exact bodyPost_ret (v:=.tuple #[.agg #[(0:Int),(0:Int),false,(0:Int)],.agg #[(0:Int),(0:Int),false,(0:Int)],(3:Int)]) (by simp[results,Tryz.results150,go_sem,cf0,cf1,cf2,cf3,ct0,ct1,ct2,ct3]) rfl ⟨rfl,HB⟩):P:=h
theorem both_no1 (a b:Int) (w:World) (RD:Hid ReadSays) (hL:Lens w) (h1:zFj a 0 0 0 false 3) :
  Calls Tryz.prog 150 #[a,b] w fun e' w'=>e'=.returned (.tuple #[.agg #[(0:Int),(0:Int),false,(0:Int)],.agg #[(0:Int),(0:Int),false,(0:Int)],(3:Int)])∧Below w w w':=by
 have H:=(Held.start w).add (f:=zAa) hL
 have OF:Hid (∀B,w.heap.size≤B→zAa.off B):=zh (fun B h=>hL.off7 h)
 have S1:=zh h1
 clear h1
 clear hL
 go_enter Tryz.func150,Tryz.ntmps150
 go_wp2_with fail
 replace H:=((H.quad w (0:Int) (0:Int) false (0:Int) 187 rfl).quad (w+1) (0:Int) (0:Int) false (0:Int) 187 zs)
 revert H
 with_reducible refine zG (fun H=>RD.out.says a 0 0 0 3 false _ (H.lens i16_) S1.out) ?_
 intro w1 H
 replace H:Held w (two w (w+1) (0:Int) (0:Int) false (0:Int) (0:Int) (0:Int) false (0:Int)) w1:=H.sub zt
 have cf0:=H.cell w 0 (0:Int) zt
 have ff0:=H.frozen w 0 zt
 have cf1:=H.cell w 1 (0:Int) zt
 have ff1:=H.frozen w 1 zt
 have cf2:=H.cell w 2 false zt
 have ff2:=H.frozen w 2 zt
 have cf3:=H.cell w 3 (0:Int) zt
 have ff3:=H.frozen w 3 zt
 have lf:=H.lt w 0 (0:Int) zt
 have ct0:=H.cell (w+1) 0 (0:Int) zt
 have ft0:=H.frozen (w+1) 0 zt
 have ct1:=H.cell (w+1) 1 (0:Int) zt
 have ft1:=H.frozen (w+1) 1 zt
 have ct2:=H.cell (w+1) 2 false zt
 have ft2:=H.frozen (w+1) 2 zt
 have ct3:=H.cell (w+1) 3 (0:Int) zt
 have ft3:=H.frozen (w+1) 3 zt
 have lt:=H.lt (w+1) 0 (0:Int) zt
 go_wp2_with fail
 clear cf0 cf1 cf2 cf3 ct0 ct1 ct2 ct3 ff0 ff1 ff2 ff3 ft0 ft1 ft2 ft3 lf lt
 replace H:=(((H.putF (0:Int) (0:Int) false (0:Int) zs zs (OF.out _ zs)).putF (0:Int) (0:Int) false (0:Int) zs zs (OF.out _ zs)).putT (0:Int) (0:Int) false (0:Int) zs zs (OF.out _ zs))
 exact zqfyv
theorem both_no2 (a b y1 m1 d1:Int) (l1:Bool) (w:World) (RD:Hid ReadSays) (hL:Lens w) (h1:zFj a y1 m1 d1 l1 0) (h2:zFj b 0 0 0 false 3) :
  Calls Tryz.prog 150 #[a,b] w fun e' w'=>e'=.returned (.tuple #[.agg #[(0:Int),(0:Int),false,(0:Int)],.agg #[(0:Int),(0:Int),false,(0:Int)],(3:Int)])∧Below w w w':=by
 have H:=(Held.start w).add (f:=zAa) hL
 have OF:Hid (∀B,w.heap.size≤B→zAa.off B):=zh (fun B h=>hL.off7 h)
 have S1:=zh h1
 have S2:=zh h2
 clear h1 h2
 clear hL
 go_enter Tryz.func150,Tryz.ntmps150
 go_wp2_with fail
 replace H:=((H.quad w (0:Int) (0:Int) false (0:Int) 187 rfl).quad (w+1) (0:Int) (0:Int) false (0:Int) 187 zs)
 revert H
 with_reducible refine zG (fun H=>RD.out.says a y1 m1 d1 0 l1 _ (H.lens i16_) S1.out) ?_
 intro w1 H
 replace H:Held w (two w (w+1) (0:Int) (0:Int) false (0:Int) (0:Int) (0:Int) false (0:Int)) w1:=H.sub zt
 have cf0:=H.cell w 0 (0:Int) zt
 have ff0:=H.frozen w 0 zt
 have cf1:=H.cell w 1 (0:Int) zt
 have ff1:=H.frozen w 1 zt
 have cf2:=H.cell w 2 false zt
 have ff2:=H.frozen w 2 zt
 have cf3:=H.cell w 3 (0:Int) zt
 have ff3:=H.frozen w 3 zt
 have lf:=H.lt w 0 (0:Int) zt
 have ct0:=H.cell (w+1) 0 (0:Int) zt
 have ft0:=H.frozen (w+1) 0 zt
 have ct1:=H.cell (w+1) 1 (0:Int) zt
 have ft1:=H.frozen (w+1) 1 zt
 have ct2:=H.cell (w+1) 2 false zt
 have ft2:=H.frozen (w+1) 2 zt
 have ct3:=H.cell (w+1) 3 (0:Int) zt
 have ft3:=H.frozen (w+1) 3 zt
 have lt:=H.lt (w+1) 0 (0:Int) zt
 go_wp2_with fail
 clear cf0 cf1 cf2 cf3 ct0 ct1 ct2 ct3 ff0 ff1 ff2 ff3 ft0 ft1 ft2 ft3 lf lt
 replace H:=(H.putF m1 d1 l1 y1 zs zs (OF.out _ zs))
 revert H
 with_reducible refine zG (fun H=>RD.out.says b 0 0 0 3 false _ (H.lens zt) S2.out) ?_
 intro w2 H
 have cf0:=H.cell w 0 m1 zt
 have ff0:=H.frozen w 0 zt
 have cf1:=H.cell w 1 d1 zt
 have ff1:=H.frozen w 1 zt
 have cf2:=H.cell w 2 l1 zt
 have ff2:=H.frozen w 2 zt
 have cf3:=H.cell w 3 y1 zt
 have ff3:=H.frozen w 3 zt
 have lf:=H.lt w 0 m1 zt
 have ct0:=H.cell (w+1) 0 (0:Int) zt
 have ft0:=H.frozen (w+1) 0 zt
 have ct1:=H.cell (w+1) 1 (0:Int) zt
 have ft1:=H.frozen (w+1) 1 zt
 have ct2:=H.cell (w+1) 2 false zt
 have ft2:=H.frozen (w+1) 2 zt
 have ct3:=H.cell (w+1) 3 (0:Int) zt
 have ft3:=H.frozen (w+1) 3 zt
 have lt:=H.lt (w+1) 0 (0:Int) zt
 go_wp2_with fail
 clear cf0 cf1 cf2 cf3 ct0 ct1 ct2 ct3 ff0 ff1 ff2 ff3 ft0 ft1 ft2 ft3 lf lt
 replace H:=(((H.putT (0:Int) (0:Int) false (0:Int) zs zs (OF.out _ zs)).putF (0:Int) (0:Int) false (0:Int) zs zs (OF.out _ zs)).putT (0:Int) (0:Int) false (0:Int) zs zs (OF.out _ zs))
 exact zqfyv
theorem both_gt (a b y1 m1 d1 y2 m2 d2:Int) (l1 l2:Bool) (w:World) (RD:Hid ReadSays) (hL:Lens w) (h1:zFj a y1 m1 d1 l1 0) (h2:zFj b y2 m2 d2 l2 0) (h:a>b) :
  Calls Tryz.prog 150 #[a,b] w fun e' w'=>e'=.returned (.tuple #[.agg #[(0:Int),(0:Int),false,(0:Int)],.agg #[(0:Int),(0:Int),false,(0:Int)],(4:Int)])∧Below w w w':=by
 have H:=(Held.start w).add (f:=zAa) hL
 have OF:Hid (∀B,w.heap.size≤B→zAa.off B):=zh (fun B h=>hL.off7 h)
 have S1:=zh h1
 have S2:=zh h2
 clear h1 h2
 clear hL
 go_enter Tryz.func150,Tryz.ntmps150
 go_wp2_with fail
 replace H:=((H.quad w (0:Int) (0:Int) false (0:Int) 187 rfl).quad (w+1) (0:Int) (0:Int) false (0:Int) 187 zs)
 revert H
 with_reducible refine zG (fun H=>RD.out.says a y1 m1 d1 0 l1 _ (H.lens i16_) S1.out) ?_
 intro w1 H
 replace H:Held w (two w (w+1) (0:Int) (0:Int) false (0:Int) (0:Int) (0:Int) false (0:Int)) w1:=H.sub zt
 have cf0:=H.cell w 0 (0:Int) zt
 have ff0:=H.frozen w 0 zt
 have cf1:=H.cell w 1 (0:Int) zt
 have ff1:=H.frozen w 1 zt
 have cf2:=H.cell w 2 false zt
 have ff2:=H.frozen w 2 zt
 have cf3:=H.cell w 3 (0:Int) zt
 have ff3:=H.frozen w 3 zt
 have lf:=H.lt w 0 (0:Int) zt
 have ct0:=H.cell (w+1) 0 (0:Int) zt
 have ft0:=H.frozen (w+1) 0 zt
 have ct1:=H.cell (w+1) 1 (0:Int) zt
 have ft1:=H.frozen (w+1) 1 zt
 have ct2:=H.cell (w+1) 2 false zt
 have ft2:=H.frozen (w+1) 2 zt
 have ct3:=H.cell (w+1) 3 (0:Int) zt
 have ft3:=H.frozen (w+1) 3 zt
 have lt:=H.lt (w+1) 0 (0:Int) zt
 go_wp2_with fail
 clear cf0 cf1 cf2 cf3 ct0 ct1 ct2 ct3 ff0 ff1 ff2 ff3 ft0 ft1 ft2 ft3 lf lt
 replace H:=(H.putF m1 d1 l1 y1 zs zs (OF.out _ zs))
 revert H
 with_reducible refine zG (fun H=>RD.out.says b y2 m2 d2 0 l2 _ (H.lens zt) S2.out) ?_
 intro w2 H
 have cf0:=H.cell w 0 m1 zt
 have ff0:=H.frozen w 0 zt
 have cf1:=H.cell w 1 d1 zt
 have ff1:=H.frozen w 1 zt
 have cf2:=H.cell w 2 l1 zt
 have ff2:=H.frozen w 2 zt
 have cf3:=H.cell w 3 y1 zt
 have ff3:=H.frozen w 3 zt
 have lf:=H.lt w 0 m1 zt
 have ct0:=H.cell (w+1) 0 (0:Int) zt
 have ft0:=H.frozen (w+1) 0 zt
 have ct1:=H.cell (w+1) 1 (0:Int) zt
 have ft1:=H.frozen (w+1) 1 zt
 have ct2:=H.cell (w+1) 2 false zt
 have ft2:=H.frozen (w+1) 2 zt
 have ct3:=H.cell (w+1) 3 (0:Int) zt
 have ft3:=H.frozen (w+1) 3 zt
 have lt:=H.lt (w+1) 0 (0:Int) zt
 go_wp2_with fail
 clear cf0 cf1 cf2 cf3 ct0 ct1 ct2 ct3 ff0 ff1 ff2 ff3 ft0 ft1 ft2 ft3 lf lt
 replace H:=(((H.putT m2 d2 l2 y2 zs zs (OF.out _ zs)).putF (0:Int) (0:Int) false (0:Int) zs zs (OF.out _ zs)).putT (0:Int) (0:Int) false (0:Int) zs zs (OF.out _ zs))
 revert H
 generalize World.setCell _ _ _=W9
 intro H
 have HB:=H.old
 have cf0:=H.cell w 0 (0:Int) zt
 have ff0:=H.frozen w 0 zt
 have cf1:=H.cell w 1 (0:Int) zt
 have ff1:=H.frozen w 1 zt
 have cf2:=H.cell w 2 false zt
 have ff2:=H.frozen w 2 zt
 have cf3:=H.cell w 3 (0:Int) zt
 have ff3:=H.frozen w 3 zt
 have lf:=H.lt w 0 (0:Int) zt
 have ct0:=H.cell (w+1) 0 (0:Int) zt
 have ft0:=H.frozen (w+1) 0 zt
 have ct1:=H.cell (w+1) 1 (0:Int) zt
 have ft1:=H.frozen (w+1) 1 zt
 have ct2:=H.cell (w+1) 2 false zt
 have ft2:=H.frozen (w+1) 2 zt
 have ct3:=H.cell (w+1) 3 (0:Int) zt
 have ft3:=H.frozen (w+1) 3 zt
 have lt:=H.lt (w+1) 0 (0:Int) zt
 exact bodyPost_ret (v:=.tuple #[.agg #[(0:Int),(0:Int),false,(0:Int)],.agg #[(0:Int),(0:Int),false,(0:Int)],(4:Int)]) (by simp[results,Tryz.results150,go_sem,cf0,cf1,cf2,cf3,ct0,ct1,ct2,ct3]) rfl ⟨rfl,HB⟩
theorem both_ok (a b y1 m1 d1 y2 m2 d2:Int) (l1 l2:Bool) (w:World) (RD:Hid ReadSays) (hL:Lens w) (h1:zFj a y1 m1 d1 l1 0) (h2:zFj b y2 m2 d2 l2 0) (h:¬a>b) :
  Calls Tryz.prog 150 #[a,b] w fun e' w'=>e'=.returned (.tuple #[.agg #[m1,d1,l1,y1],.agg #[m2,d2,l2,y2],(0:Int)])∧Below w w w':=by
 have H:=(Held.start w).add (f:=zAa) hL
 have OF:Hid (∀B,w.heap.size≤B→zAa.off B):=zh (fun B h=>hL.off7 h)
 have S1:=zh h1
 have S2:=zh h2
 clear h1 h2
 clear hL
 go_enter Tryz.func150,Tryz.ntmps150
 go_wp2_with fail
 replace H:=((H.quad w (0:Int) (0:Int) false (0:Int) 187 rfl).quad (w+1) (0:Int) (0:Int) false (0:Int) 187 zs)
 revert H
 with_reducible refine zG (fun H=>RD.out.says a y1 m1 d1 0 l1 _ (H.lens i16_) S1.out) ?_
 intro w1 H
 replace H:Held w (two w (w+1) (0:Int) (0:Int) false (0:Int) (0:Int) (0:Int) false (0:Int)) w1:=H.sub zt
 have cf0:=H.cell w 0 (0:Int) zt
 have ff0:=H.frozen w 0 zt
 have cf1:=H.cell w 1 (0:Int) zt
 have ff1:=H.frozen w 1 zt
 have cf2:=H.cell w 2 false zt
 have ff2:=H.frozen w 2 zt
 have cf3:=H.cell w 3 (0:Int) zt
 have ff3:=H.frozen w 3 zt
 have lf:=H.lt w 0 (0:Int) zt
 have ct0:=H.cell (w+1) 0 (0:Int) zt
 have ft0:=H.frozen (w+1) 0 zt
 have ct1:=H.cell (w+1) 1 (0:Int) zt
 have ft1:=H.frozen (w+1) 1 zt
 have ct2:=H.cell (w+1) 2 false zt
 have ft2:=H.frozen (w+1) 2 zt
 have ct3:=H.cell (w+1) 3 (0:Int) zt
 have ft3:=H.frozen (w+1) 3 zt
 have lt:=H.lt (w+1) 0 (0:Int) zt
 go_wp2_with fail
 clear cf0 cf1 cf2 cf3 ct0 ct1 ct2 ct3 ff0 ff1 ff2 ff3 ft0 ft1 ft2 ft3 lf lt
 replace H:=(H.putF m1 d1 l1 y1 zs zs (OF.out _ zs))
 revert H
 with_reducible refine zG (fun H=>RD.out.says b y2 m2 d2 0 l2 _ (H.lens zt) S2.out) ?_
 intro w2 H
 have cf0:=H.cell w 0 m1 zt
 have ff0:=H.frozen w 0 zt
 have cf1:=H.cell w 1 d1 zt
 have ff1:=H.frozen w 1 zt
 have cf2:=H.cell w 2 l1 zt
 have ff2:=H.frozen w 2 zt
 have cf3:=H.cell w 3 y1 zt
 have ff3:=H.frozen w 3 zt
 have lf:=H.lt w 0 m1 zt
 have ct0:=H.cell (w+1) 0 (0:Int) zt
 have ft0:=H.frozen (w+1) 0 zt
 have ct1:=H.cell (w+1) 1 (0:Int) zt
 have ft1:=H.frozen (w+1) 1 zt
 have ct2:=H.cell (w+1) 2 false zt
 have ft2:=H.frozen (w+1) 2 zt
 have ct3:=H.cell (w+1) 3 (0:Int) zt
 have ft3:=H.frozen (w+1) 3 zt
 have lt:=H.lt (w+1) 0 (0:Int) zt
 go_wp2_with fail
 clear cf0 cf1 cf2 cf3 ct0 ct1 ct2 ct3 ff0 ff1 ff2 ff3 ft0 ft1 ft2 ft3 lf lt
 replace H:=(H.putT m2 d2 l2 y2 zs zs (OF.out _ zs))
 revert H
 generalize World.setCell _ _ _=W9
 intro H
 have HB:=H.old
 have cf0:=H.cell w 0 m1 zt
 have ff0:=H.frozen w 0 zt
 have cf1:=H.cell w 1 d1 zt
 have ff1:=H.frozen w 1 zt
 have cf2:=H.cell w 2 l1 zt
 have ff2:=H.frozen w 2 zt
 have cf3:=H.cell w 3 y1 zt
 have ff3:=H.frozen w 3 zt
 have lf:=H.lt w 0 m1 zt
 have ct0:=H.cell (w+1) 0 m2 zt
 have ft0:=H.frozen (w+1) 0 zt
 have ct1:=H.cell (w+1) 1 d2 zt
 have ft1:=H.frozen (w+1) 1 zt
 have ct2:=H.cell (w+1) 2 l2 zt
 have ft2:=H.frozen (w+1) 2 zt
 have ct3:=H.cell (w+1) 3 y2 zt
 have ft3:=H.frozen (w+1) 3 zt
 have lt:=H.lt (w+1) 0 m2 zt
 go_region
 clear cf0 cf1 cf2 cf3 ct0 ct1 ct2 ct3 ff0 ff1 ff2 ff3 ft0 ft1 ft2 ft3 lf lt
 replace H:=(H.putF m1 d1 l1 y1 zs zs (OF.out _ zs))
 replace H:=(H.putT m2 d2 l2 y2 zs zs (OF.out _ zs))
 revert H
 clear HB
 generalize World.setCell _ _ _=W8
 intro H
 have HB:=H.drew.old
 have cf0:=H.cell w 0 m1 zt
 have ff0:=H.frozen w 0 zt
 have cf1:=H.cell w 1 d1 zt
 have ff1:=H.frozen w 1 zt
 have cf2:=H.cell w 2 l1 zt
 have ff2:=H.frozen w 2 zt
 have cf3:=H.cell w 3 y1 zt
 have ff3:=H.frozen w 3 zt
 have lf:=H.lt w 0 m1 zt
 have ct0:=H.cell (w+1) 0 m2 zt
 have ft0:=H.frozen (w+1) 0 zt
 have ct1:=H.cell (w+1) 1 d2 zt
 have ft1:=H.frozen (w+1) 1 zt
 have ct2:=H.cell (w+1) 2 l2 zt
 have ft2:=H.frozen (w+1) 2 zt
 have ct3:=H.cell (w+1) 3 y2 zt
 have ft3:=H.frozen (w+1) 3 zt
 have lt:=H.lt (w+1) 0 m2 zt
 go_wp2_with fail
 exact bodyPost_ret (v:=.tuple #[.agg #[m1,d1,l1,y1],.agg #[m2,d2,l2,y2],(0:Int)]) (by simp[results,Tryz.results150,go_sem,cf0,cf1,cf2,cf3,ct0,ct1,ct2,ct3]) rfl ⟨rfl,HB⟩
end Go.Proofs.YtpfgdfpaoldhcaaGreatDoor
namespace Go.Proofs.YtpfgdfpaoldhcaaGreatDoor
open Go.RowKit
theorem us_no3 (a b:Int) (t:Bool) (w:World) (hL:Lens w) (BC:Hid (∀v,Lens v→Calls Tryz.prog 150 #[a,b] v fun e' w'=>e'=.returned (.tuple #[.agg #[(0:Int),(0:Int),false,(0:Int)],.agg #[(0:Int),(0:Int),false,(0:Int)],(3:Int)])∧Below v v w'))  :
  Calls Tryz.prog 148 #[a,b,t] w fun e' w'=>e'=.returned (.tuple #[.agg #[(0:Int),(0:Int)],(3:Int)])∧Below w w w':=by
 have H:=(Held.start w).add (f:=zAa) hL
 have hmf:=zHM
 clear hL
 go_enter Tryz.func148,Tryz.ntmps148
 go_wp2_with fail
 replace H:=(H.pair w (0:Int) (0:Int) 48 rfl)
 revert H
 with_reducible refine zG (fun H=>BC.out _ (H.lens i4_)) ?_
 intro w1 H
 obtain⟨cz0,cz1⟩:=H.cells2 w
 have lz:=H.lt w 0 (0:Int) i0_
 obtain⟨fz0,fz1⟩:=H.frozens2 w
 go_wp2_with fail
 have lz2:w.heap.size<w1.heap.size+1:=zo
 exact bodyPost_ret (v:=.tuple #[.agg #[(0:Int),(0:Int)],(3:Int)]) (by simp[results,Tryz.results148,go_sem,cz0,cz1,lz,lz2]) rfl ⟨rfl,((((H.old.setCell zw _).setCell zw _).alloc zw _).alloc zw _)⟩
theorem e_no3 (a b:Int) (w:World) (hL:Lens w) (BC:Hid (∀v,Lens v→Calls Tryz.prog 150 #[a,b] v fun e' w'=>e'=.returned (.tuple #[.agg #[(0:Int),(0:Int),false,(0:Int)],.agg #[(0:Int),(0:Int),false,(0:Int)],(3:Int)])∧Below v v w'))  :
  Calls Tryz.prog 129 #[a,b] w fun e' w'=>e'=.returned (.tuple #[.agg #[(0:Int),(0:Int)],(3:Int)])∧Below w w w':=by
 have H:=(Held.start w).add (f:=zAa) hL
 have hmf:=zHM
 clear hL
 go_enter Tryz.func129,Tryz.ntmps129
 go_wp2_with fail
 replace H:=(H.pair w (0:Int) (0:Int) 48 rfl)
 revert H
 with_reducible refine zG (fun H=>BC.out _ (H.lens i4_)) ?_
 intro w1 H
 obtain⟨cz0,cz1⟩:=H.cells2 w
 have lz:=H.lt w 0 (0:Int) i0_
 obtain⟨fz0,fz1⟩:=H.frozens2 w
 go_wp2_with fail
 have lz2:w.heap.size<w1.heap.size+1:=zo
 exact bodyPost_ret (v:=.tuple #[.agg #[(0:Int),(0:Int)],(3:Int)]) (by simp[results,Tryz.results129,go_sem,cz0,cz1,lz,lz2]) rfl ⟨rfl,((((H.old.setCell zw _).setCell zw _).alloc zw _).alloc zw _)⟩
theorem isda_no3 (a b k:Int) (w:World) (hL:Lens w) (BC:Hid (∀v,Lens v→Calls Tryz.prog 150 #[a,b] v fun e' w'=>e'=.returned (.tuple #[.agg #[(0:Int),(0:Int),false,(0:Int)],.agg #[(0:Int),(0:Int),false,(0:Int)],(3:Int)])∧Below v v w'))  :
  Calls Tryz.prog 153 #[a,b,k] w fun e' w'=>e'=.returned (.tuple #[.agg #[(0:Int),(0:Int)],(3:Int)])∧Below w w w':=by
 have H:=(Held.start w).add (f:=zAa) hL
 have hmf:=zHM
 clear hL
 go_enter Tryz.func153,Tryz.ntmps153
 go_wp2_with fail
 replace H:=(H.pair w (0:Int) (0:Int) 48 rfl)
 revert H
 with_reducible refine zG (fun H=>BC.out _ (H.lens i4_)) ?_
 intro w1 H
 obtain⟨cz0,cz1⟩:=H.cells2 w
 have lz:=H.lt w 0 (0:Int) i0_
 obtain⟨fz0,fz1⟩:=H.frozens2 w
 go_wp2_with fail
 have lz2:w.heap.size<w1.heap.size+1:=zo
 exact bodyPost_ret (v:=.tuple #[.agg #[(0:Int),(0:Int)],(3:Int)]) (by simp[results,Tryz.results153,go_sem,cz0,cz1,lz,lz2]) rfl ⟨rfl,((((H.old.setCell zw _).setCell zw _).alloc zw _).alloc zw _)⟩
theorem us_no4 (a b:Int) (t:Bool) (w:World) (hL:Lens w) (BC:Hid (∀v,Lens v→Calls Tryz.prog 150 #[a,b] v fun e' w'=>e'=.returned (.tuple #[.agg #[(0:Int),(0:Int),false,(0:Int)],.agg #[(0:Int),(0:Int),false,(0:Int)],(4:Int)])∧Below v v w'))  :
  Calls Tryz.prog 148 #[a,b,t] w fun e' w'=>e'=.returned (.tuple #[.agg #[(0:Int),(0:Int)],(4:Int)])∧Below w w w':=by
 have H:=(Held.start w).add (f:=zAa) hL
 have hmf:=zHM
 clear hL
 go_enter Tryz.func148,Tryz.ntmps148
 go_wp2_with fail
 replace H:=(H.pair w (0:Int) (0:Int) 48 rfl)
 revert H
 with_reducible refine zG (fun H=>BC.out _ (H.lens i4_)) ?_
 intro w1 H
 obtain⟨cz0,cz1⟩:=H.cells2 w
 have lz:=H.lt w 0 (0:Int) i0_
 obtain⟨fz0,fz1⟩:=H.frozens2 w
 go_wp2_with fail
 have lz2:w.heap.size<w1.heap.size+1:=zo
 exact bodyPost_ret (v:=.tuple #[.agg #[(0:Int),(0:Int)],(4:Int)]) (by simp[results,Tryz.results148,go_sem,cz0,cz1,lz,lz2]) rfl ⟨rfl,((((H.old.setCell zw _).setCell zw _).alloc zw _).alloc zw _)⟩
theorem e_no4 (a b:Int) (w:World) (hL:Lens w) (BC:Hid (∀v,Lens v→Calls Tryz.prog 150 #[a,b] v fun e' w'=>e'=.returned (.tuple #[.agg #[(0:Int),(0:Int),false,(0:Int)],.agg #[(0:Int),(0:Int),false,(0:Int)],(4:Int)])∧Below v v w'))  :
  Calls Tryz.prog 129 #[a,b] w fun e' w'=>e'=.returned (.tuple #[.agg #[(0:Int),(0:Int)],(4:Int)])∧Below w w w':=by
 have H:=(Held.start w).add (f:=zAa) hL
 have hmf:=zHM
 clear hL
 go_enter Tryz.func129,Tryz.ntmps129
 go_wp2_with fail
 replace H:=(H.pair w (0:Int) (0:Int) 48 rfl)
 revert H
 with_reducible refine zG (fun H=>BC.out _ (H.lens i4_)) ?_
 intro w1 H
 obtain⟨cz0,cz1⟩:=H.cells2 w
 have lz:=H.lt w 0 (0:Int) i0_
 obtain⟨fz0,fz1⟩:=H.frozens2 w
 go_wp2_with fail
 have lz2:w.heap.size<w1.heap.size+1:=zo
 exact bodyPost_ret (v:=.tuple #[.agg #[(0:Int),(0:Int)],(4:Int)]) (by simp[results,Tryz.results129,go_sem,cz0,cz1,lz,lz2]) rfl ⟨rfl,((((H.old.setCell zw _).setCell zw _).alloc zw _).alloc zw _)⟩
theorem isda_no4 (a b k:Int) (w:World) (hL:Lens w) (BC:Hid (∀v,Lens v→Calls Tryz.prog 150 #[a,b] v fun e' w'=>e'=.returned (.tuple #[.agg #[(0:Int),(0:Int),false,(0:Int)],.agg #[(0:Int),(0:Int),false,(0:Int)],(4:Int)])∧Below v v w'))  :
  Calls Tryz.prog 153 #[a,b,k] w fun e' w'=>e'=.returned (.tuple #[.agg #[(0:Int),(0:Int)],(4:Int)])∧Below w w w':=by
 have H:=(Held.start w).add (f:=zAa) hL
 have hmf:=zHM
 clear hL
 go_enter Tryz.func153,Tryz.ntmps153
 go_wp2_with fail
 replace H:=(H.pair w (0:Int) (0:Int) 48 rfl)
 revert H
 with_reducible refine zG (fun H=>BC.out _ (H.lens i4_)) ?_
 intro w1 H
 obtain⟨cz0,cz1⟩:=H.cells2 w
 have lz:=H.lt w 0 (0:Int) i0_
 obtain⟨fz0,fz1⟩:=H.frozens2 w
 go_wp2_with fail
 have lz2:w.heap.size<w1.heap.size+1:=zo
 exact bodyPost_ret (v:=.tuple #[.agg #[(0:Int),(0:Int)],(4:Int)]) (by simp[results,Tryz.results153,go_sem,cz0,cz1,lz,lz2]) rfl ⟨rfl,((((H.old.setCell zw _).setCell zw _).alloc zw _).alloc zw _)⟩
theorem e_ok (a b y1 m1 d1 y2 m2 d2 p q:Int) (l1 l2:Bool) (w:World) (hL:Lens w) (BC:Hid (∀v,Lens v→Calls Tryz.prog 150 #[a,b] v fun e' w'=>e'=.returned (.tuple #[.agg #[m1,d1,l1,y1],.agg #[m2,d2,l2,y2],(0:Int)])∧Below v v w')) (PC:Hid (∀v,Calls Tryz.prog 151 #[.agg #[m1,d1,l1,y1],.agg #[m2,d2,l2,y2],.func (.methodOf 187 "demurrage/thirty.cut") #[] #[],.func (.methodOf 187 "demurrage/thirty.cut") #[] #[]] v fun e' w'=>e'=.returned (.tuple #[.agg #[p,q],(0:Int)])∧Below v v w')) :
  Calls Tryz.prog 129 #[a,b] w fun e' w'=>e'=.returned (.tuple #[.agg #[p,q],(0:Int)])∧Below w w w':=by
 have H:=(Held.start w).add (f:=zAa) hL
 have hmf:=zHM
 clear hL
 go_enter Tryz.func129,Tryz.ntmps129
 go_wp2_with fail
 replace H:=(H.pair w (0:Int) (0:Int) 48 rfl)
 revert H
 with_reducible refine zG (fun H=>BC.out _ (H.lens i4_)) ?_
 intro w1 H
 go_wp2_with fail
 replace H:=((H.quad w1 m1 d1 l1 y1 187 rfl).quad (w1+1) m2 d2 l2 y2 187 zs)
 revert H
 with_reducible refine zG (fun _=>PC.out _) ?_
 intro w2 H
 obtain⟨cz0,cz1⟩:=H.cells2 w
 have lz:=H.lt w 0 (0:Int) i16_
 obtain⟨fz0,fz1⟩:=H.frozens2 w
 go_wp2_with fail
 exact bodyPost_ret (v:=.tuple #[.agg #[p,q],(0:Int)]) (by simp[results,Tryz.results129,go_sem,cz0,cz1]) rfl ⟨rfl,(H.old.setCell zw _).setCell zw _⟩
theorem zq3px {P:Prop} (h:P:=by
 obtain⟨cz0,cz1⟩:=H.cells2 w
 have lz:=H.lt w 0 (0:Int) i16_
 obtain⟨fz0,fz1⟩:=H.frozens2 w
 go_wp2_with fail
 exact bodyPost_ret (v:=.tuple #[.agg #[p,q],(0:Int)]) (by simp[results,Tryz.results148,go_sem,cz0,cz1]) rfl ⟨rfl,(H.old.setCell zw _).setCell zw _⟩):P:=h
theorem zqyb8 {P:Prop} (h:P:=by
 have H:=(Held.start w).add (f:=zAa) hL
 have hmf:=zHM
 clear hL
 go_enter Tryz.func148,Tryz.ntmps148
 go_wp2_with fail
 replace H:=(H.pair w (0:Int) (0:Int) 48 rfl)
 revert H
 with_reducible refine zG (fun H=>BC.out _ (H.lens i4_)) ?_
 intro w1 H
 go_wp2_with fail
 replace H:=((H.quad w1 m1 d1 l1 y1 187 rfl).quad (w1+1) m2 d2 l2 y2 187 zs)
 revert H
 with_reducible refine zG (fun _=>PC.out _) ?_
 intro w2 H
 exact zq3px):P:=h
theorem us_f_own (a b y1 m1 d1 y2 m2 d2 p q:Int) (l1 l2:Bool) (w:World) (hL:Lens w) (BC:Hid (∀v,Lens v→Calls Tryz.prog 150 #[a,b] v fun e' w'=>e'=.returned (.tuple #[.agg #[m1,d1,l1,y1],.agg #[m2,d2,l2,y2],(0:Int)])∧Below v v w')) (PC:Hid (∀v,Calls Tryz.prog 151 #[.agg #[m1,d1,l1,y1],.agg #[m2,d2,l2,y2],.func (.methodOf 187 "demurrage/thirty.own") #[] #[],.func (.methodOf 187 "demurrage/thirty.own") #[] #[]] v fun e' w'=>e'=.returned (.tuple #[.agg #[p,q],(0:Int)])∧Below v v w')) (hd:¬d1≥30) :
  Calls Tryz.prog 148 #[a,b,false] w fun e' w'=>e'=.returned (.tuple #[.agg #[p,q],(0:Int)])∧Below w w w':=by
 exact zqyb8
theorem us_f_cut (a b y1 m1 d1 y2 m2 d2 p q:Int) (l1 l2:Bool) (w:World) (hL:Lens w) (BC:Hid (∀v,Lens v→Calls Tryz.prog 150 #[a,b] v fun e' w'=>e'=.returned (.tuple #[.agg #[m1,d1,l1,y1],.agg #[m2,d2,l2,y2],(0:Int)])∧Below v v w')) (PC:Hid (∀v,Calls Tryz.prog 151 #[.agg #[m1,d1,l1,y1],.agg #[m2,d2,l2,y2],.func (.methodOf 187 "demurrage/thirty.cut") #[] #[],.func (.methodOf 187 "demurrage/thirty.cut") #[] #[]] v fun e' w'=>e'=.returned (.tuple #[.agg #[p,q],(0:Int)])∧Below v v w')) (hd:d1≥30) :
  Calls Tryz.prog 148 #[a,b,false] w fun e' w'=>e'=.returned (.tuple #[.agg #[p,q],(0:Int)])∧Below w w w':=by
 exact zqyb8
theorem zq0y5 {P:Prop} (h:P:=by
 intro w2 H
 obtain⟨cf0,cf1,cf2,cf3⟩:=H.cells4 w1
 have lf:=H.lt w1 0 m1 i8_
 obtain⟨ct0,ct1,ct2,ct3⟩:=H.cells4 (w1+1)
 have lt:=H.lt (w1+1) 0 m2 i0_
 go_wp2_with fail
 clear cf0 cf1 cf2 cf3 lf ct0 ct1 ct2 ct3 lt
 revert H
 with_reducible refine zG (fun _=>PC.out _) ?_
 intro w3 H
 exact zq3px):P:=h
theorem zqwr1 {P:Prop} (h:P:=by
 have H:=(Held.start w).add (f:=zAa) hL
 have hmf:=zHM
 clear hL
 have HF:=zh hf
 clear hf
 go_enter Tryz.func148,Tryz.ntmps148
 go_wp2_with fail
 replace H:=(H.pair w (0:Int) (0:Int) 48 rfl)
 revert H
 with_reducible refine zG (fun H=>BC.out _ (H.lens i4_)) ?_
 intro w1 H
 go_wp2_with fail
 replace H:=((H.quad w1 m1 d1 l1 y1 187 rfl).quad (w1+1) m2 d2 l2 y2 187 zs)
 revert H
 with_reducible refine zG (fun _=>p_feb m1 d1 l1 false _ HF.out) ?_
 exact zq0y5):P:=h
theorem us_t_own (a b y1 m1 d1 y2 m2 d2 p q:Int) (l1 l2:Bool) (w:World) (hL:Lens w) (BC:Hid (∀v,Lens v→Calls Tryz.prog 150 #[a,b] v fun e' w'=>e'=.returned (.tuple #[.agg #[m1,d1,l1,y1],.agg #[m2,d2,l2,y2],(0:Int)])∧Below v v w')) (PC:Hid (∀v,Calls Tryz.prog 151 #[.agg #[m1,d1,l1,y1],.agg #[m2,d2,l2,y2],.func (.methodOf 187 "demurrage/thirty.own") #[] #[],.func (.methodOf 187 "demurrage/thirty.own") #[] #[]] v fun e' w'=>e'=.returned (.tuple #[.agg #[p,q],(0:Int)])∧Below v v w')) (hf:decide (m1=2∧l1=true)=false) (hd:¬d1≥30) :
  Calls Tryz.prog 148 #[a,b,true] w fun e' w'=>e'=.returned (.tuple #[.agg #[p,q],(0:Int)])∧Below w w w':=by
 exact zqwr1
theorem us_t_cut (a b y1 m1 d1 y2 m2 d2 p q:Int) (l1 l2:Bool) (w:World) (hL:Lens w) (BC:Hid (∀v,Lens v→Calls Tryz.prog 150 #[a,b] v fun e' w'=>e'=.returned (.tuple #[.agg #[m1,d1,l1,y1],.agg #[m2,d2,l2,y2],(0:Int)])∧Below v v w')) (PC:Hid (∀v,Calls Tryz.prog 151 #[.agg #[m1,d1,l1,y1],.agg #[m2,d2,l2,y2],.func (.methodOf 187 "demurrage/thirty.cut") #[] #[],.func (.methodOf 187 "demurrage/thirty.cut") #[] #[]] v fun e' w'=>e'=.returned (.tuple #[.agg #[p,q],(0:Int)])∧Below v v w')) (hf:decide (m1=2∧l1=true)=false) (hd:d1≥30) :
  Calls Tryz.prog 148 #[a,b,true] w fun e' w'=>e'=.returned (.tuple #[.agg #[p,q],(0:Int)])∧Below w w w':=by
 exact zqwr1
theorem zUq (a b y1 m1 d1 y2 m2 d2 p q:Int) (l1 l2:Bool) (w:World) (hL:Lens w) (BC:Hid (∀v,Lens v→Calls Tryz.prog 150 #[a,b] v fun e' w'=>e'=.returned (.tuple #[.agg #[m1,d1,l1,y1],.agg #[m2,d2,l2,y2],(0:Int)])∧Below v v w')) (PC:Hid (∀v,Calls Tryz.prog 151 #[.agg #[m1,d1,l1,y1],.agg #[m2,d2,l2,y2],.func (.methodOf 187 "demurrage/thirty.full") #[] #[],.func (.methodOf 187 "demurrage/thirty.full") #[] #[]] v fun e' w'=>e'=.returned (.tuple #[.agg #[p,q],(0:Int)])∧Below v v w')) (hf:decide (m1=2∧l1=true)=true) :
  Calls Tryz.prog 148 #[a,b,true] w fun e' w'=>e'=.returned (.tuple #[.agg #[p,q],(0:Int)])∧Below w w w':=by
 have H:=(Held.start w).add (f:=zAa) hL
 have hmf:=zHM
 clear hL
 have HF:=zh hf
 clear hf
 go_enter Tryz.func148,Tryz.ntmps148
 go_wp2_with fail
 replace H:=(H.pair w (0:Int) (0:Int) 48 rfl)
 revert H
 with_reducible refine zG (fun H=>BC.out _ (H.lens i4_)) ?_
 intro w1 H
 go_wp2_with fail
 replace H:=((H.quad w1 m1 d1 l1 y1 187 rfl).quad (w1+1) m2 d2 l2 y2 187 zs)
 revert H
 with_reducible refine zG (fun _=>p_feb m1 d1 l1 true _ HF.out) ?_
 exact zq0y5
theorem zqto3 {P:Prop} (h:P:=by
 revert H
 with_reducible refine zG (fun _=>PC.out _) ?_
 intro w2 H
 obtain⟨cz0,cz1⟩:=H.cells2 w
 have lz:=H.lt w 0 (0:Int) i16_
 obtain⟨fz0,fz1⟩:=H.frozens2 w
 go_wp2_with fail
 exact bodyPost_ret (v:=.tuple #[.agg #[p,q],(0:Int)]) (by simp[results,Tryz.results153,go_sem,cz0,cz1]) rfl ⟨rfl,(H.old.setCell zw _).setCell zw _⟩):P:=h
theorem isda_own (a b y1 m1 d1 y2 d2 p q:Int) (l1 l2:Bool) (w:World) (hL:Lens w) (BC:Hid (∀v,Lens v→Calls Tryz.prog 150 #[a,b] v fun e' w'=>e'=.returned (.tuple #[.agg #[m1,d1,l1,y1],.agg #[(2:Int),d2,l2,y2],(0:Int)])∧Below v v w')) (PC:Hid (∀v,Calls Tryz.prog 151 #[.agg #[m1,d1,l1,y1],.agg #[(2:Int),d2,l2,y2],.func (.methodOf 187 "demurrage/thirty.full") #[] #[],.func (.methodOf 187 "demurrage/thirty.own") #[] #[]] v fun e' w'=>e'=.returned (.tuple #[.agg #[p,q],(0:Int)])∧Below v v w')) :
  Calls Tryz.prog 153 #[a,b,b] w fun e' w'=>e'=.returned (.tuple #[.agg #[p,q],(0:Int)])∧Below w w w':=by
 have H:=(Held.start w).add (f:=zAa) hL
 have hmf:=zHM
 clear hL
 go_enter Tryz.func153,Tryz.ntmps153
 go_wp2_with fail
 replace H:=(H.pair w (0:Int) (0:Int) 48 rfl)
 revert H
 with_reducible refine zG (fun H=>BC.out _ (H.lens i4_)) ?_
 intro w1 H
 go_wp2_with fail
 replace H:=((H.quad w1 m1 d1 l1 y1 187 rfl).quad (w1+1) (2:Int) d2 l2 y2 187 zs)
 exact zqto3
theorem zqhxz {P:Prop} (h:P:=by
 go_enter Tryz.func153,Tryz.ntmps153
 go_wp2_with fail
 replace H:=(H.pair w (0:Int) (0:Int) 48 rfl)
 revert H
 with_reducible refine zG (fun H=>BC.out _ (H.lens i4_)) ?_
 intro w1 H
 go_wp2_with fail
 replace H:=((H.quad w1 m1 d1 l1 y1 187 rfl).quad (w1+1) m2 d2 l2 y2 187 zs)
 exact zqto3):P:=h
theorem isda_end (a b y1 m1 d1 y2 m2 d2 p q:Int) (l1 l2:Bool) (w:World) (hL:Lens w) (BC:Hid (∀v,Lens v→Calls Tryz.prog 150 #[a,b] v fun e' w'=>e'=.returned (.tuple #[.agg #[m1,d1,l1,y1],.agg #[m2,d2,l2,y2],(0:Int)])∧Below v v w')) (PC:Hid (∀v,Calls Tryz.prog 151 #[.agg #[m1,d1,l1,y1],.agg #[m2,d2,l2,y2],.func (.methodOf 187 "demurrage/thirty.full") #[] #[],.func (.methodOf 187 "demurrage/thirty.full") #[] #[]] v fun e' w'=>e'=.returned (.tuple #[.agg #[p,q],(0:Int)])∧Below v v w')) (hm:m2≠2) :
  Calls Tryz.prog 153 #[a,b,b] w fun e' w'=>e'=.returned (.tuple #[.agg #[p,q],(0:Int)])∧Below w w w':=by
 have H:=(Held.start w).add (f:=zAa) hL
 have hmf:=zHM
 clear hL
 have t1:(m2==2)=false:=beq_eq_false_iff_ne.2 hm
 clear hm
 exact zqhxz
theorem zRe (a b y1 m1 d1 y2 m2 d2 k p q:Int) (l1 l2:Bool) (w:World) (hL:Lens w) (BC:Hid (∀v,Lens v→Calls Tryz.prog 150 #[a,b] v fun e' w'=>e'=.returned (.tuple #[.agg #[m1,d1,l1,y1],.agg #[m2,d2,l2,y2],(0:Int)])∧Below v v w')) (PC:Hid (∀v,Calls Tryz.prog 151 #[.agg #[m1,d1,l1,y1],.agg #[m2,d2,l2,y2],.func (.methodOf 187 "demurrage/thirty.full") #[] #[],.func (.methodOf 187 "demurrage/thirty.full") #[] #[]] v fun e' w'=>e'=.returned (.tuple #[.agg #[p,q],(0:Int)])∧Below v v w')) (hk:b≠k) :
  Calls Tryz.prog 153 #[a,b,k] w fun e' w'=>e'=.returned (.tuple #[.agg #[p,q],(0:Int)])∧Below w w w':=by
 have H:=(Held.start w).add (f:=zAa) hL
 have hmf:=zHM
 clear hL
 have t2:(b==k)=false:=beq_eq_false_iff_ne.2 hk
 clear hk
 exact zqhxz
end Go.Proofs.YtpfgdfpaoldhcaaGreatDoor
namespace Go.Proofs.YtpfgdfpaoldhcaaGreatDoor
open Go.RowKit
theorem zNd (y1 m1 v1 y2 m2 v2:Int):max (360*(y2-y1)+30*(m2-m1)+v2-v1) 0=px y1 m1 v1 y2 m2 v2:=by
 unfold px;rw[Int.max_def];split <;> split <;> omega
theorem zHs (y1 m1 d1 y2 m2 d2 v1 v2 p q:Int) (l1 l2:Bool) (h1:may y1 m1 d1) (h2:may y2 m2 d2) (e1:d1=v1) (e2:d2=v2)
  (hp:rN (px y1 m1 v1 y2 m2 v2) 360=p) (hq:rD (px y1 m1 v1 y2 m2 v2) 360=q) :
  Hid (∀v,Calls Tryz.prog 151 #[.agg #[m1,d1,l1,y1],.agg #[m2,d2,l2,y2],.func (.methodOf 187 "demurrage/thirty.own") #[] #[],.func (.methodOf 187 "demurrage/thirty.own") #[] #[]] v fun e' w'=>e'=.returned (.tuple #[.agg #[p,q],(0:Int)])∧Below v v w'):=by
 have c1:=zAh y1 m1
 have c2:=zAh y2 m2
 obtain⟨a1,a2,a3,a4,a5,a6⟩:=h1
 obtain⟨b1,b2,b3,b4,b5,b6⟩:=h2
 have bv1:0≤v1∧v1≤31:=by rw[←e1];omega
 have bv2:0≤v2∧v2≤31:=by rw[←e2];omega
 have bd:=zSe y1 m1 v1 y2 m2 v2 a1 a2 b1 b2 a3 a4 b3 b4 bv1.1 bv1.2 bv2.1 bv2.2
 have he:=(zCo (zBz _ bd.1 bd.2)).2.2
 exact zh (fun v=>zJu y1 m1 d1 y2 m2 d2 v1 v2 _ p q 0 l1 l2 v ⟨a1,a2⟩ ⟨b1,b2⟩ ⟨a3,a4⟩ ⟨b3,b4⟩ bv1 bv2 e1 e2 rfl (by rw[zNd];exact⟨hp,hq,he⟩))
theorem zFd (y1 m1 d1 y2 m2 d2 v1 v2 p q:Int) (l1 l2:Bool) (h1:may y1 m1 d1) (h2:may y2 m2 d2) (e1:min d1 30=v1) (e2:min d2 30=v2)
  (hp:rN (px y1 m1 v1 y2 m2 v2) 360=p) (hq:rD (px y1 m1 v1 y2 m2 v2) 360=q) :
  Hid (∀v,Calls Tryz.prog 151 #[.agg #[m1,d1,l1,y1],.agg #[m2,d2,l2,y2],.func (.methodOf 187 "demurrage/thirty.cut") #[] #[],.func (.methodOf 187 "demurrage/thirty.cut") #[] #[]] v fun e' w'=>e'=.returned (.tuple #[.agg #[p,q],(0:Int)])∧Below v v w'):=by
 have c1:=zAh y1 m1
 have c2:=zAh y2 m2
 obtain⟨a1,a2,a3,a4,a5,a6⟩:=h1
 obtain⟨b1,b2,b3,b4,b5,b6⟩:=h2
 have bv1:0≤v1∧v1≤31:=by rw[←e1];rw[Int.min_def];split <;> omega
 have bv2:0≤v2∧v2≤31:=by rw[←e2];rw[Int.min_def];split <;> omega
 have bd:=zSe y1 m1 v1 y2 m2 v2 a1 a2 b1 b2 a3 a4 b3 b4 bv1.1 bv1.2 bv2.1 bv2.2
 have he:=(zCo (zBz _ bd.1 bd.2)).2.2
 exact zh (fun v=>zJt y1 m1 d1 y2 m2 d2 v1 v2 _ p q 0 l1 l2 v ⟨a1,a2⟩ ⟨b1,b2⟩ ⟨a3,a4⟩ ⟨b3,b4⟩ bv1 bv2 e1 e2 rfl (by rw[zNd];exact⟨hp,hq,he⟩))
theorem zDh (y1 m1 d1 y2 m2 d2 v1 v2 p q:Int) (l1 l2:Bool) (h1:may y1 m1 d1) (h2:may y2 m2 d2) (e1:(if l1=true then 30 else d1)=v1) (e2:(if l2=true then 30 else d2)=v2)
  (hp:rN (px y1 m1 v1 y2 m2 v2) 360=p) (hq:rD (px y1 m1 v1 y2 m2 v2) 360=q) :
  Hid (∀v,Calls Tryz.prog 151 #[.agg #[m1,d1,l1,y1],.agg #[m2,d2,l2,y2],.func (.methodOf 187 "demurrage/thirty.full") #[] #[],.func (.methodOf 187 "demurrage/thirty.full") #[] #[]] v fun e' w'=>e'=.returned (.tuple #[.agg #[p,q],(0:Int)])∧Below v v w'):=by
 have c1:=zAh y1 m1
 have c2:=zAh y2 m2
 obtain⟨a1,a2,a3,a4,a5,a6⟩:=h1
 obtain⟨b1,b2,b3,b4,b5,b6⟩:=h2
 have bv1:0≤v1∧v1≤31:=by rw[←e1];split <;> omega
 have bv2:0≤v2∧v2≤31:=by rw[←e2];split <;> omega
 have bd:=zSe y1 m1 v1 y2 m2 v2 a1 a2 b1 b2 a3 a4 b3 b4 bv1.1 bv1.2 bv2.1 bv2.2
 have he:=(zCo (zBz _ bd.1 bd.2)).2.2
 exact zh (fun v=>zHb y1 m1 d1 y2 m2 d2 v1 v2 _ p q 0 l1 l2 v ⟨a1,a2⟩ ⟨b1,b2⟩ ⟨a3,a4⟩ ⟨b3,b4⟩ bv1 bv2 e1 e2 rfl (by rw[zNd];exact⟨hp,hq,he⟩))
theorem zLd (y1 m1 d1 y2 m2 d2 v1 v2 p q:Int) (l1 l2:Bool) (h1:may y1 m1 d1) (h2:may y2 m2 d2) (e1:(if l1=true then 30 else d1)=v1) (e2:d2=v2)
  (hp:rN (px y1 m1 v1 y2 m2 v2) 360=p) (hq:rD (px y1 m1 v1 y2 m2 v2) 360=q) :
  Hid (∀v,Calls Tryz.prog 151 #[.agg #[m1,d1,l1,y1],.agg #[m2,d2,l2,y2],.func (.methodOf 187 "demurrage/thirty.full") #[] #[],.func (.methodOf 187 "demurrage/thirty.own") #[] #[]] v fun e' w'=>e'=.returned (.tuple #[.agg #[p,q],(0:Int)])∧Below v v w'):=by
 have c1:=zAh y1 m1
 have c2:=zAh y2 m2
 obtain⟨a1,a2,a3,a4,a5,a6⟩:=h1
 obtain⟨b1,b2,b3,b4,b5,b6⟩:=h2
 have bv1:0≤v1∧v1≤31:=by rw[←e1];split <;> omega
 have bv2:0≤v2∧v2≤31:=by rw[←e2];omega
 have bd:=zSe y1 m1 v1 y2 m2 v2 a1 a2 b1 b2 a3 a4 b3 b4 bv1.1 bv1.2 bv2.1 bv2.2
 have he:=(zCo (zBz _ bd.1 bd.2)).2.2
 exact zh (fun v=>zIp y1 m1 d1 y2 m2 d2 v1 v2 _ p q 0 l1 l2 v ⟨a1,a2⟩ ⟨b1,b2⟩ ⟨a3,a4⟩ ⟨b3,b4⟩ bv1 bv2 e1 e2 rfl (by rw[zNd];exact⟨hp,hq,he⟩))
theorem bo_ok (a b y1 m1 d1 y2 m2 d2:Int) (h1:may y1 m1 d1) (ha:nb y1 m1 d1=a) (h2:may y2 m2 d2) (hb:nb y2 m2 d2=b) (hab:a≤b) :
  Hid (∀v,Lens v→Calls Tryz.prog 150 #[a,b] v fun e' w'=>e'=.returned (.tuple #[.agg #[m1,d1,.bool (decide (d1=ln y1 m1)),y1],.agg #[m2,d2,.bool (decide (d2=ln y2 m2)),y2],(0:Int)])∧Below v v w'):=
 zh (fun v hv=>both_ok a b y1 m1 d1 y2 m2 d2 _ _ v (zh zEw) hv (Or.inl ⟨h1,ha,rfl,rfl⟩) (Or.inl ⟨h2,hb,rfl,rfl⟩) zo)
theorem zQ2 (a b:Int) (h:(a<1∨3652059<a)∨(b<1∨3652059<b)) :
  Hid (∀v,Lens v→Calls Tryz.prog 150 #[a,b] v fun e' w'=>e'=.returned (.tuple #[.agg #[(0:Int),(0:Int),false,(0:Int)],.agg #[(0:Int),(0:Int),false,(0:Int)],(3:Int)])∧Below v v w'):=by
 by_cases ha:a<1∨3652059<a
 ·exact zh (fun v hv=>both_no1 a b v (zh zEw) hv (Or.inr ⟨ha,rfl,rfl,rfl,rfl,rfl⟩))
 ·obtain⟨y1,m1,d1,h1,h2⟩:=zBk a zo zo
  have hb:b<1∨3652059<b:=zo
  exact zh (fun v hv=>both_no2 a b y1 m1 d1 _ v (zh zEw) hv (Or.inl ⟨h1,h2,rfl,rfl⟩) (Or.inr ⟨hb,rfl,rfl,rfl,rfl,rfl⟩))
theorem bo_gt (a b:Int) (ha:1≤a∧a≤3652059) (hb:1≤b∧b≤3652059) (h:b<a) :
  Hid (∀v,Lens v→Calls Tryz.prog 150 #[a,b] v fun e' w'=>e'=.returned (.tuple #[.agg #[(0:Int),(0:Int),false,(0:Int)],.agg #[(0:Int),(0:Int),false,(0:Int)],(4:Int)])∧Below v v w'):=by
 obtain⟨y1,m1,d1,h1,h2⟩:=zBk a ha.1 ha.2
 obtain⟨y2,m2,d2,h3,h4⟩:=zBk b hb.1 hb.2
 exact zh (fun v hv=>both_gt a b y1 m1 d1 y2 m2 d2 _ _ v (zh zEw) hv (Or.inl ⟨h1,h2,rfl,rfl⟩) (Or.inl ⟨h3,h4,rfl,rfl⟩) h)
theorem e_all (a b p q c:Int) (w:World) (hL:Lens w) (h:zBd eX a b p q c):Calls Tryz.prog 129 #[a,b] w fun e w'=>e=.returned (.tuple #[.agg #[p,q],c])∧Below w w w':=by
 rcases h with⟨y1,m1,d1,y2,m2,d2,h1,ha,h2,hb,hab,hp,hq,rfl⟩ | ⟨h,rfl,rfl,rfl⟩ | ⟨h1,h2,h,rfl,rfl,rfl⟩
 ·have k1:cutD d1=min d1 30:=by have:=(zAh y1 m1).2;have:=h1.2.2.2.2.2;unfold cutD;rw[Int.min_def];split <;> split <;> omega
  have k2:cutD d2=min d2 30:=by have:=(zAh y2 m2).2;have:=h2.2.2.2.2.2;unfold cutD;rw[Int.min_def];split <;> split <;> omega
  unfold eX at hp hq
  rw[k1,k2] at hp hq
  exact e_ok a b y1 m1 d1 y2 m2 d2 p q _ _ w hL (bo_ok a b y1 m1 d1 y2 m2 d2 h1 ha h2 hb hab) (zFd y1 m1 d1 y2 m2 d2 _ _ p q _ _ h1 h2 rfl rfl hp hq)
 ·exact e_no3 a b w hL (zQ2 a b h)
 ·exact e_no4 a b w hL (bo_gt a b h1 h2 h)
theorem isda_all (a b k p q c:Int) (w:World) (hL:Lens w) (h:zBd (iX (decide (b=k))) a b p q c):Calls Tryz.prog 153 #[a,b,k] w fun e w'=>e=.returned (.tuple #[.agg #[p,q],c])∧Below w w w':=by
 rcases h with⟨y1,m1,d1,y2,m2,d2,h1,ha,h2,hb,hab,hp,hq,rfl⟩ | ⟨h,rfl,rfl,rfl⟩ | ⟨h1,h2,h,rfl,rfl,rfl⟩
 ·have k1:fulD y1 m1 d1=if decide (d1=ln y1 m1)=true then 30 else d1:=by simp[fulD]
  have bo:=bo_ok a b y1 m1 d1 y2 m2 d2 h1 ha h2 hb hab
  unfold iX at hp hq
  rw[k1] at hp hq
  by_cases hk:b=k
  ·subst hk
   by_cases hm:m2=2
   ·subst hm
    have k2:isB (decide (b=b)) y2 2 d2=d2:=by simp[isB]
    rw[k2] at hp hq
    exact isda_own a b y1 m1 d1 y2 d2 p q _ _ w hL bo (zLd y1 m1 d1 y2 2 d2 _ _ p q _ _ h1 h2 rfl rfl hp hq)
   ·have k2:isB (decide (b=b)) y2 m2 d2=if decide (d2=ln y2 m2)=true then 30 else d2:=by simp[isB,hm]
    rw[k2] at hp hq
    exact isda_end a b y1 m1 d1 y2 m2 d2 p q _ _ w hL bo (zDh y1 m1 d1 y2 m2 d2 _ _ p q _ _ h1 h2 rfl rfl hp hq) hm
  ·have k2:isB (decide (b=k)) y2 m2 d2=if decide (d2=ln y2 m2)=true then 30 else d2:=by simp[isB,hk]
   rw[k2] at hp hq
   exact zRe a b y1 m1 d1 y2 m2 d2 k p q _ _ w hL bo (zDh y1 m1 d1 y2 m2 d2 _ _ p q _ _ h1 h2 rfl rfl hp hq) hk
 ·exact isda_no3 a b k w hL (zQ2 a b h)
 ·exact isda_no4 a b k w hL (bo_gt a b h1 h2 h)
theorem zUo (y1 m1 d1 y2 m2 d2:Int) (h1:may y1 m1 d1) (h2:may y2 m2 d2) (hd:d1≥30):cutD d1=min d1 30∧usC d1 d2=min d2 30:=by
 have:=(zAh y1 m1).2;have:=h1.2.2.2.2.2;have:=(zAh y2 m2).2;have:=h2.2.2.2.2.2
 unfold cutD usC;rw[Int.min_def,Int.min_def]
 refine⟨?_,?_⟩ <;> split <;> split <;> omega
theorem zUp (d1 d2:Int) (hd:¬d1≥30):cutD d1=d1∧usC d1 d2=d2:=by
 unfold cutD usC
 refine⟨?_,?_⟩ <;> split <;> omega
theorem us_full2 (y2 m2 d2:Int) (h2:may y2 m2 d2):usC 30 (if febB y2 m2 d2=true then 30 else d2)=if decide (d2=ln y2 m2)=true then 30 else d2:=by
 have a:=(zAh y2 m2).2;have b:=h2.2.2.2.2.2;have c:=h2.2.2.1;have d:=h2.2.2.2.1
 unfold usC febB
 by_cases hl:d2=ln y2 m2
 ·by_cases hm:m2=2
  ·simp[hl,hm]
  ·have:ln y2 m2=30∨ln y2 m2=31:=by unfold ln l0;rw[if_neg (fun h=>hm h.1)];omega
   simp[hl,hm];omega
 ·simp[hl];omega
theorem us_all (a b p q c:Int) (t:Bool) (w:World) (hL:Lens w) (h:zBd (uX t) a b p q c):Calls Tryz.prog 148 #[a,b,t] w fun e w'=>e=.returned (.tuple #[.agg #[p,q],c])∧Below w w w':=by
 rcases h with⟨y1,m1,d1,y2,m2,d2,h1,ha,h2,hb,hab,hp,hq,rfl⟩ | ⟨h,rfl,rfl,rfl⟩ | ⟨h1,h2,h,rfl,rfl,rfl⟩
 ·have bo:=bo_ok a b y1 m1 d1 y2 m2 d2 h1 ha h2 hb hab
  cases t
  ·have e:uX false y1 m1 d1 y2 m2 d2=px y1 m1 (cutD d1) y2 m2 (usC d1 d2):=by simp[uX,usA,usB]
   rw[e] at hp hq
   by_cases hd:d1≥30
   ·obtain⟨k1,k2⟩:=zUo y1 m1 d1 y2 m2 d2 h1 h2 hd
    rw[k1,k2] at hp hq
    exact us_f_cut a b y1 m1 d1 y2 m2 d2 p q _ _ w hL bo (zFd y1 m1 d1 y2 m2 d2 _ _ p q _ _ h1 h2 rfl rfl hp hq) hd
   ·obtain⟨k1,k2⟩:=zUp d1 d2 hd
    rw[k1,k2] at hp hq
    exact us_f_own a b y1 m1 d1 y2 m2 d2 p q _ _ w hL bo (zHs y1 m1 d1 y2 m2 d2 _ _ p q _ _ h1 h2 rfl rfl hp hq) hd
  ·cases hf:febB y1 m1 d1
   ·have e:uX true y1 m1 d1 y2 m2 d2=px y1 m1 (cutD d1) y2 m2 (usC d1 d2):=by simp[uX,usA,usB,hf]
    have hf2:decide (m1=2∧decide (d1=ln y1 m1)=true)=false:=by unfold febB at hf;simpa using hf
    rw[e] at hp hq
    by_cases hd:d1≥30
    ·obtain⟨k1,k2⟩:=zUo y1 m1 d1 y2 m2 d2 h1 h2 hd
     rw[k1,k2] at hp hq
     exact us_t_cut a b y1 m1 d1 y2 m2 d2 p q _ _ w hL bo (zFd y1 m1 d1 y2 m2 d2 _ _ p q _ _ h1 h2 rfl rfl hp hq) hf2 hd
    ·obtain⟨k1,k2⟩:=zUp d1 d2 hd
     rw[k1,k2] at hp hq
     exact us_t_own a b y1 m1 d1 y2 m2 d2 p q _ _ w hL bo (zHs y1 m1 d1 y2 m2 d2 _ _ p q _ _ h1 h2 rfl rfl hp hq) hf2 hd
   ·have e:uX true y1 m1 d1 y2 m2 d2=px y1 m1 30 y2 m2 (usC 30 (if febB y2 m2 d2=true then 30 else d2)):=by simp[uX,usA,usB,cutD,hf]
    have hf2:decide (m1=2∧decide (d1=ln y1 m1)=true)=true:=by unfold febB at hf;simpa using hf
    have k1:(if decide (d1=ln y1 m1)=true then 30 else d1)=30:=by unfold febB at hf;have:=of_decide_eq_true hf;simp[this.2]
    rw[e,us_full2 y2 m2 d2 h2] at hp hq
    exact zUq a b y1 m1 d1 y2 m2 d2 p q _ _ w hL bo (zDh y1 m1 d1 y2 m2 d2 _ _ p q _ _ h1 h2 k1 rfl hp hq) hf2
 ·exact us_no3 a b t w hL (zQ2 a b h)
 ·exact us_no4 a b t w hL (bo_gt a b h1 h2 h)
theorem zMf:Ways_ty:=⟨us_all,e_all,isda_all⟩
end Go.Proofs.YtpfgdfpaoldhcaaGreatDoor
