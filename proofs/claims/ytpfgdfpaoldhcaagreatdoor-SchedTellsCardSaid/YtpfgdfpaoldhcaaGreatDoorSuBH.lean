/- Several texts in one: RoRef. -/
import Derived.Test.YtpfgdfpaoldhcaaGreatDoorSuBF
set_option maxHeartbeats 8000000
set_option maxRecDepth 100000
set_option linter.unusedVariables false
set_option linter.unusedSimpArgs false
namespace Go.Proofs.YtpfgdfpaoldhcaaGreatDoor
open Go.RowKit
theorem zqqua {P:Prop} (h:P:=by
 have H:=(Held.start w).add (f:=calF c aR cR aD cD) hC
 have C1:=zh (fun v=>zAv n false v (decide_eq_false hn))
 clear hn hS hM hC
 go_enter Tryz.func59,Tryz.ntmps59
 replace H:=H.box_9 w (c.o 0) (c.o 1) (c.o 2) (c.o 3) (c.o 4) (c.o 5) (c.o 6) (.slice aR c.nr cR) (.slice aD c.nd cD) 28 rfl
 exact zqw8x):P:=h
theorem zTd (c:Ca) (aR:Option Addr) (cR:Nat) (aD:Option Addr) (cD:Nat) (n:Int)  (w:World) (hS:c.Small) (hM:∀j,j<c.nr→(c.R j).May) (hC:CalAt w c aR cR aD cD) (hn:¬dy n):Calls Tryz.prog 59 #[.agg #[(c.o 0),(c.o 1),(c.o 2),(c.o 3),(c.o 4),(c.o 5),(c.o 6),.slice aR c.nr cR,.slice aD c.nd cD],n,(1:Int)] w fun e' w'=>e'=.returned (.tuple #[(0:Int),(3:Int)])∧Below w w w':=by
 exact zqqua
theorem zqvb5 {P:Prop} (h:P:=by
 clear hd
 go_wp2_with fail
 with_reducible refine (Q.out).mono ?_
 clear k0 k1 k2 k3 k4 k5 k6 k7 k8 Q
 rintro e w3 ⟨rfl,hb⟩
 replace H:=H.below hb
 clear hb
 go_wp2_with fail
 with_reducible refine (Q2.out _).mono ?_
 rintro e w4 ⟨rfl,rfl⟩
 clear Q2
 cases x <;> cases d
 all_goals
  go_wp2
  go_roundw
  case rel=>exact⟨j+1,_,zo,by go_num,rfl,H⟩
  case measure=>simp[intOf];omega):P:=h
theorem zqq2o {P:Prop} (h:P:=by
 go_wp2_with fail
 with_reducible refine (Q.out).mono ?_
 clear k0 k1 k2 k3 k4 k5 k6 k7 k8 Q
 rintro e w3 ⟨rfl,hb⟩
 exact zqk8k):P:=h
theorem zP3 (c:Ca) (aR:Option Addr) (cR:Nat) (aD:Option Addr) (cD:Nat) (n:Int) (k:Nat) (w:World) (hS:c.Small) (hM:∀j,j<c.nr→(c.R j).May) (hC:CalAt w c aR cR aD cD) (hn:dy n) (hk:k≤60) (hi:c.Is (n+k)) (hno:∀l:Nat,l<k→¬c.Is (n+l)):Calls Tryz.prog 59 #[.agg #[(c.o 0),(c.o 1),(c.o 2),(c.o 3),(c.o 4),(c.o 5),(c.o 6),.slice aR c.nr cR,.slice aD c.nd cD],n,(1:Int)] w fun e' w'=>e'=.returned (.tuple #[(n+k:Int),(0:Int)])∧Below w w w':=by
 have H:=(Held.start w).add (f:=calF c aR cR aD cD) hC
 have HI:=zh hi
 have HN:=zh hno
 clear hi hno
 have C1:=zh (fun v=>zAv n true v (decide_eq_true hn))
 have HS:=zh hS
 have HM:=zh hM
 obtain⟨n1,n2⟩:=hn
 clear hS hM hC
 go_enter Tryz.func59,Tryz.ntmps59
 replace H:=H.box_9 w (c.o 0) (c.o 1) (c.o 2) (c.o 3) (c.o 4) (c.o 5) (c.o 6) (.slice aR c.nr cR) (.slice aD c.nd cD) 28 rfl
 go_wp2_with fail
 with_reducible refine (C1.out _).mono ?_
 rintro e w1 ⟨rfl,rfl⟩
 go_wp2_with fail
 go_loopw [9,10] (fun u i W'=>∃(j:Nat) (x:Bool),j≤k∧i=.int .i64 j∧u=.bool x∧Held w (.cell w 0 (c.o 0)::.cell w 1 (c.o 1)::.cell w 2 (c.o 2)::.cell w 3 (c.o 3)::.cell w 4 (c.o 4)::.cell w 5 (c.o 5)::.cell w 6 (c.o 6)::.cell w 7 (.slice aR c.nr cR)::.cell w 8 (.slice aD c.nd cD)::.free w 0::.free w 1::.free w 2::.free w 3::.free w 4::.free w 5::.free w 6::.free w 7::.free w 8::calF c aR cR aD cD::[]) W') (fun _ i _=>61-(intOf i).toNat)
 case atStart=>exact⟨0,false,zo,rfl,rfl,H⟩
 case round=>
  clear H
  obtain⟨j,x,j1,rfl,rfl,H⟩:=hrel
  have e1:IntKind.i64.wrap ((j:Int)*1)=j:=by rw[IntWalk.i64_in _ zo];omega
  have e2:n+j=n+j:=zo
  obtain⟨k0,k1,k2,k3,k4,k5,k6,k7,k8⟩:=H.cells9 w
  by_cases hj:j<k
  ·have Q:=zh (zCz c aR cR aD cD (n+j) false _ HS.out HM.out (H.cal (i18_)) ⟨fun g=>absurd g zd,fun g=>absurd g (HN.out j hj)⟩)
   obtain⟨d,hd⟩:∃d,decide (1≤(n+j)∧(n+j)≤3652059)=d:=⟨_,rfl⟩
   have Q2:=zh (fun v=>zAv (n+j) d v hd)
   exact zqvb5
  ·obtain rfl:j=k:=zo
   have Q:=zh (zCz c aR cR aD cD (n+j) true _ HS.out HM.out (H.cal (i18_)) ⟨fun _=>HI.out,fun _=>rfl⟩)
   exact zqq2o
theorem zqq2w {P:Prop} (h:P:=by
 have e3:(x||!d)=!d:=by
  rw[←hx,←hd,Bool.eq_iff_iff]
  simp only[Bool.or_eq_true,Bool.not_eq_true',decide_eq_false_iff_not]
  omega
 have HD:=zh hd
 rw[hx]
 clear hd hx
 go_wp2_with fail
 with_reducible refine (Q.out).mono ?_
 clear k0 k1 k2 k3 k4 k5 k6 k7 k8 Q
 rintro e w3 ⟨rfl,hb⟩
 replace H:=H.below hb
 clear hb
 go_wp2_with fail
 with_reducible refine (Q2.out _).mono ?_
 rintro e w4 ⟨rfl,rfl⟩
 clear Q2
 cases x <;> cases d <;> first | (exfalso;revert e3;decide) | skip
 all_goals
  go_wp2
  go_roundw
  case rel=>exact⟨j+1,zo,by go_num,by rw[Nat.add_sub_cancel,HD.out];rfl,H⟩
  case measure=>simp[intOf];omega):P:=h
theorem zLw (c:Ca) (aR:Option Addr) (cR:Nat) (aD:Option Addr) (cD:Nat) (n:Int) (e:Int) (w:World) (hS:c.Small) (hM:∀j,j<c.nr→(c.R j).May) (hC:CalAt w c aR cR aD cD) (hn:dy n) (hno:∀l:Nat,l≤60→¬c.Is (n+l)) (he:(dy (n+60)∧e=8)∨(¬dy (n+60)∧e=3)):Calls Tryz.prog 59 #[.agg #[(c.o 0),(c.o 1),(c.o 2),(c.o 3),(c.o 4),(c.o 5),(c.o 6),.slice aR c.nr cR,.slice aD c.nd cD],n,(1:Int)] w fun e' w'=>e'=.returned (.tuple #[(0:Int),e])∧Below w w w':=by
 have H:=(Held.start w).add (f:=calF c aR cR aD cD) hC
 have HN:=zh hno
 have HE:=zh he
 clear hno he
 have C1:=zh (fun v=>zAv n true v (decide_eq_true hn))
 have HS:=zh hS
 have HM:=zh hM
 obtain⟨n1,n2⟩:=hn
 clear hS hM hC
 go_enter Tryz.func59,Tryz.ntmps59
 replace H:=H.box_9 w (c.o 0) (c.o 1) (c.o 2) (c.o 3) (c.o 4) (c.o 5) (c.o 6) (.slice aR c.nr cR) (.slice aD c.nd cD) 28 rfl
 go_wp2_with fail
 with_reducible refine (C1.out _).mono ?_
 rintro e w1 ⟨rfl,rfl⟩
 go_wp2_with fail
 go_loopw [9,10] (fun u i W'=>∃(j:Nat),j≤61∧i=.int .i64 j∧u=.bool (!decide (1≤(n+((j-1:Nat):Int))∧(n+((j-1:Nat):Int))≤3652059))∧Held w (.cell w 0 (c.o 0)::.cell w 1 (c.o 1)::.cell w 2 (c.o 2)::.cell w 3 (c.o 3)::.cell w 4 (c.o 4)::.cell w 5 (c.o 5)::.cell w 6 (c.o 6)::.cell w 7 (.slice aR c.nr cR)::.cell w 8 (.slice aD c.nd cD)::.free w 0::.free w 1::.free w 2::.free w 3::.free w 4::.free w 5::.free w 6::.free w 7::.free w 8::calF c aR cR aD cD::[]) W') (fun _ i _=>61-(intOf i).toNat)
 case atStart=>
  refine⟨0,zo,rfl,?_,H⟩
  rw[show decide (1≤(n+((0-1:Nat):Int))∧(n+((0-1:Nat):Int))≤3652059)=true from decide_eq_true zo]
  rfl
 case round=>
  clear H
  obtain⟨j,j1,rfl,rfl,H⟩:=hrel
  have e1:IntKind.i64.wrap ((j:Int)*1)=j:=by rw[IntWalk.i64_in _ zo];omega
  have e2:n+j=n+j:=zo
  obtain⟨k0,k1,k2,k3,k4,k5,k6,k7,k8⟩:=H.cells9 w
  by_cases hj:j≤60
  ·have Q:=zh (zCz c aR cR aD cD (n+j) false _ HS.out HM.out (H.cal (i18_)) ⟨fun g=>absurd g zd,fun g=>absurd g (HN.out j hj)⟩)
   obtain⟨d,hd⟩:∃d,decide (1≤(n+j)∧(n+j)≤3652059)=d:=⟨_,rfl⟩
   obtain⟨x,hx⟩:∃x,(!decide (1≤(n+((j-1:Nat):Int))∧(n+((j-1:Nat):Int))≤3652059))=x:=⟨_,rfl⟩
   have Q2:=zh (fun v=>zAv (n+j) d v hd)
   exact zqq2w
  ·obtain rfl:j=61:=zo
   rcases HE.out with⟨he,rfl⟩ | ⟨he,rfl⟩
   ·rw[show decide (1≤(n+((61-1:Nat):Int))∧(n+((61-1:Nat):Int))≤3652059)=true from decide_eq_true (by unfold dy at he;omega)]
    go_wp2
    go_ret2
    exact⟨rfl,H.old⟩
   ·rw[show decide (1≤(n+((61-1:Nat):Int))∧(n+((61-1:Nat):Int))≤3652059)=false from decide_eq_false (by unfold dy at he;omega)]
    go_wp2
    go_ret2
    exact⟨rfl,H.old⟩
theorem rstep_p (c:Ca) (aR:Option Addr) (cR:Nat) (aD:Option Addr) (cD:Nat) (n v e:Int) (w:World) (hS:c.Small) (hM:∀j,j<c.nr→(c.R j).May) (hC:CalAt w c aR cR aD cD) (h:StepIs c (1) n v e):Calls Tryz.prog 59 #[.agg #[(c.o 0),(c.o 1),(c.o 2),(c.o 3),(c.o 4),(c.o 5),(c.o 6),.slice aR c.nr cR,.slice aD c.nd cD],n,(1:Int)] w fun e' w'=>e'=.returned (.tuple #[v,e])∧Below w w w':=by
 have ex:∀j:Int,n+1*j=n+j:=fun j=>by omega
 unfold StepIs at h
 simp only[ex] at h
 rcases h with⟨h1,rfl,rfl⟩ | ⟨h1,k,h2,rfl,h3,h4,rfl⟩ | ⟨h1,h2,rfl,h3⟩
 ·exact zTd c aR cR aD cD n w hS hM hC h1
 ·exact zP3 c aR cR aD cD n k w hS hM hC h1 h2 h3 h4
 ·exact zLw c aR cR aD cD n e w hS hM hC h1 h2 h3
theorem zEc (c:Ca) (aR:Option Addr) (cR:Nat) (aD:Option Addr) (cD:Nat) (n v e:Int) (w:World) (hS:c.Small) (hM:∀j,j<c.nr→(c.R j).May) (hC:CalAt w c aR cR aD cD) (h:StepIs c (1) n v e):Calls Tryz.prog 35 #[.agg #[(c.o 0),(c.o 1),(c.o 2),(c.o 3),(c.o 4),(c.o 5),(c.o 6),.slice aR c.nr cR,.slice aD c.nd cD],n] w fun e' w'=>e'=.returned (.tuple #[v,e])∧Below w w w':=by
 have H:=(Held.start w).add (f:=calF c aR cR aD cD) hC
 have HS:=zh hS
 have HM:=zh hM
 have C:=zh h
 clear hS hM hC h
 go_enter Tryz.func35,Tryz.ntmps35
 replace H:=H.box_9 w (c.o 0) (c.o 1) (c.o 2) (c.o 3) (c.o 4) (c.o 5) (c.o 6) (.slice aR c.nr cR) (.slice aD c.nd cD) 28 rfl
 obtain⟨k0,k1,k2,k3,k4,k5,k6,k7,k8⟩:=H.cells9 w
 go_wp2_with fail
 revert H
 with_reducible refine zG (fun H=>rstep_p c aR cR aD cD n v e _ HS.out HM.out (H.cal (i18_)) C.out) ?_
 intro w1 H
 go_wp2
 go_ret2
 exact⟨rfl,H.old⟩
theorem zTc (c:Ca) (aR:Option Addr) (cR:Nat) (aD:Option Addr) (cD:Nat) (n:Int)  (w:World) (hS:c.Small) (hM:∀j,j<c.nr→(c.R j).May) (hC:CalAt w c aR cR aD cD) (hn:¬dy n):Calls Tryz.prog 59 #[.agg #[(c.o 0),(c.o 1),(c.o 2),(c.o 3),(c.o 4),(c.o 5),(c.o 6),.slice aR c.nr cR,.slice aD c.nd cD],n,(-1:Int)] w fun e' w'=>e'=.returned (.tuple #[(0:Int),(3:Int)])∧Below w w w':=by
 exact zqqua
theorem zP2 (c:Ca) (aR:Option Addr) (cR:Nat) (aD:Option Addr) (cD:Nat) (n:Int) (k:Nat) (w:World) (hS:c.Small) (hM:∀j,j<c.nr→(c.R j).May) (hC:CalAt w c aR cR aD cD) (hn:dy n) (hk:k≤60) (hi:c.Is (n-k)) (hno:∀l:Nat,l<k→¬c.Is (n-l)):Calls Tryz.prog 59 #[.agg #[(c.o 0),(c.o 1),(c.o 2),(c.o 3),(c.o 4),(c.o 5),(c.o 6),.slice aR c.nr cR,.slice aD c.nd cD],n,(-1:Int)] w fun e' w'=>e'=.returned (.tuple #[(n-k:Int),(0:Int)])∧Below w w w':=by
 have H:=(Held.start w).add (f:=calF c aR cR aD cD) hC
 have HI:=zh hi
 have HN:=zh hno
 clear hi hno
 have C1:=zh (fun v=>zAv n true v (decide_eq_true hn))
 have HS:=zh hS
 have HM:=zh hM
 obtain⟨n1,n2⟩:=hn
 clear hS hM hC
 go_enter Tryz.func59,Tryz.ntmps59
 replace H:=H.box_9 w (c.o 0) (c.o 1) (c.o 2) (c.o 3) (c.o 4) (c.o 5) (c.o 6) (.slice aR c.nr cR) (.slice aD c.nd cD) 28 rfl
 go_wp2_with fail
 with_reducible refine (C1.out _).mono ?_
 rintro e w1 ⟨rfl,rfl⟩
 go_wp2_with fail
 go_loopw [9,10] (fun u i W'=>∃(j:Nat) (x:Bool),j≤k∧i=.int .i64 j∧u=.bool x∧Held w (.cell w 0 (c.o 0)::.cell w 1 (c.o 1)::.cell w 2 (c.o 2)::.cell w 3 (c.o 3)::.cell w 4 (c.o 4)::.cell w 5 (c.o 5)::.cell w 6 (c.o 6)::.cell w 7 (.slice aR c.nr cR)::.cell w 8 (.slice aD c.nd cD)::.free w 0::.free w 1::.free w 2::.free w 3::.free w 4::.free w 5::.free w 6::.free w 7::.free w 8::calF c aR cR aD cD::[]) W') (fun _ i _=>61-(intOf i).toNat)
 case atStart=>exact⟨0,false,zo,rfl,rfl,H⟩
 case round=>
  clear H
  obtain⟨j,x,j1,rfl,rfl,H⟩:=hrel
  have e1:IntKind.i64.wrap ((j:Int) * -1) = -j:=by rw[IntWalk.i64_in _ zo];omega
  have e2:n + -(j:Int)=n-j:=zo
  obtain⟨k0,k1,k2,k3,k4,k5,k6,k7,k8⟩:=H.cells9 w
  by_cases hj:j<k
  ·have Q:=zh (zCz c aR cR aD cD (n-j) false _ HS.out HM.out (H.cal (i18_)) ⟨fun g=>absurd g zd,fun g=>absurd g (HN.out j hj)⟩)
   obtain⟨d,hd⟩:∃d,decide (1≤(n-j)∧(n-j)≤3652059)=d:=⟨_,rfl⟩
   have Q2:=zh (fun v=>zAv (n-j) d v hd)
   exact zqvb5
  ·obtain rfl:j=k:=zo
   have Q:=zh (zCz c aR cR aD cD (n-j) true _ HS.out HM.out (H.cal (i18_)) ⟨fun _=>HI.out,fun _=>rfl⟩)
   exact zqq2o
theorem zLv (c:Ca) (aR:Option Addr) (cR:Nat) (aD:Option Addr) (cD:Nat) (n:Int) (e:Int) (w:World) (hS:c.Small) (hM:∀j,j<c.nr→(c.R j).May) (hC:CalAt w c aR cR aD cD) (hn:dy n) (hno:∀l:Nat,l≤60→¬c.Is (n-l)) (he:(dy (n-60)∧e=8)∨(¬dy (n-60)∧e=3)):Calls Tryz.prog 59 #[.agg #[(c.o 0),(c.o 1),(c.o 2),(c.o 3),(c.o 4),(c.o 5),(c.o 6),.slice aR c.nr cR,.slice aD c.nd cD],n,(-1:Int)] w fun e' w'=>e'=.returned (.tuple #[(0:Int),e])∧Below w w w':=by
 have H:=(Held.start w).add (f:=calF c aR cR aD cD) hC
 have HN:=zh hno
 have HE:=zh he
 clear hno he
 have C1:=zh (fun v=>zAv n true v (decide_eq_true hn))
 have HS:=zh hS
 have HM:=zh hM
 obtain⟨n1,n2⟩:=hn
 clear hS hM hC
 go_enter Tryz.func59,Tryz.ntmps59
 replace H:=H.box_9 w (c.o 0) (c.o 1) (c.o 2) (c.o 3) (c.o 4) (c.o 5) (c.o 6) (.slice aR c.nr cR) (.slice aD c.nd cD) 28 rfl
 go_wp2_with fail
 with_reducible refine (C1.out _).mono ?_
 rintro e w1 ⟨rfl,rfl⟩
 go_wp2_with fail
 go_loopw [9,10] (fun u i W'=>∃(j:Nat),j≤61∧i=.int .i64 j∧u=.bool (!decide (1≤(n-((j-1:Nat):Int))∧(n-((j-1:Nat):Int))≤3652059))∧Held w (.cell w 0 (c.o 0)::.cell w 1 (c.o 1)::.cell w 2 (c.o 2)::.cell w 3 (c.o 3)::.cell w 4 (c.o 4)::.cell w 5 (c.o 5)::.cell w 6 (c.o 6)::.cell w 7 (.slice aR c.nr cR)::.cell w 8 (.slice aD c.nd cD)::.free w 0::.free w 1::.free w 2::.free w 3::.free w 4::.free w 5::.free w 6::.free w 7::.free w 8::calF c aR cR aD cD::[]) W') (fun _ i _=>61-(intOf i).toNat)
 case atStart=>
  refine⟨0,zo,rfl,?_,H⟩
  rw[show decide (1≤(n-((0-1:Nat):Int))∧(n-((0-1:Nat):Int))≤3652059)=true from decide_eq_true zo]
  rfl
 case round=>
  clear H
  obtain⟨j,j1,rfl,rfl,H⟩:=hrel
  have e1:IntKind.i64.wrap ((j:Int) * -1) = -j:=by rw[IntWalk.i64_in _ zo];omega
  have e2:n + -(j:Int)=n-j:=zo
  obtain⟨k0,k1,k2,k3,k4,k5,k6,k7,k8⟩:=H.cells9 w
  by_cases hj:j≤60
  ·have Q:=zh (zCz c aR cR aD cD (n-j) false _ HS.out HM.out (H.cal (i18_)) ⟨fun g=>absurd g zd,fun g=>absurd g (HN.out j hj)⟩)
   obtain⟨d,hd⟩:∃d,decide (1≤(n-j)∧(n-j)≤3652059)=d:=⟨_,rfl⟩
   obtain⟨x,hx⟩:∃x,(!decide (1≤(n-((j-1:Nat):Int))∧(n-((j-1:Nat):Int))≤3652059))=x:=⟨_,rfl⟩
   have Q2:=zh (fun v=>zAv (n-j) d v hd)
   exact zqq2w
  ·obtain rfl:j=61:=zo
   rcases HE.out with⟨he,rfl⟩ | ⟨he,rfl⟩
   ·rw[show decide (1≤(n-((61-1:Nat):Int))∧(n-((61-1:Nat):Int))≤3652059)=true from decide_eq_true (by unfold dy at he;omega)]
    go_wp2
    go_ret2
    exact⟨rfl,H.old⟩
   ·rw[show decide (1≤(n-((61-1:Nat):Int))∧(n-((61-1:Nat):Int))≤3652059)=false from decide_eq_false (by unfold dy at he;omega)]
    go_wp2
    go_ret2
    exact⟨rfl,H.old⟩
theorem rstep_m (c:Ca) (aR:Option Addr) (cR:Nat) (aD:Option Addr) (cD:Nat) (n v e:Int) (w:World) (hS:c.Small) (hM:∀j,j<c.nr→(c.R j).May) (hC:CalAt w c aR cR aD cD) (h:StepIs c (-1) n v e):Calls Tryz.prog 59 #[.agg #[(c.o 0),(c.o 1),(c.o 2),(c.o 3),(c.o 4),(c.o 5),(c.o 6),.slice aR c.nr cR,.slice aD c.nd cD],n,(-1:Int)] w fun e' w'=>e'=.returned (.tuple #[v,e])∧Below w w w':=by
 have ex:∀j:Int,n + -1*j=n-j:=fun j=>by omega
 unfold StepIs at h
 simp only[ex] at h
 rcases h with⟨h1,rfl,rfl⟩ | ⟨h1,k,h2,rfl,h3,h4,rfl⟩ | ⟨h1,h2,rfl,h3⟩
 ·exact zTc c aR cR aD cD n w hS hM hC h1
 ·exact zP2 c aR cR aD cD n k w hS hM hC h1 h2 h3 h4
 ·exact zLv c aR cR aD cD n e w hS hM hC h1 h2 h3
theorem zEd (c:Ca) (aR:Option Addr) (cR:Nat) (aD:Option Addr) (cD:Nat) (n v e:Int) (w:World) (hS:c.Small) (hM:∀j,j<c.nr→(c.R j).May) (hC:CalAt w c aR cR aD cD) (h:StepIs c (-1) n v e):Calls Tryz.prog 37 #[.agg #[(c.o 0),(c.o 1),(c.o 2),(c.o 3),(c.o 4),(c.o 5),(c.o 6),.slice aR c.nr cR,.slice aD c.nd cD],n] w fun e' w'=>e'=.returned (.tuple #[v,e])∧Below w w w':=by
 have H:=(Held.start w).add (f:=calF c aR cR aD cD) hC
 have HS:=zh hS
 have HM:=zh hM
 have C:=zh h
 clear hS hM hC h
 go_enter Tryz.func37,Tryz.ntmps37
 replace H:=H.box_9 w (c.o 0) (c.o 1) (c.o 2) (c.o 3) (c.o 4) (c.o 5) (c.o 6) (.slice aR c.nr cR) (.slice aD c.nd cD) 28 rfl
 obtain⟨k0,k1,k2,k3,k4,k5,k6,k7,k8⟩:=H.cells9 w
 go_wp2_with fail
 revert H
 with_reducible refine zG (fun H=>rstep_m c aR cR aD cD n v e _ HS.out HM.out (H.cal (i18_)) C.out) ?_
 intro w1 H
 go_wp2
 go_ret2
 exact⟨rfl,H.old⟩
theorem zCi (n a:Int) (b:Bool) (w:World) (hn:dy n) (ha:dy a) (h:b=true↔zBs n a):Calls Tryz.prog 36 #[n,a] w fun e w'=>e=.returned b∧Below w w w':=by
 obtain⟨y,m,d,h1,h2⟩:=zBk n hn.1 hn.2
 obtain⟨y',m',d',h3,h4⟩:=zBk a ha.1 ha.2
 have HB:Hid (b=(y'==y&&m'==m)):=zh (by
  rw[Bool.eq_iff_iff,h,zNj h1 h2 h3 h4]
  simp)
 have C1:=zh (fun v=>zA5 n y m d 0 v (Or.inl ⟨h1,h2,rfl⟩))
 have C2:=zh (fun v=>zA5 a y' m' d' 0 v (Or.inl ⟨h3,h4,rfl⟩))
 have H:=Held.start w
 clear h1 h2 h3 h4 h hn ha
 go_enter Tryz.func36,Tryz.ntmps36
 go_wp2_with fail
 revert H
 with_reducible refine zG (fun _=>C1.out _) ?_
 intro w1 H
 go_wp2_with fail
 replace H:=H.triple w1 y m d 86 rfl
 revert H
 with_reducible refine zG (fun _=>C2.out _) ?_
 exact zq68s
theorem rto0d (c:Ca) (aR:Option Addr) (cR:Nat) (aD:Option Addr) (cD:Nat) (n:Int)  (w:World) (hS:c.Small) (hM:∀j,j<c.nr→(c.R j).May) (hC:CalAt w c aR cR aD cD) (hn:dy n):Calls Tryz.prog 15 #[.agg #[(c.o 0),(c.o 1),(c.o 2),(c.o 3),(c.o 4),(c.o 5),(c.o 6),.slice aR c.nr cR,.slice aD c.nd cD],n,(0:Int)] w fun e' w'=>e'=.returned (.tuple #[n,(0:Int)])∧Below w w w':=by
 have H:=(Held.start w).add (f:=calF c aR cR aD cD) hC
 have HS:=zh hS
 have HM:=zh hM
 clear hS hM hC
 have C1:=zh (fun v=>zAv n true v (decide_eq_true hn))
 clear hn
 go_enter Tryz.func15,Tryz.ntmps15
 exact zq3yq
theorem rto0n (c:Ca) (aR:Option Addr) (cR:Nat) (aD:Option Addr) (cD:Nat) (n:Int)  (w:World) (hS:c.Small) (hM:∀j,j<c.nr→(c.R j).May) (hC:CalAt w c aR cR aD cD) (hn:¬dy n):Calls Tryz.prog 15 #[.agg #[(c.o 0),(c.o 1),(c.o 2),(c.o 3),(c.o 4),(c.o 5),(c.o 6),.slice aR c.nr cR,.slice aD c.nd cD],n,(0:Int)] w fun e' w'=>e'=.returned (.tuple #[(0:Int),(3:Int)])∧Below w w w':=by
 have H:=(Held.start w).add (f:=calF c aR cR aD cD) hC
 have HS:=zh hS
 have HM:=zh hM
 clear hS hM hC
 have C1:=zh (fun v=>zAv n false v (decide_eq_false hn))
 clear hn
 go_enter Tryz.func15,Tryz.ntmps15
 exact zq3yq
theorem zq4lv {P:Prop} (h:P:=by
 have H:=(Held.start w).add (f:=calF c aR cR aD cD) hC
 have HS:=zh hS
 have HM:=zh hM
 clear hS hM hC
 have C:=zh h
 have z:(e==0)=false:=by simpa using he
 clear h he
 go_enter Tryz.func15,Tryz.ntmps15
 replace H:=H.box_9 w (c.o 0) (c.o 1) (c.o 2) (c.o 3) (c.o 4) (c.o 5) (c.o 6) (.slice aR c.nr cR) (.slice aD c.nd cD) 28 rfl
 obtain⟨k0,k1,k2,k3,k4,k5,k6,k7,k8⟩:=H.cells9 w
 go_wp2_with fail
 with_reducible refine (zEc c aR cR aD cD n v e _ HS.out HM.out (H.cal (i18_)) C.out).mono ?_
 exact zqwex):P:=h
theorem rto1bad (c:Ca) (aR:Option Addr) (cR:Nat) (aD:Option Addr) (cD:Nat) (n v e:Int)  (w:World) (hS:c.Small) (hM:∀j,j<c.nr→(c.R j).May) (hC:CalAt w c aR cR aD cD) (h:StepIs c (1) n v e) (he:e≠0):Calls Tryz.prog 15 #[.agg #[(c.o 0),(c.o 1),(c.o 2),(c.o 3),(c.o 4),(c.o 5),(c.o 6),.slice aR c.nr cR,.slice aD c.nd cD],n,(1:Int)] w fun e' w'=>e'=.returned (.tuple #[v,e])∧Below w w w':=by
 exact zq4lv
theorem zqptj {P:Prop} (h:P:=by
 clear k0 k1 k2 k3 k4 k5 k6 k7 k8
 rintro e w1 ⟨rfl,hb⟩
 replace H:=H.below hb
 clear hb
 obtain⟨k0,k1,k2,k3,k4,k5,k6,k7,k8⟩:=H.cells9 w
 go_wp2_with fail
 with_reducible refine (D.out _).mono ?_
 exact zqwex):P:=h
theorem zqq6a {P:Prop} (h:P:=by
 clear h hs
 go_enter Tryz.func15,Tryz.ntmps15
 replace H:=H.box_9 w (c.o 0) (c.o 1) (c.o 2) (c.o 3) (c.o 4) (c.o 5) (c.o 6) (.slice aR c.nr cR) (.slice aD c.nd cD) 28 rfl
 obtain⟨k0,k1,k2,k3,k4,k5,k6,k7,k8⟩:=H.cells9 w
 go_wp2_with fail
 with_reducible refine (zEc c aR cR aD cD n v 0 _ HS.out HM.out (H.cal (i18_)) C.out).mono ?_
 exact zqptj):P:=h
theorem zqd2c {P:Prop} (h:P:=by
 have H:=(Held.start w).add (f:=calF c aR cR aD cD) hC
 have HS:=zh hS
 have HM:=zh hM
 clear hS hM hC
 have C:=zh h
 have D:=zh (fun u=>zCi n v true u (h.good rfl).1 (h.good rfl).2.1.1 ⟨fun _=>hs,fun _=>rfl⟩)
 exact zqq6a):P:=h
theorem rto1t (c:Ca) (aR:Option Addr) (cR:Nat) (aD:Option Addr) (cD:Nat) (n v:Int)  (w:World) (hS:c.Small) (hM:∀j,j<c.nr→(c.R j).May) (hC:CalAt w c aR cR aD cD) (h:StepIs c (1) n v 0) (hs:zBs n v):Calls Tryz.prog 15 #[.agg #[(c.o 0),(c.o 1),(c.o 2),(c.o 3),(c.o 4),(c.o 5),(c.o 6),.slice aR c.nr cR,.slice aD c.nd cD],n,(1:Int)] w fun e' w'=>e'=.returned (.tuple #[v,(0:Int)])∧Below w w w':=by
 exact zqd2c
theorem rto1f (c:Ca) (aR:Option Addr) (cR:Nat) (aD:Option Addr) (cD:Nat) (n v:Int)  (w:World) (hS:c.Small) (hM:∀j,j<c.nr→(c.R j).May) (hC:CalAt w c aR cR aD cD) (h:StepIs c (1) n v 0) (hs:¬zBs n v):Calls Tryz.prog 15 #[.agg #[(c.o 0),(c.o 1),(c.o 2),(c.o 3),(c.o 4),(c.o 5),(c.o 6),.slice aR c.nr cR,.slice aD c.nd cD],n,(1:Int)] w fun e' w'=>e'=.returned (.tuple #[v,(0:Int)])∧Below w w w':=by
 have H:=(Held.start w).add (f:=calF c aR cR aD cD) hC
 have HS:=zh hS
 have HM:=zh hM
 clear hS hM hC
 have C:=zh h
 have D:=zh (fun u=>zCi n v false u (h.good rfl).1 (h.good rfl).2.1.1 ⟨fun g=>absurd g zd,fun g=>absurd g hs⟩)
 exact zqq6a
theorem rto2bad (c:Ca) (aR:Option Addr) (cR:Nat) (aD:Option Addr) (cD:Nat) (n v e:Int)  (w:World) (hS:c.Small) (hM:∀j,j<c.nr→(c.R j).May) (hC:CalAt w c aR cR aD cD) (h:StepIs c (1) n v e) (he:e≠0):Calls Tryz.prog 15 #[.agg #[(c.o 0),(c.o 1),(c.o 2),(c.o 3),(c.o 4),(c.o 5),(c.o 6),.slice aR c.nr cR,.slice aD c.nd cD],n,(2:Int)] w fun e' w'=>e'=.returned (.tuple #[v,e])∧Below w w w':=by
 exact zq4lv
theorem rto2t (c:Ca) (aR:Option Addr) (cR:Nat) (aD:Option Addr) (cD:Nat) (n v:Int)  (w:World) (hS:c.Small) (hM:∀j,j<c.nr→(c.R j).May) (hC:CalAt w c aR cR aD cD) (h:StepIs c (1) n v 0) (hs:zBs n v):Calls Tryz.prog 15 #[.agg #[(c.o 0),(c.o 1),(c.o 2),(c.o 3),(c.o 4),(c.o 5),(c.o 6),.slice aR c.nr cR,.slice aD c.nd cD],n,(2:Int)] w fun e' w'=>e'=.returned (.tuple #[v,(0:Int)])∧Below w w w':=by
 exact zqd2c
theorem rto2f (c:Ca) (aR:Option Addr) (cR:Nat) (aD:Option Addr) (cD:Nat) (n v e:Int) (a:Int) (w:World) (hS:c.Small) (hM:∀j,j<c.nr→(c.R j).May) (hC:CalAt w c aR cR aD cD) (h:StepIs c (1) n a 0) (hs:¬zBs n a) (g:StepIs c (-1) n v e):Calls Tryz.prog 15 #[.agg #[(c.o 0),(c.o 1),(c.o 2),(c.o 3),(c.o 4),(c.o 5),(c.o 6),.slice aR c.nr cR,.slice aD c.nd cD],n,(2:Int)] w fun e' w'=>e'=.returned (.tuple #[v,e])∧Below w w w':=by
 have H:=(Held.start w).add (f:=calF c aR cR aD cD) hC
 have HS:=zh hS
 have HM:=zh hM
 clear hS hM hC
 have C:=zh h
 have C2:=zh g
 have D:=zh (fun u=>zCi n a false u (h.good rfl).1 (h.good rfl).2.1.1 ⟨fun g=>absurd g zd,fun g=>absurd g hs⟩)
 clear h hs g
 go_enter Tryz.func15,Tryz.ntmps15
 replace H:=H.box_9 w (c.o 0) (c.o 1) (c.o 2) (c.o 3) (c.o 4) (c.o 5) (c.o 6) (.slice aR c.nr cR) (.slice aD c.nd cD) 28 rfl
 obtain⟨k0,k1,k2,k3,k4,k5,k6,k7,k8⟩:=H.cells9 w
 go_wp2_with fail
 with_reducible refine (zEc c aR cR aD cD n a 0 _ HS.out HM.out (H.cal (i18_)) C.out).mono ?_
 clear k0 k1 k2 k3 k4 k5 k6 k7 k8
 rintro e w1 ⟨rfl,hb⟩
 replace H:=H.below hb
 clear hb
 obtain⟨k0,k1,k2,k3,k4,k5,k6,k7,k8⟩:=H.cells9 w
 go_wp2_with fail
 with_reducible refine (D.out _).mono ?_
 clear k0 k1 k2 k3 k4 k5 k6 k7 k8
 rintro e w1 ⟨rfl,hb⟩
 replace H:=H.below hb
 clear hb
 obtain⟨k0,k1,k2,k3,k4,k5,k6,k7,k8⟩:=H.cells9 w
 go_wp2_with fail
 with_reducible refine (zEd c aR cR aD cD n v e _ HS.out HM.out (H.cal (i18_)) C2.out).mono ?_
 exact zqsp4
theorem zqi2y {P:Prop} (h:P:=by
 have H:=(Held.start w).add (f:=calF c aR cR aD cD) hC
 have HS:=zh hS
 have HM:=zh hM
 clear hS hM hC
 have C:=zh h
 have z:(e==0)=false:=by simpa using he
 clear h he
 go_enter Tryz.func15,Tryz.ntmps15
 replace H:=H.box_9 w (c.o 0) (c.o 1) (c.o 2) (c.o 3) (c.o 4) (c.o 5) (c.o 6) (.slice aR c.nr cR) (.slice aD c.nd cD) 28 rfl
 obtain⟨k0,k1,k2,k3,k4,k5,k6,k7,k8⟩:=H.cells9 w
 go_wp2_with fail
 with_reducible refine (zEd c aR cR aD cD n v e _ HS.out HM.out (H.cal (i18_)) C.out).mono ?_
 exact zqwex):P:=h
theorem rto3bad (c:Ca) (aR:Option Addr) (cR:Nat) (aD:Option Addr) (cD:Nat) (n v e:Int)  (w:World) (hS:c.Small) (hM:∀j,j<c.nr→(c.R j).May) (hC:CalAt w c aR cR aD cD) (h:StepIs c (-1) n v e) (he:e≠0):Calls Tryz.prog 15 #[.agg #[(c.o 0),(c.o 1),(c.o 2),(c.o 3),(c.o 4),(c.o 5),(c.o 6),.slice aR c.nr cR,.slice aD c.nd cD],n,(3:Int)] w fun e' w'=>e'=.returned (.tuple #[v,e])∧Below w w w':=by
 exact zqi2y
theorem zqr03 {P:Prop} (h:P:=by
 clear h hs
 go_enter Tryz.func15,Tryz.ntmps15
 replace H:=H.box_9 w (c.o 0) (c.o 1) (c.o 2) (c.o 3) (c.o 4) (c.o 5) (c.o 6) (.slice aR c.nr cR) (.slice aD c.nd cD) 28 rfl
 obtain⟨k0,k1,k2,k3,k4,k5,k6,k7,k8⟩:=H.cells9 w
 go_wp2_with fail
 with_reducible refine (zEd c aR cR aD cD n v 0 _ HS.out HM.out (H.cal (i18_)) C.out).mono ?_
 exact zqptj):P:=h
theorem zq8u8 {P:Prop} (h:P:=by
 have H:=(Held.start w).add (f:=calF c aR cR aD cD) hC
 have HS:=zh hS
 have HM:=zh hM
 clear hS hM hC
 have C:=zh h
 have D:=zh (fun u=>zCi n v true u (h.good rfl).1 (h.good rfl).2.1.1 ⟨fun _=>hs,fun _=>rfl⟩)
 exact zqr03):P:=h
theorem rto3t (c:Ca) (aR:Option Addr) (cR:Nat) (aD:Option Addr) (cD:Nat) (n v:Int)  (w:World) (hS:c.Small) (hM:∀j,j<c.nr→(c.R j).May) (hC:CalAt w c aR cR aD cD) (h:StepIs c (-1) n v 0) (hs:zBs n v):Calls Tryz.prog 15 #[.agg #[(c.o 0),(c.o 1),(c.o 2),(c.o 3),(c.o 4),(c.o 5),(c.o 6),.slice aR c.nr cR,.slice aD c.nd cD],n,(3:Int)] w fun e' w'=>e'=.returned (.tuple #[v,(0:Int)])∧Below w w w':=by
 exact zq8u8
theorem rto3f (c:Ca) (aR:Option Addr) (cR:Nat) (aD:Option Addr) (cD:Nat) (n v:Int)  (w:World) (hS:c.Small) (hM:∀j,j<c.nr→(c.R j).May) (hC:CalAt w c aR cR aD cD) (h:StepIs c (-1) n v 0) (hs:¬zBs n v):Calls Tryz.prog 15 #[.agg #[(c.o 0),(c.o 1),(c.o 2),(c.o 3),(c.o 4),(c.o 5),(c.o 6),.slice aR c.nr cR,.slice aD c.nd cD],n,(3:Int)] w fun e' w'=>e'=.returned (.tuple #[v,(0:Int)])∧Below w w w':=by
 have H:=(Held.start w).add (f:=calF c aR cR aD cD) hC
 have HS:=zh hS
 have HM:=zh hM
 clear hS hM hC
 have C:=zh h
 have D:=zh (fun u=>zCi n v false u (h.good rfl).1 (h.good rfl).2.1.1 ⟨fun g=>absurd g zd,fun g=>absurd g hs⟩)
 exact zqr03
theorem rto4bad (c:Ca) (aR:Option Addr) (cR:Nat) (aD:Option Addr) (cD:Nat) (n v e:Int)  (w:World) (hS:c.Small) (hM:∀j,j<c.nr→(c.R j).May) (hC:CalAt w c aR cR aD cD) (h:StepIs c (-1) n v e) (he:e≠0):Calls Tryz.prog 15 #[.agg #[(c.o 0),(c.o 1),(c.o 2),(c.o 3),(c.o 4),(c.o 5),(c.o 6),.slice aR c.nr cR,.slice aD c.nd cD],n,(4:Int)] w fun e' w'=>e'=.returned (.tuple #[v,e])∧Below w w w':=by
 exact zqi2y
theorem rto4t (c:Ca) (aR:Option Addr) (cR:Nat) (aD:Option Addr) (cD:Nat) (n v:Int)  (w:World) (hS:c.Small) (hM:∀j,j<c.nr→(c.R j).May) (hC:CalAt w c aR cR aD cD) (h:StepIs c (-1) n v 0) (hs:zBs n v):Calls Tryz.prog 15 #[.agg #[(c.o 0),(c.o 1),(c.o 2),(c.o 3),(c.o 4),(c.o 5),(c.o 6),.slice aR c.nr cR,.slice aD c.nd cD],n,(4:Int)] w fun e' w'=>e'=.returned (.tuple #[v,(0:Int)])∧Below w w w':=by
 exact zq8u8
theorem rto4f (c:Ca) (aR:Option Addr) (cR:Nat) (aD:Option Addr) (cD:Nat) (n v e:Int) (a:Int) (w:World) (hS:c.Small) (hM:∀j,j<c.nr→(c.R j).May) (hC:CalAt w c aR cR aD cD) (h:StepIs c (-1) n a 0) (hs:¬zBs n a) (g:StepIs c (1) n v e):Calls Tryz.prog 15 #[.agg #[(c.o 0),(c.o 1),(c.o 2),(c.o 3),(c.o 4),(c.o 5),(c.o 6),.slice aR c.nr cR,.slice aD c.nd cD],n,(4:Int)] w fun e' w'=>e'=.returned (.tuple #[v,e])∧Below w w w':=by
 have H:=(Held.start w).add (f:=calF c aR cR aD cD) hC
 have HS:=zh hS
 have HM:=zh hM
 clear hS hM hC
 have C:=zh h
 have C2:=zh g
 have D:=zh (fun u=>zCi n a false u (h.good rfl).1 (h.good rfl).2.1.1 ⟨fun g=>absurd g zd,fun g=>absurd g hs⟩)
 clear h hs g
 go_enter Tryz.func15,Tryz.ntmps15
 replace H:=H.box_9 w (c.o 0) (c.o 1) (c.o 2) (c.o 3) (c.o 4) (c.o 5) (c.o 6) (.slice aR c.nr cR) (.slice aD c.nd cD) 28 rfl
 obtain⟨k0,k1,k2,k3,k4,k5,k6,k7,k8⟩:=H.cells9 w
 go_wp2_with fail
 with_reducible refine (zEd c aR cR aD cD n a 0 _ HS.out HM.out (H.cal (i18_)) C.out).mono ?_
 clear k0 k1 k2 k3 k4 k5 k6 k7 k8
 rintro e w1 ⟨rfl,hb⟩
 replace H:=H.below hb
 clear hb
 obtain⟨k0,k1,k2,k3,k4,k5,k6,k7,k8⟩:=H.cells9 w
 go_wp2_with fail
 with_reducible refine (D.out _).mono ?_
 clear k0 k1 k2 k3 k4 k5 k6 k7 k8
 rintro e w1 ⟨rfl,hb⟩
 replace H:=H.below hb
 clear hb
 obtain⟨k0,k1,k2,k3,k4,k5,k6,k7,k8⟩:=H.cells9 w
 go_wp2_with fail
 with_reducible refine (zEc c aR cR aD cD n v e _ HS.out HM.out (H.cal (i18_)) C2.out).mono ?_
 exact zqsp4
theorem rto_out (c:Ca) (aR:Option Addr) (cR:Nat) (aD:Option Addr) (cD:Nat) (n k:Int) (w:World) (hk:k<0∨4<k):Calls Tryz.prog 15 #[.agg #[(c.o 0),(c.o 1),(c.o 2),(c.o 3),(c.o 4),(c.o 5),(c.o 6),.slice aR c.nr cR,.slice aD c.nd cD],n,k] w fun e' w'=>e'=.returned (.tuple #[(0:Int),(1:Int)])∧Below w w w':=by
 have H:=Held.start w
 by_cases h0:k<0
 ·have t0:decide (k<0)=true:=decide_eq_true h0
  clear h0 hk
  go_enter Tryz.func15,Tryz.ntmps15
  go_wp2
  go_ret2
  exact⟨rfl,(H.alloc _).old⟩
 ·have t0:decide (k<0)=false:=decide_eq_false h0
  have t1:decide (k>4)=true:=decide_eq_true zo
  clear h0 hk
  go_enter Tryz.func15,Tryz.ntmps15
  go_wp2
  go_ret2
  exact⟨rfl,(H.alloc _).old⟩
theorem rto14 (c:Ca) (aR:Option Addr) (cR:Nat) (aD:Option Addr) (cD:Nat) (n k v e:Int) (w:World) (hS:c.Small) (hM:∀j,j<c.nr→(c.R j).May) (hC:CalAt w c aR cR aD cD) (h:ToIs c n k v e):Calls Tryz.prog 15 #[.agg #[(c.o 0),(c.o 1),(c.o 2),(c.o 3),(c.o 4),(c.o 5),(c.o 6),.slice aR c.nr cR,.slice aD c.nd cD],n,k] w fun e' w'=>e'=.returned (.tuple #[v,e])∧Below w w w':=by
 rcases h with⟨rfl,⟨h,rfl,rfl⟩ | ⟨h,rfl,rfl⟩⟩ | ⟨rfl,h⟩ | ⟨rfl,a,f,h,⟨g,rfl,rfl⟩ | ⟨⟨rfl,g⟩,g2⟩⟩ | ⟨rfl,h⟩ | ⟨rfl,a,f,h,⟨g,rfl,rfl⟩ | ⟨⟨rfl,g⟩,g2⟩⟩ | ⟨h,rfl,rfl⟩
 ·exact rto0d c aR cR aD cD _ w hS hM hC h
 ·exact rto0n c aR cR aD cD n w hS hM hC h
 ·by_cases he:e=0
  ·subst he
   by_cases hs:zBs n v
   ·exact rto1t c aR cR aD cD n v w hS hM hC h hs
   ·exact rto1f c aR cR aD cD n v w hS hM hC h hs
  ·exact rto1bad c aR cR aD cD n v e w hS hM hC h he
 ·by_cases he:e=0
  ·subst he
   exact rto2t c aR cR aD cD n v w hS hM hC h (g.resolve_left (fun z=>z rfl))
  ·exact rto2bad c aR cR aD cD n v e w hS hM hC h he
 ·exact rto2f c aR cR aD cD n v e a w hS hM hC h g g2
 ·by_cases he:e=0
  ·subst he
   by_cases hs:zBs n v
   ·exact rto3t c aR cR aD cD n v w hS hM hC h hs
   ·exact rto3f c aR cR aD cD n v w hS hM hC h hs
  ·exact rto3bad c aR cR aD cD n v e w hS hM hC h he
 ·by_cases he:e=0
  ·subst he
   exact rto4t c aR cR aD cD n v w hS hM hC h (g.resolve_left (fun z=>z rfl))
  ·exact rto4bad c aR cR aD cD n v e w hS hM hC h he
 ·exact rto4f c aR cR aD cD n v e a w hS hM hC h g g2
 ·exact rto_out c aR cR aD cD n k w h
end Go.Proofs.YtpfgdfpaoldhcaaGreatDoor
