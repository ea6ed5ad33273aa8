/- Several texts in one: RoRoll. -/
import Derived.Test.YtpfgdfpaoldhcaaGreatDoorSuBE
set_option maxHeartbeats 8000000
set_option maxRecDepth 100000
set_option linter.unusedVariables false
set_option linter.unusedSimpArgs false
namespace Go.Proofs.YtpfgdfpaoldhcaaGreatDoor
open Go.RowKit
theorem zGa (n j m:Int) (w:World) (h:IntKind.i64.wrap (n+j)=m):Calls Tryz.prog 114 #[n,j] w fun e w'=>e=.returned m∧w=w':=by
 go_enter Tryz.func114,Tryz.ntmps114
 go_wp2
 go_ret
 exact⟨rfl,rfl⟩
theorem zI0 (n j m:Int) (w:World) (h:IntKind.i64.wrap (n-j)=m):Calls Tryz.prog 116 #[n,j] w fun e w'=>e=.returned m∧w=w':=by
 go_enter Tryz.func116,Tryz.ntmps116
 go_wp2
 go_ret
 exact⟨rfl,rfl⟩
theorem zqluo {P:Prop} (h:P:=by
 go_enter Tryz.func103,Tryz.ntmps103
 go_wp2
 go_ret2
 exact⟨rfl,rfl⟩):P:=h
theorem zF3 (n:Int) (w:World) (h:dy n):Calls Tryz.prog 103 #[n] w fun e w'=>e=.returned (.tuple #[n,(0:Int)])∧w=w':=by
 have t0:decide (n<1)=false:=decide_eq_false (by unfold dy at h;omega)
 have t1:decide (n>3652059)=false:=decide_eq_false (by unfold dy at h;omega)
 clear h
 exact zqluo
theorem zGz (n:Int) (w:World) (h:¬dy n):Calls Tryz.prog 103 #[n] w fun e w'=>e=.returned (.tuple #[(0:Int),(3:Int)])∧w=w':=by
 by_cases g:n<1
 ·have t0:decide (n<1)=true:=decide_eq_true g
  clear h g
  exact zqluo
 ·have t0:decide (n<1)=false:=decide_eq_false g
  have t1:decide (n>3652059)=true:=decide_eq_true (by unfold dy at h;omega)
  clear h g
  exact zqluo
theorem zqkq7 {P:Prop} (h:P:=by
 go_wp2_with fail
 with_reducible refine (C1.out _).mono ?_
 rintro e w1 ⟨rfl,rfl⟩
 go_wp2_with fail
 with_reducible refine (C2.out _).mono ?_
 rintro e w1 ⟨rfl,rfl⟩
 go_wp2
 go_ret2
 exact⟨rfl,H.old⟩):P:=h
theorem zqukh {P:Prop} (h:P:=by
 have C2:=zh (fun v=>zGz n v hn)
 clear hn
 go_enter Tryz.func113,Tryz.ntmps113
 replace H:=H.box_9 w (c.o 0) (c.o 1) (c.o 2) (c.o 3) (c.o 4) (c.o 5) (c.o 6) (.slice aR c.nr cR) (.slice aD c.nd cD) 28 rfl
 go_wp2_with fail
 go_loopw [9] (fun i W'=>i=.int .i64 0∧Held w (.cell w 0 (c.o 0)::.cell w 1 (c.o 1)::.cell w 2 (c.o 2)::.cell w 3 (c.o 3)::.cell w 4 (c.o 4)::.cell w 5 (c.o 5)::.cell w 6 (c.o 6)::.cell w 7 (.slice aR c.nr cR)::.cell w 8 (.slice aD c.nd cD)::.free w 0::.free w 1::.free w 2::.free w 3::.free w 4::.free w 5::.free w 6::.free w 7::.free w 8::calF c aR cR aD cD::zAk::[]) W') (fun i _=>61-(intOf i).toNat)
 case atStart=>exact⟨rfl,H⟩
 case round=>
  clear H
  obtain⟨rfl,H⟩:=hrel
  exact zqkq7):P:=h
theorem zPc (c:Ca) (aR:Option Addr) (cR:Nat) (aD:Option Addr) (cD:Nat) (n:Int)  (w:World) (hL:FactsW w) (hM:c.May) (hC:CalAt w c aR cR aD cD) (bn : -9223372036854775808≤n∧n<9223372036854775808) (hn:¬dy n):Calls Tryz.prog 113 #[.agg #[(c.o 0),(c.o 1),(c.o 2),(c.o 3),(c.o 4),(c.o 5),(c.o 6),.slice aR c.nr cR,.slice aD c.nd cD],.func (.func 114) #[n] #[]] w fun e' w'=>e'=.returned (.tuple #[(0:Int),(3:Int)])∧Below w w w':=by
 have H:=((Held.start w).add (f:=zAk) hL).add (f:=calF c aR cR aD cD) hC
 have HM:=zh hM
 clear hL hM hC
 have C1:=zh (fun v=>zGa n 0 n v (by rw[IntWalk.i64_in _ zo];omega))
 exact zqukh
theorem zqk8k {P:Prop} (h:P:=by
 replace H:=H.below hb
 clear hb
 go_wp2
 go_ret2
 exact⟨rfl,H.old⟩):P:=h
theorem zqlpo {P:Prop} (h:P:=by
 go_wp2_with fail
 with_reducible refine (C1.out _).mono ?_
 rintro e w1 ⟨rfl,rfl⟩
 go_wp2_with fail
 with_reducible refine (C2.out _).mono ?_
 rintro e w1 ⟨rfl,rfl⟩
 go_wp2_with fail
 with_reducible refine (Q.out _ (H.factsW (i19_)) (H.cal (i18_))).mono ?_
 clear k0 k1 k2 k3 k4 k5 k6 k7 k8 Q C1 C2
 rintro e w3 ⟨rfl,hb⟩
 replace H:=H.below hb
 clear hb
 go_wp2
 go_roundw
 case rel=>exact⟨j+1,zo,by go_num,H⟩
 case measure=>simp[intOf];omega):P:=h
theorem zqfkx {P:Prop} (h:P:=by
 go_wp2_with fail
 with_reducible refine (C1.out _).mono ?_
 rintro e w1 ⟨rfl,rfl⟩
 go_wp2_with fail
 with_reducible refine (C2.out _).mono ?_
 rintro e w1 ⟨rfl,rfl⟩
 go_wp2_with fail
 with_reducible refine (Q.out _ (H.factsW (i19_)) (H.cal (i18_))).mono ?_
 clear k0 k1 k2 k3 k4 k5 k6 k7 k8 Q C1 C2
 rintro e w3 ⟨rfl,hb⟩
 exact zqk8k):P:=h
theorem zM2 (c:Ca) (aR:Option Addr) (cR:Nat) (aD:Option Addr) (cD:Nat) (n:Int) (k:Nat) (w:World) (hL:FactsW w) (hM:c.May) (hC:CalAt w c aR cR aD cD) (hn:dy n) (hk:k≤60) (hi:c.Is (n+k)) (hno:∀l:Nat,l<k→¬c.Is (n+l)):Calls Tryz.prog 113 #[.agg #[(c.o 0),(c.o 1),(c.o 2),(c.o 3),(c.o 4),(c.o 5),(c.o 6),.slice aR c.nr cR,.slice aD c.nd cD],.func (.func 114) #[n] #[]] w fun e' w'=>e'=.returned (.tuple #[(n+k:Int),(0:Int)])∧Below w w w':=by
 have H:=((Held.start w).add (f:=zAk) hL).add (f:=calF c aR cR aD cD) hC
 have HM:=zh hM
 clear hL hM hC
 have HI:=zh hi
 have HN:=zh hno
 obtain⟨n1,n2⟩:=hn
 obtain⟨⟨i1,i2⟩,_⟩:=hi
 clear hno
 go_enter Tryz.func113,Tryz.ntmps113
 replace H:=H.box_9 w (c.o 0) (c.o 1) (c.o 2) (c.o 3) (c.o 4) (c.o 5) (c.o 6) (.slice aR c.nr cR) (.slice aD c.nd cD) 28 rfl
 go_wp2_with fail
 go_loopw [9] (fun i W'=>∃(j:Nat),j≤k∧i=.int .i64 j∧Held w (.cell w 0 (c.o 0)::.cell w 1 (c.o 1)::.cell w 2 (c.o 2)::.cell w 3 (c.o 3)::.cell w 4 (c.o 4)::.cell w 5 (c.o 5)::.cell w 6 (c.o 6)::.cell w 7 (.slice aR c.nr cR)::.cell w 8 (.slice aD c.nd cD)::.free w 0::.free w 1::.free w 2::.free w 3::.free w 4::.free w 5::.free w 6::.free w 7::.free w 8::calF c aR cR aD cD::zAk::[]) W') (fun i _=>61-(intOf i).toNat)
 case atStart=>exact⟨0,zo,rfl,H⟩
 case round=>
  clear H
  obtain⟨j,j1,rfl,H⟩:=hrel
  have C1:=zh (fun v=>zGa n j (n+j) v (by rw[IntWalk.i64_in _ zo]))
  have C2:=zh (fun v=>zF3 (n+j) v (by unfold dy;omega))
  obtain⟨k0,k1,k2,k3,k4,k5,k6,k7,k8⟩:=H.cells9 w
  by_cases hj:j<k
  ·have Q:=zh (fun v (h:FactsW v) (k:CalAt v c aR cR aD cD)=>zHj c aR cR aD cD (n+j) false v h HM.out k ⟨fun g=>absurd g zd,fun g=>absurd g (HN.out j hj)⟩)
   exact zqlpo
  ·obtain rfl:j=k:=zo
   have Q:=zh (fun v (h:FactsW v) (k:CalAt v c aR cR aD cD)=>zHj c aR cR aD cD (n+j) true v h HM.out k ⟨fun _=>HI.out,fun _=>rfl⟩)
   exact zqfkx
theorem zqn3o {P:Prop} (h:P:=by
 have HJ:=zh hd
 clear hd
 go_wp2_with fail
 with_reducible refine (C1.out _).mono ?_
 rintro e w1 ⟨rfl,rfl⟩
 go_wp2_with fail
 with_reducible refine (C2.out _).mono ?_
 rintro e w1 ⟨rfl,rfl⟩
 go_wp2_with fail
 with_reducible refine (Q.out _ (H.factsW (i19_)) (H.cal (i18_))).mono ?_
 clear k0 k1 k2 k3 k4 k5 k6 k7 k8 Q C1 C2
 rintro e w3 ⟨rfl,hb⟩
 replace H:=H.below hb
 clear hb
 go_wp2
 go_roundw
 case rel=>exact⟨j+1,zo,by go_num,fun l g=>by
  by_cases e:l=j
  ·subst e;exact HJ.out
  ·exact HD.out l zo,H⟩
 case measure=>simp[intOf];omega):P:=h
theorem zqceh {P:Prop} (h:P:=by
 have e3:e=3:=by
  rcases HE.out with⟨g,_⟩ | ⟨_,g⟩
  ·exact absurd (by unfold dy at g ⊢;omega) hd
  ·exact g
 subst e3
 clear hd k0 k1 k2 k3 k4 k5 k6 k7 k8
 exact zqkq7):P:=h
theorem zqpt1 {P:Prop} (h:P:=by
 obtain rfl:j=61:=zo
 have e3:e=8:=by
  rcases HE.out with⟨_,g⟩ | ⟨g,_⟩
  ·exact g
  ·exact absurd (HD.out 60 zo) g
 subst e3
 go_wp2
 go_ret2
 exact⟨rfl,H.old⟩):P:=h
theorem zKb (c:Ca) (aR:Option Addr) (cR:Nat) (aD:Option Addr) (cD:Nat) (n:Int) (e:Int) (w:World) (hL:FactsW w) (hM:c.May) (hC:CalAt w c aR cR aD cD) (hn:dy n) (hno:∀l:Nat,l≤60→¬c.Is (n+l)) (he:(dy (n+60)∧e=8)∨(¬dy (n+60)∧e=3)):Calls Tryz.prog 113 #[.agg #[(c.o 0),(c.o 1),(c.o 2),(c.o 3),(c.o 4),(c.o 5),(c.o 6),.slice aR c.nr cR,.slice aD c.nd cD],.func (.func 114) #[n] #[]] w fun e' w'=>e'=.returned (.tuple #[(0:Int),e])∧Below w w w':=by
 have H:=((Held.start w).add (f:=zAk) hL).add (f:=calF c aR cR aD cD) hC
 have HM:=zh hM
 clear hL hM hC
 have HN:=zh hno
 have HE:=zh he
 obtain⟨n1,n2⟩:=hn
 clear hno he
 go_enter Tryz.func113,Tryz.ntmps113
 replace H:=H.box_9 w (c.o 0) (c.o 1) (c.o 2) (c.o 3) (c.o 4) (c.o 5) (c.o 6) (.slice aR c.nr cR) (.slice aD c.nd cD) 28 rfl
 go_wp2_with fail
 go_loopw [9] (fun i W'=>∃(j:Nat),j≤61∧i=.int .i64 j∧(∀l:Nat,l<j→dy (n+l))∧Held w (.cell w 0 (c.o 0)::.cell w 1 (c.o 1)::.cell w 2 (c.o 2)::.cell w 3 (c.o 3)::.cell w 4 (c.o 4)::.cell w 5 (c.o 5)::.cell w 6 (c.o 6)::.cell w 7 (.slice aR c.nr cR)::.cell w 8 (.slice aD c.nd cD)::.free w 0::.free w 1::.free w 2::.free w 3::.free w 4::.free w 5::.free w 6::.free w 7::.free w 8::calF c aR cR aD cD::zAk::[]) W') (fun i _=>61-(intOf i).toNat)
 case atStart=>exact⟨0,zo,rfl,fun l g=>absurd g (Nat.not_lt_zero _),H⟩
 case round=>
  clear H
  obtain⟨j,j1,rfl,hD,H⟩:=hrel
  have HD:=zh hD
  clear hD
  by_cases hj:j≤60
  ·have C1:=zh (fun v=>zGa n j (n+j) v (by rw[IntWalk.i64_in _ zo]))
   obtain⟨k0,k1,k2,k3,k4,k5,k6,k7,k8⟩:=H.cells9 w
   by_cases hd:dy (n+j)
   ·have C2:=zh (fun v=>zF3 (n+j) v hd)
    have Q:=zh (fun v (h:FactsW v) (k:CalAt v c aR cR aD cD)=>zHj c aR cR aD cD (n+j) false v h HM.out k ⟨fun g=>absurd g zd,fun g=>absurd g (HN.out j hj)⟩)
    exact zqn3o
   ·have C2:=zh (fun v=>zGz (n+j) v hd)
    exact zqceh
  ·exact zqpt1
theorem search_p (c:Ca) (aR:Option Addr) (cR:Nat) (aD:Option Addr) (cD:Nat) (n v e:Int) (w:World) (hL:FactsW w) (hM:c.May) (hC:CalAt w c aR cR aD cD) (bn : -9223372036854775808≤n∧n<9223372036854775808) (h:StepIs c (1) n v e):Calls Tryz.prog 113 #[.agg #[(c.o 0),(c.o 1),(c.o 2),(c.o 3),(c.o 4),(c.o 5),(c.o 6),.slice aR c.nr cR,.slice aD c.nd cD],.func (.func 114) #[n] #[]] w fun e' w'=>e'=.returned (.tuple #[v,e])∧Below w w w':=by
 have ex:∀j:Int,n+1*j=n+j:=fun j=>by omega
 unfold StepIs at h
 simp only[ex] at h
 rcases h with⟨h1,rfl,rfl⟩ | ⟨h1,k,h2,rfl,h3,h4,rfl⟩ | ⟨h1,h2,rfl,h3⟩
 ·exact zPc c aR cR aD cD n w hL hM hC bn h1
 ·exact zM2 c aR cR aD cD n k w hL hM hC h1 h2 h3 h4
 ·exact zKb c aR cR aD cD n e w hL hM hC h1 h2 h3
theorem zq6dd {P:Prop} (h:P:=by
 replace H:=H.box_9 w (c.o 0) (c.o 1) (c.o 2) (c.o 3) (c.o 4) (c.o 5) (c.o 6) (.slice aR c.nr cR) (.slice aD c.nd cD) 28 rfl
 obtain⟨k0,k1,k2,k3,k4,k5,k6,k7,k8⟩:=H.cells9 w
 go_wp2_with fail
 revert H
 with_reducible refine zG (fun H=>C.out _ (H.factsW (i19_)) (H.cal (i18_))) ?_
 intro w1 H
 go_wp2
 go_ret2
 exact⟨rfl,H.old⟩):P:=h
theorem zGt (c:Ca) (aR:Option Addr) (cR:Nat) (aD:Option Addr) (cD:Nat) (n v e:Int) (w:World) (hL:FactsW w) (hM:c.May) (hC:CalAt w c aR cR aD cD) (bn : -9223372036854775808≤n∧n<9223372036854775808) (h:StepIs c (1) n v e):Calls Tryz.prog 104 #[.agg #[(c.o 0),(c.o 1),(c.o 2),(c.o 3),(c.o 4),(c.o 5),(c.o 6),.slice aR c.nr cR,.slice aD c.nd cD],n] w fun e' w'=>e'=.returned (.tuple #[v,e])∧Below w w w':=by
 have hmf:=zHM
 have H:=((Held.start w).add (f:=zAk) hL).add (f:=calF c aR cR aD cD) hC
 have C:=zh (fun v' (h':FactsW v') (k:CalAt v' c aR cR aD cD)=>search_p c aR cR aD cD n v e v' h' hM k bn h)
 clear hL hM hC h
 go_enter Tryz.func104,Tryz.ntmps104
 exact zq6dd
theorem zPb (c:Ca) (aR:Option Addr) (cR:Nat) (aD:Option Addr) (cD:Nat) (n:Int)  (w:World) (hL:FactsW w) (hM:c.May) (hC:CalAt w c aR cR aD cD) (bn : -9223372036854775808≤n∧n<9223372036854775808) (hn:¬dy n):Calls Tryz.prog 113 #[.agg #[(c.o 0),(c.o 1),(c.o 2),(c.o 3),(c.o 4),(c.o 5),(c.o 6),.slice aR c.nr cR,.slice aD c.nd cD],.func (.func 116) #[n] #[]] w fun e' w'=>e'=.returned (.tuple #[(0:Int),(3:Int)])∧Below w w w':=by
 have H:=((Held.start w).add (f:=zAk) hL).add (f:=calF c aR cR aD cD) hC
 have HM:=zh hM
 clear hL hM hC
 have C1:=zh (fun v=>zI0 n 0 n v (by rw[IntWalk.i64_in _ zo];omega))
 exact zqukh
theorem zM1 (c:Ca) (aR:Option Addr) (cR:Nat) (aD:Option Addr) (cD:Nat) (n:Int) (k:Nat) (w:World) (hL:FactsW w) (hM:c.May) (hC:CalAt w c aR cR aD cD) (hn:dy n) (hk:k≤60) (hi:c.Is (n-k)) (hno:∀l:Nat,l<k→¬c.Is (n-l)):Calls Tryz.prog 113 #[.agg #[(c.o 0),(c.o 1),(c.o 2),(c.o 3),(c.o 4),(c.o 5),(c.o 6),.slice aR c.nr cR,.slice aD c.nd cD],.func (.func 116) #[n] #[]] w fun e' w'=>e'=.returned (.tuple #[(n-k:Int),(0:Int)])∧Below w w w':=by
 have H:=((Held.start w).add (f:=zAk) hL).add (f:=calF c aR cR aD cD) hC
 have HM:=zh hM
 clear hL hM hC
 have HI:=zh hi
 have HN:=zh hno
 obtain⟨n1,n2⟩:=hn
 obtain⟨⟨i1,i2⟩,_⟩:=hi
 clear hno
 go_enter Tryz.func113,Tryz.ntmps113
 replace H:=H.box_9 w (c.o 0) (c.o 1) (c.o 2) (c.o 3) (c.o 4) (c.o 5) (c.o 6) (.slice aR c.nr cR) (.slice aD c.nd cD) 28 rfl
 go_wp2_with fail
 go_loopw [9] (fun i W'=>∃(j:Nat),j≤k∧i=.int .i64 j∧Held w (.cell w 0 (c.o 0)::.cell w 1 (c.o 1)::.cell w 2 (c.o 2)::.cell w 3 (c.o 3)::.cell w 4 (c.o 4)::.cell w 5 (c.o 5)::.cell w 6 (c.o 6)::.cell w 7 (.slice aR c.nr cR)::.cell w 8 (.slice aD c.nd cD)::.free w 0::.free w 1::.free w 2::.free w 3::.free w 4::.free w 5::.free w 6::.free w 7::.free w 8::calF c aR cR aD cD::zAk::[]) W') (fun i _=>61-(intOf i).toNat)
 case atStart=>exact⟨0,zo,rfl,H⟩
 case round=>
  clear H
  obtain⟨j,j1,rfl,H⟩:=hrel
  have C1:=zh (fun v=>zI0 n j (n-j) v (by rw[IntWalk.i64_in _ zo]))
  have C2:=zh (fun v=>zF3 (n-j) v (by unfold dy;omega))
  obtain⟨k0,k1,k2,k3,k4,k5,k6,k7,k8⟩:=H.cells9 w
  by_cases hj:j<k
  ·have Q:=zh (fun v (h:FactsW v) (k:CalAt v c aR cR aD cD)=>zHj c aR cR aD cD (n-j) false v h HM.out k ⟨fun g=>absurd g zd,fun g=>absurd g (HN.out j hj)⟩)
   exact zqlpo
  ·obtain rfl:j=k:=zo
   have Q:=zh (fun v (h:FactsW v) (k:CalAt v c aR cR aD cD)=>zHj c aR cR aD cD (n-j) true v h HM.out k ⟨fun _=>HI.out,fun _=>rfl⟩)
   exact zqfkx
theorem zKa (c:Ca) (aR:Option Addr) (cR:Nat) (aD:Option Addr) (cD:Nat) (n:Int) (e:Int) (w:World) (hL:FactsW w) (hM:c.May) (hC:CalAt w c aR cR aD cD) (hn:dy n) (hno:∀l:Nat,l≤60→¬c.Is (n-l)) (he:(dy (n-60)∧e=8)∨(¬dy (n-60)∧e=3)):Calls Tryz.prog 113 #[.agg #[(c.o 0),(c.o 1),(c.o 2),(c.o 3),(c.o 4),(c.o 5),(c.o 6),.slice aR c.nr cR,.slice aD c.nd cD],.func (.func 116) #[n] #[]] w fun e' w'=>e'=.returned (.tuple #[(0:Int),e])∧Below w w w':=by
 have H:=((Held.start w).add (f:=zAk) hL).add (f:=calF c aR cR aD cD) hC
 have HM:=zh hM
 clear hL hM hC
 have HN:=zh hno
 have HE:=zh he
 obtain⟨n1,n2⟩:=hn
 clear hno he
 go_enter Tryz.func113,Tryz.ntmps113
 replace H:=H.box_9 w (c.o 0) (c.o 1) (c.o 2) (c.o 3) (c.o 4) (c.o 5) (c.o 6) (.slice aR c.nr cR) (.slice aD c.nd cD) 28 rfl
 go_wp2_with fail
 go_loopw [9] (fun i W'=>∃(j:Nat),j≤61∧i=.int .i64 j∧(∀l:Nat,l<j→dy (n-l))∧Held w (.cell w 0 (c.o 0)::.cell w 1 (c.o 1)::.cell w 2 (c.o 2)::.cell w 3 (c.o 3)::.cell w 4 (c.o 4)::.cell w 5 (c.o 5)::.cell w 6 (c.o 6)::.cell w 7 (.slice aR c.nr cR)::.cell w 8 (.slice aD c.nd cD)::.free w 0::.free w 1::.free w 2::.free w 3::.free w 4::.free w 5::.free w 6::.free w 7::.free w 8::calF c aR cR aD cD::zAk::[]) W') (fun i _=>61-(intOf i).toNat)
 case atStart=>exact⟨0,zo,rfl,fun l g=>absurd g (Nat.not_lt_zero _),H⟩
 case round=>
  clear H
  obtain⟨j,j1,rfl,hD,H⟩:=hrel
  have HD:=zh hD
  clear hD
  by_cases hj:j≤60
  ·have C1:=zh (fun v=>zI0 n j (n-j) v (by rw[IntWalk.i64_in _ zo]))
   obtain⟨k0,k1,k2,k3,k4,k5,k6,k7,k8⟩:=H.cells9 w
   by_cases hd:dy (n-j)
   ·have C2:=zh (fun v=>zF3 (n-j) v hd)
    have Q:=zh (fun v (h:FactsW v) (k:CalAt v c aR cR aD cD)=>zHj c aR cR aD cD (n-j) false v h HM.out k ⟨fun g=>absurd g zd,fun g=>absurd g (HN.out j hj)⟩)
    exact zqn3o
   ·have C2:=zh (fun v=>zGz (n-j) v hd)
    exact zqceh
  ·exact zqpt1
theorem search_m (c:Ca) (aR:Option Addr) (cR:Nat) (aD:Option Addr) (cD:Nat) (n v e:Int) (w:World) (hL:FactsW w) (hM:c.May) (hC:CalAt w c aR cR aD cD) (bn : -9223372036854775808≤n∧n<9223372036854775808) (h:StepIs c (-1) n v e):Calls Tryz.prog 113 #[.agg #[(c.o 0),(c.o 1),(c.o 2),(c.o 3),(c.o 4),(c.o 5),(c.o 6),.slice aR c.nr cR,.slice aD c.nd cD],.func (.func 116) #[n] #[]] w fun e' w'=>e'=.returned (.tuple #[v,e])∧Below w w w':=by
 have ex:∀j:Int,n + -1*j=n-j:=fun j=>by omega
 unfold StepIs at h
 simp only[ex] at h
 rcases h with⟨h1,rfl,rfl⟩ | ⟨h1,k,h2,rfl,h3,h4,rfl⟩ | ⟨h1,h2,rfl,h3⟩
 ·exact zPb c aR cR aD cD n w hL hM hC bn h1
 ·exact zM1 c aR cR aD cD n k w hL hM hC h1 h2 h3 h4
 ·exact zKa c aR cR aD cD n e w hL hM hC h1 h2 h3
theorem zGv (c:Ca) (aR:Option Addr) (cR:Nat) (aD:Option Addr) (cD:Nat) (n v e:Int) (w:World) (hL:FactsW w) (hM:c.May) (hC:CalAt w c aR cR aD cD) (bn : -9223372036854775808≤n∧n<9223372036854775808) (h:StepIs c (-1) n v e):Calls Tryz.prog 106 #[.agg #[(c.o 0),(c.o 1),(c.o 2),(c.o 3),(c.o 4),(c.o 5),(c.o 6),.slice aR c.nr cR,.slice aD c.nd cD],n] w fun e' w'=>e'=.returned (.tuple #[v,e])∧Below w w w':=by
 have hmf:=zHM
 have H:=((Held.start w).add (f:=zAk) hL).add (f:=calF c aR cR aD cD) hC
 have C:=zh (fun v' (h':FactsW v') (k:CalAt v' c aR cR aD cD)=>search_m c aR cR aD cD n v e v' h' hM k bn h)
 clear hL hM hC h
 go_enter Tryz.func106,Tryz.ntmps106
 exact zq6dd
theorem zq68s {P:Prop} (h:P:=by
 intro w2 H
 have c0:=H.cell w1 0 y (i0_)
 have c1:=H.cell w1 1 m (i1_)
 have l0:=H.lt w1 0 y (i0_)
 have HO:=(H.alloc (.cells #[y',m',d'] 86)).old
 clear H
 have e1:(y==y')=(y'==y):=by rw[Bool.eq_iff_iff];simp;omega
 have e2:(m==m')=(m'==m):=by rw[Bool.eq_iff_iff];simp;omega
 cases hy:(y'==y) <;> cases hm:(m'==m)
 all_goals
  rw[hy] at e1
  rw[hm] at e2
  have hb:=HB.out
  rw[hy,hm] at hb
  simp only[Bool.and_true,Bool.and_false,Bool.true_and,Bool.false_and,Bool.and_self] at hb
  subst hb
  go_wp2
  go_ret
  exact⟨rfl,HO⟩):P:=h
theorem zDo (n a:Int) (b:Bool) (w:World) (hL:Lens w) (hn:dy n) (ha:dy a) (h:b=true↔zBs n a):Calls Tryz.prog 105 #[n,a] w fun e w'=>e=.returned b∧Below w w w':=by
 obtain⟨y,m,d,h1,h2⟩:=zBk n hn.1 hn.2
 obtain⟨y',m',d',h3,h4⟩:=zBk a ha.1 ha.2
 have HB:Hid (b=(y'==y&&m'==m)):=zh (by
  rw[Bool.eq_iff_iff,h,zNj h1 h2 h3 h4]
  simp)
 have C1:=zh (fun v (k:Lens v)=>zAx n y m d 0 v k (Or.inl ⟨h1,h2,rfl⟩))
 have C2:=zh (fun v (k:Lens v)=>zAx a y' m' d' 0 v k (Or.inl ⟨h3,h4,rfl⟩))
 have H:=((Held.start w).add (f:=zAa) hL)
 clear h1 h2 h3 h4 h hn ha hL
 go_enter Tryz.func105,Tryz.ntmps105
 go_wp2_with fail
 revert H
 with_reducible refine zG (fun H=>C1.out _ (H.lens (i0_))) ?_
 intro w1 H
 go_wp2_with fail
 replace H:=H.triple w1 y m d 86 rfl
 revert H
 with_reducible refine zG (fun H=>C2.out _ (H.lens (i6_))) ?_
 exact zq68s
theorem zqw8x {P:Prop} (h:P:=by
 go_wp2_with fail
 with_reducible refine (C1.out _).mono ?_
 rintro e w1 ⟨rfl,rfl⟩
 go_wp2
 go_ret2
 exact⟨rfl,H.old⟩):P:=h
theorem zq3yq {P:Prop} (h:P:=by
 replace H:=H.box_9 w (c.o 0) (c.o 1) (c.o 2) (c.o 3) (c.o 4) (c.o 5) (c.o 6) (.slice aR c.nr cR) (.slice aD c.nd cD) 28 rfl
 obtain⟨k0,k1,k2,k3,k4,k5,k6,k7,k8⟩:=H.cells9 w
 exact zqw8x):P:=h
theorem to0d (c:Ca) (aR:Option Addr) (cR:Nat) (aD:Option Addr) (cD:Nat) (n:Int)  (w:World) (hL:FactsW w) (hM:c.May) (hC:CalAt w c aR cR aD cD) (bn : -9223372036854775808≤n∧n<9223372036854775808) (hn:dy n):Calls Tryz.prog 93 #[.agg #[(c.o 0),(c.o 1),(c.o 2),(c.o 3),(c.o 4),(c.o 5),(c.o 6),.slice aR c.nr cR,.slice aD c.nd cD],n,(0:Int)] w fun e' w'=>e'=.returned (.tuple #[n,(0:Int)])∧Below w w w':=by
 have H:=((Held.start w).add (f:=zAk) hL).add (f:=calF c aR cR aD cD) hC
 have C1:=zh (fun v=>zF3 n v hn)
 clear hn
 clear hL hM hC
 go_enter Tryz.func93,Tryz.ntmps93
 exact zq3yq
theorem to0n (c:Ca) (aR:Option Addr) (cR:Nat) (aD:Option Addr) (cD:Nat) (n:Int)  (w:World) (hL:FactsW w) (hM:c.May) (hC:CalAt w c aR cR aD cD) (bn : -9223372036854775808≤n∧n<9223372036854775808) (hn:¬dy n):Calls Tryz.prog 93 #[.agg #[(c.o 0),(c.o 1),(c.o 2),(c.o 3),(c.o 4),(c.o 5),(c.o 6),.slice aR c.nr cR,.slice aD c.nd cD],n,(0:Int)] w fun e' w'=>e'=.returned (.tuple #[(0:Int),(3:Int)])∧Below w w w':=by
 have H:=((Held.start w).add (f:=zAk) hL).add (f:=calF c aR cR aD cD) hC
 have C1:=zh (fun v=>zGz n v hn)
 clear hn
 clear hL hM hC
 go_enter Tryz.func93,Tryz.ntmps93
 exact zq3yq
theorem zqsp4 {P:Prop} (h:P:=by
 clear k0 k1 k2 k3 k4 k5 k6 k7 k8
 rintro e w1 ⟨rfl,hb⟩
 exact zqk8k):P:=h
theorem zqjb3 {P:Prop} (h:P:=by
 clear h
 clear hL hM hC
 go_enter Tryz.func93,Tryz.ntmps93
 replace H:=H.box_9 w (c.o 0) (c.o 1) (c.o 2) (c.o 3) (c.o 4) (c.o 5) (c.o 6) (.slice aR c.nr cR) (.slice aD c.nd cD) 28 rfl
 obtain⟨k0,k1,k2,k3,k4,k5,k6,k7,k8⟩:=H.cells9 w
 go_wp2_with fail
 with_reducible refine (C.out _ (H.factsW (i19_)) (H.cal (i18_))).mono ?_
 exact zqsp4):P:=h
theorem to1 (c:Ca) (aR:Option Addr) (cR:Nat) (aD:Option Addr) (cD:Nat) (n v e:Int)  (w:World) (hL:FactsW w) (hM:c.May) (hC:CalAt w c aR cR aD cD) (bn : -9223372036854775808≤n∧n<9223372036854775808) (h:StepIs c (1) n v e):Calls Tryz.prog 93 #[.agg #[(c.o 0),(c.o 1),(c.o 2),(c.o 3),(c.o 4),(c.o 5),(c.o 6),.slice aR c.nr cR,.slice aD c.nd cD],n,(1:Int)] w fun e' w'=>e'=.returned (.tuple #[v,e])∧Below w w w':=by
 have H:=((Held.start w).add (f:=zAk) hL).add (f:=calF c aR cR aD cD) hC
 have C:=zh (fun v' (h':FactsW v') (k:CalAt v' c aR cR aD cD)=>zGt c aR cR aD cD n v e v' h' hM k bn h)
 exact zqjb3
theorem to3 (c:Ca) (aR:Option Addr) (cR:Nat) (aD:Option Addr) (cD:Nat) (n v e:Int)  (w:World) (hL:FactsW w) (hM:c.May) (hC:CalAt w c aR cR aD cD) (bn : -9223372036854775808≤n∧n<9223372036854775808) (h:StepIs c (-1) n v e):Calls Tryz.prog 93 #[.agg #[(c.o 0),(c.o 1),(c.o 2),(c.o 3),(c.o 4),(c.o 5),(c.o 6),.slice aR c.nr cR,.slice aD c.nd cD],n,(3:Int)] w fun e' w'=>e'=.returned (.tuple #[v,e])∧Below w w w':=by
 have H:=((Held.start w).add (f:=zAk) hL).add (f:=calF c aR cR aD cD) hC
 have C:=zh (fun v' (h':FactsW v') (k:CalAt v' c aR cR aD cD)=>zGv c aR cR aD cD n v e v' h' hM k bn h)
 exact zqjb3
theorem zqwex {P:Prop} (h:P:=by
 clear k0 k1 k2 k3 k4 k5 k6 k7 k8
 rintro e w1 ⟨rfl,hb⟩
 replace H:=H.below hb
 clear hb
 obtain⟨k0,k1,k2,k3,k4,k5,k6,k7,k8⟩:=H.cells9 w
 go_wp2
 go_ret2
 exact⟨rfl,H.old⟩):P:=h
theorem zqnxk {P:Prop} (h:P:=by
 have z:(e != 0)=true:=by simpa using he
 clear h he
 clear hL hM hC
 go_enter Tryz.func93,Tryz.ntmps93
 replace H:=H.box_9 w (c.o 0) (c.o 1) (c.o 2) (c.o 3) (c.o 4) (c.o 5) (c.o 6) (.slice aR c.nr cR) (.slice aD c.nd cD) 28 rfl
 obtain⟨k0,k1,k2,k3,k4,k5,k6,k7,k8⟩:=H.cells9 w
 go_wp2_with fail
 with_reducible refine (C.out _ (H.factsW (i19_)) (H.cal (i18_))).mono ?_
 exact zqwex):P:=h
theorem to2bad (c:Ca) (aR:Option Addr) (cR:Nat) (aD:Option Addr) (cD:Nat) (n v e:Int)  (w:World) (hL:FactsW w) (hM:c.May) (hC:CalAt w c aR cR aD cD) (bn : -9223372036854775808≤n∧n<9223372036854775808) (h:StepIs c (1) n v e) (he:e≠0):Calls Tryz.prog 93 #[.agg #[(c.o 0),(c.o 1),(c.o 2),(c.o 3),(c.o 4),(c.o 5),(c.o 6),.slice aR c.nr cR,.slice aD c.nd cD],n,(2:Int)] w fun e' w'=>e'=.returned (.tuple #[v,e])∧Below w w w':=by
 have H:=((Held.start w).add (f:=zAk) hL).add (f:=calF c aR cR aD cD) hC
 have C:=zh (fun v' (h':FactsW v') (k:CalAt v' c aR cR aD cD)=>zGt c aR cR aD cD n v e v' h' hM k bn h)
 exact zqnxk
theorem zqa7m {P:Prop} (h:P:=by
 have D:=zh (fun u (k:Lens u)=>zDo n v true u k (h.good rfl).1 (h.good rfl).2.1.1 ⟨fun _=>hs,fun _=>rfl⟩)
 clear h hs
 clear hL hM hC
 go_enter Tryz.func93,Tryz.ntmps93
 replace H:=H.box_9 w (c.o 0) (c.o 1) (c.o 2) (c.o 3) (c.o 4) (c.o 5) (c.o 6) (.slice aR c.nr cR) (.slice aD c.nd cD) 28 rfl
 obtain⟨k0,k1,k2,k3,k4,k5,k6,k7,k8⟩:=H.cells9 w
 go_wp2_with fail
 with_reducible refine (C.out _ (H.factsW (i19_)) (H.cal (i18_))).mono ?_
 clear k0 k1 k2 k3 k4 k5 k6 k7 k8
 rintro e w1 ⟨rfl,hb⟩
 replace H:=H.below hb
 clear hb
 obtain⟨k0,k1,k2,k3,k4,k5,k6,k7,k8⟩:=H.cells9 w
 go_wp2_with fail
 with_reducible refine (D.out _ (H.factsWl (i19_))).mono ?_
 exact zqwex):P:=h
theorem to2t (c:Ca) (aR:Option Addr) (cR:Nat) (aD:Option Addr) (cD:Nat) (n v:Int)  (w:World) (hL:FactsW w) (hM:c.May) (hC:CalAt w c aR cR aD cD) (bn : -9223372036854775808≤n∧n<9223372036854775808) (h:StepIs c (1) n v 0) (hs:zBs n v):Calls Tryz.prog 93 #[.agg #[(c.o 0),(c.o 1),(c.o 2),(c.o 3),(c.o 4),(c.o 5),(c.o 6),.slice aR c.nr cR,.slice aD c.nd cD],n,(2:Int)] w fun e' w'=>e'=.returned (.tuple #[v,(0:Int)])∧Below w w w':=by
 have H:=((Held.start w).add (f:=zAk) hL).add (f:=calF c aR cR aD cD) hC
 have C:=zh (fun v' (h':FactsW v') (k:CalAt v' c aR cR aD cD)=>zGt c aR cR aD cD n v 0 v' h' hM k bn h)
 exact zqa7m
theorem zqs7e {P:Prop} (h:P:=by
 have D:=zh (fun u (k:Lens u)=>zDo n a false u k (h.good rfl).1 (h.good rfl).2.1.1 ⟨fun g=>absurd g zd,fun g=>absurd g hs⟩)
 clear h hs g
 clear hL hM hC
 go_enter Tryz.func93,Tryz.ntmps93
 replace H:=H.box_9 w (c.o 0) (c.o 1) (c.o 2) (c.o 3) (c.o 4) (c.o 5) (c.o 6) (.slice aR c.nr cR) (.slice aD c.nd cD) 28 rfl
 obtain⟨k0,k1,k2,k3,k4,k5,k6,k7,k8⟩:=H.cells9 w
 go_wp2_with fail
 with_reducible refine (C.out _ (H.factsW (i19_)) (H.cal (i18_))).mono ?_
 clear k0 k1 k2 k3 k4 k5 k6 k7 k8
 rintro e w1 ⟨rfl,hb⟩
 replace H:=H.below hb
 clear hb
 obtain⟨k0,k1,k2,k3,k4,k5,k6,k7,k8⟩:=H.cells9 w
 go_wp2_with fail
 with_reducible refine (D.out _ (H.factsWl (i19_))).mono ?_
 clear k0 k1 k2 k3 k4 k5 k6 k7 k8
 rintro e w1 ⟨rfl,hb⟩
 replace H:=H.below hb
 clear hb
 obtain⟨k0,k1,k2,k3,k4,k5,k6,k7,k8⟩:=H.cells9 w
 go_wp2_with fail
 with_reducible refine (C2.out _ (H.factsW (i19_)) (H.cal (i18_))).mono ?_
 exact zqsp4):P:=h
theorem to2f (c:Ca) (aR:Option Addr) (cR:Nat) (aD:Option Addr) (cD:Nat) (n v e:Int) (a:Int) (w:World) (hL:FactsW w) (hM:c.May) (hC:CalAt w c aR cR aD cD) (bn : -9223372036854775808≤n∧n<9223372036854775808) (h:StepIs c (1) n a 0) (hs:¬zBs n a) (g:StepIs c (-1) n v e):Calls Tryz.prog 93 #[.agg #[(c.o 0),(c.o 1),(c.o 2),(c.o 3),(c.o 4),(c.o 5),(c.o 6),.slice aR c.nr cR,.slice aD c.nd cD],n,(2:Int)] w fun e' w'=>e'=.returned (.tuple #[v,e])∧Below w w w':=by
 have H:=((Held.start w).add (f:=zAk) hL).add (f:=calF c aR cR aD cD) hC
 have C:=zh (fun v' (h':FactsW v') (k:CalAt v' c aR cR aD cD)=>zGt c aR cR aD cD n a 0 v' h' hM k bn h)
 have C2:=zh (fun v' (h':FactsW v') (k:CalAt v' c aR cR aD cD)=>zGv c aR cR aD cD n v e v' h' hM k bn g)
 exact zqs7e
theorem to4bad (c:Ca) (aR:Option Addr) (cR:Nat) (aD:Option Addr) (cD:Nat) (n v e:Int)  (w:World) (hL:FactsW w) (hM:c.May) (hC:CalAt w c aR cR aD cD) (bn : -9223372036854775808≤n∧n<9223372036854775808) (h:StepIs c (-1) n v e) (he:e≠0):Calls Tryz.prog 93 #[.agg #[(c.o 0),(c.o 1),(c.o 2),(c.o 3),(c.o 4),(c.o 5),(c.o 6),.slice aR c.nr cR,.slice aD c.nd cD],n,(4:Int)] w fun e' w'=>e'=.returned (.tuple #[v,e])∧Below w w w':=by
 have H:=((Held.start w).add (f:=zAk) hL).add (f:=calF c aR cR aD cD) hC
 have C:=zh (fun v' (h':FactsW v') (k:CalAt v' c aR cR aD cD)=>zGv c aR cR aD cD n v e v' h' hM k bn h)
 exact zqnxk
theorem to4t (c:Ca) (aR:Option Addr) (cR:Nat) (aD:Option Addr) (cD:Nat) (n v:Int)  (w:World) (hL:FactsW w) (hM:c.May) (hC:CalAt w c aR cR aD cD) (bn : -9223372036854775808≤n∧n<9223372036854775808) (h:StepIs c (-1) n v 0) (hs:zBs n v):Calls Tryz.prog 93 #[.agg #[(c.o 0),(c.o 1),(c.o 2),(c.o 3),(c.o 4),(c.o 5),(c.o 6),.slice aR c.nr cR,.slice aD c.nd cD],n,(4:Int)] w fun e' w'=>e'=.returned (.tuple #[v,(0:Int)])∧Below w w w':=by
 have H:=((Held.start w).add (f:=zAk) hL).add (f:=calF c aR cR aD cD) hC
 have C:=zh (fun v' (h':FactsW v') (k:CalAt v' c aR cR aD cD)=>zGv c aR cR aD cD n v 0 v' h' hM k bn h)
 exact zqa7m
theorem to4f (c:Ca) (aR:Option Addr) (cR:Nat) (aD:Option Addr) (cD:Nat) (n v e:Int) (a:Int) (w:World) (hL:FactsW w) (hM:c.May) (hC:CalAt w c aR cR aD cD) (bn : -9223372036854775808≤n∧n<9223372036854775808) (h:StepIs c (-1) n a 0) (hs:¬zBs n a) (g:StepIs c (1) n v e):Calls Tryz.prog 93 #[.agg #[(c.o 0),(c.o 1),(c.o 2),(c.o 3),(c.o 4),(c.o 5),(c.o 6),.slice aR c.nr cR,.slice aD c.nd cD],n,(4:Int)] w fun e' w'=>e'=.returned (.tuple #[v,e])∧Below w w w':=by
 have H:=((Held.start w).add (f:=zAk) hL).add (f:=calF c aR cR aD cD) hC
 have C:=zh (fun v' (h':FactsW v') (k:CalAt v' c aR cR aD cD)=>zGv c aR cR aD cD n a 0 v' h' hM k bn h)
 have C2:=zh (fun v' (h':FactsW v') (k:CalAt v' c aR cR aD cD)=>zGt c aR cR aD cD n v e v' h' hM k bn g)
 exact zqs7e
theorem to_out (c:Ca) (aR:Option Addr) (cR:Nat) (aD:Option Addr) (cD:Nat) (n k:Int) (w:World) (hk:k<0∨4<k):Calls Tryz.prog 93 #[.agg #[(c.o 0),(c.o 1),(c.o 2),(c.o 3),(c.o 4),(c.o 5),(c.o 6),.slice aR c.nr cR,.slice aD c.nd cD],n,k] w fun e' w'=>e'=.returned (.tuple #[(0:Int),(1:Int)])∧Below w w w':=by
 have H:=Held.start w
 have t0:(k==0)=false:=zx
 have t1:(k==1)=false:=zx
 have t2:(k==2)=false:=zx
 have t3:(k==3)=false:=zx
 have t4:(k==4)=false:=zx
 clear hk
 go_enter Tryz.func93,Tryz.ntmps93
 go_wp2
 go_ret2
 exact⟨rfl,(H.alloc _).old⟩
theorem to_is14 (c:Ca) (aR:Option Addr) (cR:Nat) (aD:Option Addr) (cD:Nat) (n k v e:Int) (w:World) (hL:FactsW w) (hM:c.May) (hC:CalAt w c aR cR aD cD) (bn : -9223372036854775808≤n∧n<9223372036854775808) (h:ToIs c n k v e):Calls Tryz.prog 93 #[.agg #[(c.o 0),(c.o 1),(c.o 2),(c.o 3),(c.o 4),(c.o 5),(c.o 6),.slice aR c.nr cR,.slice aD c.nd cD],n,k] w fun e' w'=>e'=.returned (.tuple #[v,e])∧Below w w w':=by
 rcases h with⟨rfl,⟨h,rfl,rfl⟩ | ⟨h,rfl,rfl⟩⟩ | ⟨rfl,h⟩ | ⟨rfl,a,f,h,⟨g,rfl,rfl⟩ | ⟨⟨rfl,g⟩,g2⟩⟩ | ⟨rfl,h⟩ | ⟨rfl,a,f,h,⟨g,rfl,rfl⟩ | ⟨⟨rfl,g⟩,g2⟩⟩ | ⟨h,rfl,rfl⟩
 ·exact to0d c aR cR aD cD _ w hL hM hC bn h
 ·exact to0n c aR cR aD cD n w hL hM hC bn h
 ·exact to1 c aR cR aD cD n v e w hL hM hC bn h
 ·by_cases he:e=0
  ·subst he
   exact to2t c aR cR aD cD n v w hL hM hC bn h (g.resolve_left (fun z=>z rfl))
  ·exact to2bad c aR cR aD cD n v e w hL hM hC bn h he
 ·exact to2f c aR cR aD cD n v e a w hL hM hC bn h g g2
 ·exact to3 c aR cR aD cD n v e w hL hM hC bn h
 ·by_cases he:e=0
  ·subst he
   exact to4t c aR cR aD cD n v w hL hM hC bn h (g.resolve_left (fun z=>z rfl))
  ·exact to4bad c aR cR aD cD n v e w hL hM hC bn h he
 ·exact to4f c aR cR aD cD n v e a w hL hM hC bn h g g2
 ·exact to_out c aR cR aD cD n k w h
end Go.Proofs.YtpfgdfpaoldhcaaGreatDoor
