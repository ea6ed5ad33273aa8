/- Several texts in one: RoIs. -/
import Derived.Test.YtpfgdfpaoldhcaaGreatDoorSuAU
import Derived.Test.YtpfgdfpaoldhcaaGreatDoorSuAV
import Derived.Test.YtpfgdfpaoldhcaaGreatDoorSuAX
set_option maxHeartbeats 8000000
set_option maxRecDepth 100000
set_option linter.unusedVariables false
set_option linter.unusedSimpArgs false
namespace Go.Proofs.YtpfgdfpaoldhcaaGreatDoor
open Go.RowKit
theorem dl_get (X:Nat→Int) (n j:Nat) (h:j<n):(dl X n).getD j 0=X j:=by simp[dl,h]
theorem cbs_is (ao:Option Addr) (X:Nat→Int) (n cap:Nat) (x:Int) (b:Bool) (w:World) (hn:n≤2000) (hC:DaysAt w ao X n cap) (hR:∀j,j+1<n→X j<X (j+1)) (hb:b=true↔∃j,j<n∧X j=x) :
  Calls Tryz.prog 163 #[.slice ao n cap,x] w fun e w'=>∃k:Int,e=.returned (.tuple #[k,b])∧Below w w w':=by
 rcases Nat.eq_zero_or_pos n with rfl | hp
 ·have e:b=false:=zB3 hb (fun⟨j,hj,_⟩=>absurd hj (Nat.not_lt_zero _))
  subst e
  refine (Tryz.slices_BinarySearch_int_empty ao cap x w).mono ?_
  rintro e w' ⟨rfl,rfl⟩
  exact⟨0,rfl,Below.refl _ _⟩
 ·obtain⟨bD,oD,rfl,hd⟩:=hC.2 hp
  have l:(dl X n).length=n:=zB7 X n
  have tk:(dl X n).take n=dl X n:=List.take_of_length_le (by rw[l];exact Nat.le_refl _)
  have g:=Tryz.slices_BinarySearch_int bD oD n cap (dl X n) x w (by rw[l];exact Nat.le_refl _) zo (fun j hj=>by rw[l] at hj;rw[dl_get X n j hj];exact hd j hj) (by
   rw[tk]
   exact (dl_rise hR).imp (fun h=>Int.le_of_lt h))
  refine g.mono ?_
  rintro e w' ⟨rfl,q,rfl⟩
  have eb:((dl X n).take n).contains x=b:=by
   rw[tk,Bool.eq_iff_iff,hb,List.contains_iff_mem,zMo]
  rw[eb]
  exact⟨_,rfl,zBi _⟩
theorem ccl_is (r:Ru) (B:Nat) (x:Int) (b:Bool) (w:World) (hL:FactsW w) (hM:r.May) (hc:w.cell? ⟨B,0,none⟩=some (.int .i64 x)) (hb:b=true↔r.Is x) :
  Calls Tryz.prog 165 #[.agg #[r.k,r.m,r.d,r.q,r.o,r.s,r.f,r.t],.pointer (some ⟨B,0,none⟩)] w fun e w'=>e=.returned b∧Below w w w':=by
 have Q:=zh (fun v (h:FactsU v)=>uis_is r.k r.m r.d r.q r.o r.s r.f r.t x b v h hM hb)
 have H:=((Held.start w).add (f:=zAk) hL).add (f:=.cell B 0 x) hc
 have lB:=zA0 hc
 clear hb hM hL
 go_enter Tryz.func165,Tryz.ntmps165
 replace H:=H.oct w r.k r.m r.d r.q r.o r.s r.f r.t 76 rfl
 have k0:=H.cell w 0 r.k (i0_)
 have k1:=H.cell w 1 r.m (i1_)
 have k2:=H.cell w 2 r.d (i2_)
 have k3:=H.cell w 3 r.q (i3_)
 have k4:=H.cell w 4 r.o (i4_)
 have k5:=H.cell w 5 r.s (i5_)
 have k6:=H.cell w 6 r.f (i6_)
 have k7:=H.cell w 7 r.t (i7_)
 have kx:=H.cell B 0 x (i16_)
 go_wp2_with fail
 revert H
 with_reducible refine zG (fun H=>Q.out _ (H.factsWu (i17_))) ?_
 intro w1 H
 go_wp2
 go_ret
 exact⟨rfl,H.old⟩
theorem cif_is (ao:Option Addr) (R:Nat→Ru) (n cap:Nat) (B:Nat) (x:Int) (w:World) (hL:FactsW w) (hn:n≤200) (hM:∀j,j<n→(R j).May) (hC:RulesAt w ao R n cap) (hc:w.cell? ⟨B,0,none⟩=some (.int .i64 x)) :
  Calls Tryz.prog 194 #[.slice ao n cap,.func (.func 165) #[] #[.pointer (some ⟨B,0,none⟩)]] w fun e w'=>∃k:Int,e=.returned k∧(0≤k↔∃j,j<n∧(R j).Is x)∧Below w w w':=by
 have H:=(((Held.start w).add (f:=zAk) hL).add (f:=.cell B 0 x) hc).add (f:=zTe ao R n cap) hC
 have MM:=zh hM
 clear hC hL hc hM
 go_enter Tryz.func194,Tryz.ntmps194
 go_wp2_with fail
 go_loopw [8] (fun i W'=>∃j:Nat,j≤n∧i=.int .i64 j∧(∀l,l<j→¬(R l).Is x)∧Held w (zTe ao R n cap::.cell B 0 x::zAk::[]) W') (fun i _=>n-(intOf i).toNat)
 case atStart=>exact⟨0,zo,rfl,fun l g=>absurd g (Nat.not_lt_zero _),H⟩
 case round=>
  clear H
  obtain⟨j,j1,rfl,hR,H⟩:=hrel
  have HR:=zh hR
  clear hR
  by_cases hj:j<n
  ·obtain⟨bR,oR,rfl,hr2⟩:=(H.rules (i0_)).2 zo
   obtain⟨q0,q1,q2,q3,q4,q5,q6,q7⟩:=hr2 j hj
   clear hr2
   obtain⟨y,hy⟩:=zI7 ((R j).Is x)
   have Q:=zh (fun v (h:FactsW v) (k:v.cell? ⟨B,0,none⟩=some (.int .i64 x))=>ccl_is (R j) B x y v h (MM.out j hj) k hy)
   have HY:=zh hy
   clear hy
   go_wp2_with fail
   with_reducible refine (Q.out _ (H.factsW (i2_)) (H.cell B 0 x (i1_))).mono ?_
   rintro e w2 ⟨rfl,hb⟩
   replace H:=H.below hb
   clear hb q0 q1 q2 q3 q4 q5 q6 q7 Q
   cases y with
   | true=>
    go_wp2
    go_ret
    exact⟨(j:Int),rfl,⟨fun _=>⟨j,hj,HY.out.1 (by first | rfl | trivial)⟩,fun _=>Int.natCast_nonneg j⟩,H.old⟩
   | false=>
    go_wp2
    go_roundw
    case rel=>exact⟨j+1,zo,by go_num,fun l g=>by
     by_cases e:l=j
     ·subst e;exact fun g=>absurd (HY.out.2 g) zd
     ·exact HR.out l zo,H⟩
    case measure=>simp[intOf];omega
  ·obtain rfl:j=n:=zo
   go_wp2
   go_ret
   exact⟨-1,rfl,⟨fun g=>absurd g zd,fun⟨l,g,h⟩=>absurd h (HR.out l g)⟩,H.old⟩
theorem ccf_is (ao:Option Addr) (R:Nat→Ru) (n cap:Nat) (B:Nat) (x:Int) (b:Bool) (w:World) (hL:FactsW w) (hn:n≤200) (hM:∀j,j<n→(R j).May) (hC:RulesAt w ao R n cap) (hc:w.cell? ⟨B,0,none⟩=some (.int .i64 x)) (hb:b=true↔∃j,j<n∧(R j).Is x) :
  Calls Tryz.prog 164 #[.slice ao n cap,.func (.func 165) #[] #[.pointer (some ⟨B,0,none⟩)]] w fun e w'=>e=.returned b∧Below w w w':=by
 have Q:=zh (cif_is ao R n cap B x w hL hn hM hC hc)
 have HB:=zh hb
 clear hL hM hC hc hb
 go_enter Tryz.func164,Tryz.ntmps164
 go_wp2_with fail
 with_reducible refine (Q.out).mono ?_
 rintro e w1 ⟨k,rfl,hk,hb⟩
 have HK:=zh hk
 clear hk
 go_wp2
 go_ret
 refine⟨retB ?_,hb⟩
 rw[Bool.eq_iff_iff,HB.out,←HK.out]
 simp
theorem zHj (c:Ca) (aR:Option Addr) (cR:Nat) (aD:Option Addr) (cD:Nat) (n:Int) (b:Bool) (w:World) (hL:FactsW w) (hM:c.May) (hC:CalAt w c aR cR aD cD) (h:b=true↔c.Is n):Calls Tryz.prog 135 #[.agg #[(c.o 0),(c.o 1),(c.o 2),(c.o 3),(c.o 4),(c.o 5),(c.o 6),.slice aR c.nr cR,.slice aD c.nd cD],n] w fun e w'=>e=.returned b∧Below w w w':=by
 have H:=((Held.start w).add (f:=zAk) hL).add (f:=calF c aR cR aD cD) hC
 have HB:=zh h
 obtain⟨_,s1,s2,m1,_,m2⟩:=hM
 have M1:=zh m1
 have M2:=zh m2
 clear h hC hL m1 m2
 by_cases hn:1≤n∧n≤3652059
 ·have C1:=zh (fun v=>zQ9 n true v (decide_eq_true hn))
  obtain⟨v,hv,v7⟩:=wk_nat n
  have C2:=zh (fun u=>wk_eq n v u hv)
  obtain⟨x,hx⟩:=zI7 (∃j,j<c.nd∧c.X j=n)
  obtain⟨y,hy⟩:=zI7 (∃j,j<c.nr∧(c.R j).Is n)
  have C3:=zh (fun v (k:DaysAt v aD c.X c.nd cD)=>cbs_is aD c.X c.nd cD n x v zo k M2.out hx)
  have HX:=zh hx
  have HY:=zh hy
  clear hx hy
  go_enter Tryz.func135,Tryz.ntmps135
  replace H:=(H.box_9 w (c.o 0) (c.o 1) (c.o 2) (c.o 3) (c.o 4) (c.o 5) (c.o 6) (.slice aR c.nr cR) (.slice aD c.nd cD) 28 rfl).lone (w+1) n 3 zs
  go_wp2_with fail
  with_reducible refine (C1.out _).mono ?_
  rintro e w1 ⟨rfl,rfl⟩
  go_wp2_with fail
  with_reducible refine (C2.out _).mono ?_
  rintro e w1 ⟨rfl,rfl⟩
  obtain⟨k0,k1,k2,k3,k4,k5,k6,k7,k8⟩:=H.cells9 w
  have lk:=H.lt w 0 (c.o 0) (i2_)
  have kn:=H.cell (w+1) 0 n (i0_)
  have kv:=zRz v7 k0 k1 k2 k3 k4 k5 k6
  clear k0 k1 k2 k3 k4 k5 k6
  have HV:=zh hv
  clear hv
  cases hov:c.o v with
  | true=>
   exact zqsq3
  | false=>
   rw[hov] at kv
   have HO:=zh hov
   clear hov
   go_wp2_with fail
   with_reducible refine (C3.out _ (H.calD (i20_))).mono ?_
   rintro e w2 ⟨k,rfl,hb⟩
   replace H:=H.below hb
   clear hb kv lk kn k7 k8
   cases x with
   | true=>
    have e:b=false:=zB3 HB.out (fun g=>by
     obtain⟨j,hj,e⟩:=HX.out.1 (by first | rfl | trivial)
     exact g.2.2.1 j hj e)
    subst e
    go_wp2
    go_ret
    exact⟨rfl,H.old⟩
   | false=>
    have k7:=H.cell w 7 (.slice aR c.nr cR) (i9_)
    have C4:=zh (ccf_is aR c.R c.nr cR (w+1) n y w2 (H.factsW (i21_)) zo M1.out (H.calR (i20_)) (H.cell (w+1) 0 n (i0_)) HY.out)
    go_wp2_with fail
    with_reducible refine (C4.out).mono ?_
    rintro e w3 ⟨rfl,hb⟩
    replace H:=H.below hb
    clear hb k7 C4
    have e:b=!y:=by
     rw[Bool.eq_iff_iff,HB.out,Bool.not_eq_true']
     constructor
     ·intro g
      exact zB3 HY.out (fun⟨j,hj,e⟩=>g.2.2.2 j hj e)
     ·intro g
      refine⟨hn,by rw[HV.out,Int.toNat_natCast];exact HO.out,fun j hj e=>?_,fun j hj e=>?_⟩
      ·exact absurd (HX.out.2 ⟨j,hj,e⟩) zd
      ·rw[HY.out.2 ⟨j,hj,e⟩] at g;cases g
    subst e
    go_wp2
    go_ret
    exact⟨rfl,H.old⟩
 ·have C1:=zh (fun v=>zQ9 n false v (decide_eq_false hn))
  have e:b=false:=zB3 HB.out (fun g=>hn g.1)
  subst e
  go_enter Tryz.func135,Tryz.ntmps135
  replace H:=(H.box_9 w (c.o 0) (c.o 1) (c.o 2) (c.o 3) (c.o 4) (c.o 5) (c.o 6) (.slice aR c.nr cR) (.slice aD c.nd cD) 28 rfl).lone (w+1) n 3 zs
  exact zqvmp
end Go.Proofs.YtpfgdfpaoldhcaaGreatDoor
