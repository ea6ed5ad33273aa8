/- Several texts in one: RatioNum, Gcd, CBase, CivilA, CivilB, EaNum, RuNum, CaNum, RoNum, MoNum, TyNum, CRef. -/
import Derived.Test.YtpfgdfpaoldhcaaGreatDoorSuAB
import Derived.WalkMore
import Derived.ScopeJumps
import Derived.Outline
import Derived.Deep.LoopGhost
set_option maxHeartbeats 8000000
set_option maxRecDepth 100000
set_option linter.unusedVariables false
set_option linter.unusedSimpArgs false
namespace Go.Proofs.YtpfgdfpaoldhcaaGreatDoor
def gi (a b:Int):Int:=(Int.gcd a b:Int)
theorem zIe (a b:Int):gi a b=gi b a:=by unfold gi;rw[Int.gcd_comm]
theorem zKz (a:Int) (h:0≤a):gi a 0=a:=by unfold gi;rw[Int.gcd_zero_right];omega
theorem gi_nat (m n:Nat):gi (m:Int) (n:Int)=(Nat.gcd m n:Int):=rfl
theorem zJc (a b:Int):0≤gi a b:=by unfold gi;omega
theorem zIf (a b:Int) (ha:0≤a) (hb:0≤b):gi b (a%b)=gi a b:=by
 obtain⟨m,rfl⟩:=Int.eq_ofNat_of_zero_le ha
 obtain⟨n,rfl⟩:=Int.eq_ofNat_of_zero_le hb
 rw[←Int.natCast_emod,gi_nat,gi_nat,Nat.gcd_comm m n,Nat.gcd_rec n m,Nat.gcd_comm]
theorem gi_dvd_l (a b:Int):gi a b∣a:=Int.gcd_dvd_left a b
theorem zDn (a b:Int):gi a b∣b:=Int.gcd_dvd_right a b
theorem zFn (a b:Int) (h:0<a∨0<b):0<gi a b:=by
 unfold gi
 have:0<Int.gcd a b:=Int.gcd_pos_iff.2 zo
 omega
theorem zR7 (a b:Int) (h:0<b):gi a b≤b:=Int.le_of_dvd h (zDn a b)
def mN (n d:Int):Int:=n/gi n d
def mD (n d:Int):Int:=d/gi n d
theorem zRl (n d:Int):gi n d*mN n d=n:=Int.mul_ediv_cancel' (gi_dvd_l n d)
theorem zN2 (n d:Int):gi n d*mD n d=d:=Int.mul_ediv_cancel' (zDn n d)
theorem zC1 (n d:Int) (h:0≤n):0≤mN n d:=Int.ediv_nonneg h (zJc n d)
theorem zE1 (n d:Int) (h:0<d):0<mD n d:=by
 have h1:=zN2 n d
 have h2:=zJc n d
 by_cases k:0<mD n d
 ·exact k
 ·have:gi n d*mD n d≤0:=Int.mul_nonpos_of_nonneg_of_nonpos h2 zo
  omega
theorem zRm (n d:Int):mN n d*d=n*mD n d:=by
 have h1:=zRl n d
 have h2:=zN2 n d
 grind
theorem zMu (k n d:Int) (h:0≤k):gi (k*n) (k*d)=k*gi n d:=by
 unfold gi;rw[Int.gcd_mul_left]
 have:((k.natAbs:Nat):Int)=k:=Int.natAbs_of_nonneg h
 rw[Int.natCast_mul,this]
theorem zL5 (k n d:Int) (h:0<k):mN (k*n) (k*d)=mN n d∧mD (k*n) (k*d)=mD n d:=by
 unfold mN mD;rw[zMu k n d zo]
 exact⟨Int.mul_ediv_mul_of_pos _ _ h,Int.mul_ediv_mul_of_pos _ _ h⟩
theorem m_eq {n d n' d':Int} (hd:0<d) (hd':0<d') (h:n*d'=n'*d):mN n d=mN n' d'∧mD n d=mD n' d':=by
 have a:=zL5 d' n d hd'
 have b:=zL5 d n' d' hd
 have e1:d'*n=d*n':=by grind
 have e2:d'*d=d*d':=Int.mul_comm _ _
 rw[e1,e2] at a
 exact⟨a.1.symm.trans b.1,a.2.symm.trans b.2⟩
theorem m_one (n d:Int) (h:0<n∨0<d):gi (mN n d) (mD n d)=1:=by
 have p:=zFn n d h
 have e:=zMu (gi n d) (mN n d) (mD n d) zo
 rw[zRl,zN2] at e
 have:gi n d*(gi (mN n d) (mD n d)-1)=0:=by grind
 rcases Int.mul_eq_zero.1 this with h | h <;> omega
theorem m_le (n d:Int) (hn:0≤n) (hd:0≤d):mN n d≤n∧mD n d≤d:=⟨Int.ediv_le_self _ hn,Int.ediv_le_self _ hd⟩
def fitB (n d:Int):Bool:=decide (mN n d≤4611686018427387904)&&decide (mD n d≤4611686018427387904)
def rN (n d:Int):Int:=if fitB n d=true then mN n d else 0
def rD (n d:Int):Int:=if fitB n d=true then mD n d else 0
def rE (n d:Int):Int:=if fitB n d=true then 0 else 6
theorem zCa (n d:Int):fitB n d=true↔mN n d≤4611686018427387904∧mD n d≤4611686018427387904:=by unfold fitB;simp
theorem zCo {n d:Int} (h:fitB n d=true):rN n d=mN n d∧rD n d=mD n d∧rE n d=0:=by unfold rN rD rE;simp[h]
theorem r_no {n d:Int} (h:¬fitB n d=true):rN n d=0∧rD n d=0∧rE n d=6:=by unfold rN rD rE;simp[h]
theorem r_eq {n d n' d':Int} (hd:0<d) (hd':0<d') (h:n*d'=n'*d):rN n d=rN n' d'∧rD n d=rD n' d'∧rE n d=rE n' d':=by
 have ⟨a,b⟩:=m_eq hd hd' h
 unfold rN rD rE fitB;rw[a,b];exact⟨rfl,rfl,rfl⟩
theorem r_bd (n d:Int) (hn:0≤n) (hd:0<d):0≤rN n d∧rN n d≤4611686018427387904∧0≤rD n d∧rD n d≤4611686018427387904∧(rE n d=0∨rE n d=6):=by
 have h1:=zC1 n d hn
 have h2:=zE1 n d hd
 by_cases h:fitB n d=true
 ·have k:=(zCa n d).1 h
  have ⟨a,b,c⟩:=zCo h
  rw[a,b,c];omega
 ·have ⟨a,b,c⟩:=r_no h
  rw[a,b,c];omega
def zAi (n d:Int):Bool:=decide (0≤n∧n≤4611686018427387904∧1≤d∧d≤4611686018427387904∧gi n d=1)
theorem zBb (n d:Int):zAi n d=true↔0≤n∧n≤4611686018427387904∧1≤d∧d≤4611686018427387904∧gi n d=1:=by unfold zAi;simp
theorem zSh {n d:Int} (hn:0≤n) (hd:0<d) (h:fitB n d=true):zAi (mN n d) (mD n d)=true:=by
 have k:=(zCa n d).1 h
 have h2:=zE1 n d hd
 exact (zBb _ _).2 ⟨zC1 n d hn,k.1,zo,k.2,m_one n d (Or.inr hd)⟩
theorem cop {a b:Int} (h:gi a b=1):Nat.Coprime a.natAbs b.natAbs:=by
 unfold gi Int.gcd at h;unfold Nat.Coprime;omega
theorem uncop {a b:Int} (h:Nat.Coprime a.natAbs b.natAbs):gi a b=1:=by
 unfold gi Int.gcd;unfold Nat.Coprime at h;omega
theorem zS1 {a b c:Int} (h1:gi a b=1) (h2:gi a c=1):gi a (b*c)=1:=by
 apply uncop;rw[Int.natAbs_mul];exact Nat.Coprime.mul_right (cop h1) (cop h2)
theorem zJs {a b c:Int} (h1:gi a c=1) (h2:gi b c=1):gi (a*b) c=1:=by
 rw[zIe];exact zS1 (by rw[zIe];exact h1) (by rw[zIe];exact h2)
theorem zJr {a b c:Int} (h:gi a b=1) (hc:c∣b):gi a c=1:=by
 exact uncop (Nat.Coprime.coprime_dvd_right (Int.natAbs_dvd_natAbs.2 hc) (cop h))
theorem zS0 {a b k:Int} (h:gi a b=1):gi (a+k*b) b=1:=by
 unfold gi at *;rw[Int.gcd_add_mul_right_left];exact h
theorem zHn {a b c:Int} (h:gi a b=1):gi a (b*c)=gi a c:=by
 have:=Nat.Coprime.gcd_mul_left_cancel_right c.natAbs (Nat.Coprime.symm (cop h))
 unfold gi Int.gcd;rw[Int.natAbs_mul,this]
end Go.Proofs.YtpfgdfpaoldhcaaGreatDoor
namespace Go.Proofs.YtpfgdfpaoldhcaaGreatDoor
open Go.RowKit
theorem zR6 (a b:Int) (w:World) (a0:0≤a) (a1:a<18446744073709551616) (b0:0≤b) (b1:b<18446744073709551616) :
  Calls Tryz.prog 185 #[.int .u64 a,.int .u64 b] w fun e w'=>e=.returned (.int .u64 (gi a b))∧∃n,w'=w.drewN n:=by
 go_enter Tryz.func185,Tryz.ntmps185
 go_wp2
 refine wp_scope_jumps 0 (fun a' w'=>(∃n,w'=w.drewN n)∧∃(x y:Int) (u2 u3 u4 u5 u6 u7 u8 u9 u10 u11:Value),a'={ tmps:=#[.int .u64 x,.int .u64 y,u2,u3,u4,u5,u6,u7,u8,u9,u10,u11],defers:=[] }∧0≤x∧x<18446744073709551616∧0≤y∧y<18446744073709551616∧gi x y=gi a b) (fun a' _=>(intOf (a'.tmps.getD 1 undef)).toNat) rfl ?_ ?_
 ·skip
  by_cases hz:b=0
  ·subst hz
   go_wp2
   go_step3
   go_wp2
   simp only[Exit.jump]
   go_ret
   exact⟨by rw[zKz a zo];rfl,0,rfl⟩
  ·have t1:(b==0)=false:=beq_eq_false_iff_ne.2 hz
   have k1:0≤b:=zo
   have k2:b<18446744073709551616:=zo
   have k3:0≤a%b:=Int.emod_nonneg _ hz
   have k6:a%b<b:=Int.emod_lt_of_pos _ zo
   have k4:a%b<18446744073709551616:=zo
   have k5:gi b (a%b)=gi a b:=zIf a b a0 b0
   go_wp2
   go_step3
   go_wp2
   go_quiet (fail)
   go_wp2
   go_step3
   exact⟨rfl,⟨_,rfl⟩,b,a%b,_,_,_,_,_,_,_,_,_,_,rfl,k1,k2,k3,k4,k5⟩
 ·rintro a' w' ⟨⟨m,rfl⟩,x,y,u2,u3,u4,u5,u6,u7,u8,u9,u10,u11,rfl,x0,x1,y0,y1,hs⟩
  by_cases hz:y=0
  ·subst hz
   go_wp2
   simp only[Exit.jump]
   go_ret
   exact⟨by rw[←hs,zKz x zo];rfl,_,rfl⟩
  ·have t1:(y==0)=false:=beq_eq_false_iff_ne.2 hz
   have k1:0≤y:=zo
   have k2:y<18446744073709551616:=zo
   have k3:0≤x%y:=Int.emod_nonneg _ hz
   have k6:x%y<y:=Int.emod_lt_of_pos _ zo
   have k4:x%y<18446744073709551616:=zo
   have k5:gi y (x%y)=gi a b:=(zIf x y zo zo).trans hs
   go_wp2
   go_quiet (fail)
   go_wp2
   go_step3
   exact⟨rfl,⟨⟨_,by rw[World.drewN_drewN]⟩,y,x%y,_,_,_,_,_,_,_,_,_,_,rfl,k1,k2,k3,k4,k5⟩,by simp[intOf];omega⟩
theorem zBi {w:World} (n:Nat):Below w w (w.drewN n):=zA7 (Below.refl _ _) n
theorem zEn (a b:Int) (w:World) (a0:0≤a) (a1:a<18446744073709551616) (b0:0≤b) (b1:b<18446744073709551616) :
  Calls Tryz.prog 185 #[.int .u64 a,.int .u64 b] w fun e w'=>e=.returned (.int .u64 (gi a b))∧Below w w w':=
 (zR6 a b w a0 a1 b0 b1).mono fun _ _ h=>⟨h.1,by obtain⟨n,hn⟩:=h.2;rw[hn];exact zBi n⟩
theorem zOa (n d:Int) (w:World) (n0:0≤n) (n1:n<18446744073709551616) (d0:0≤d) (d1:d<18446744073709551616) (hp:0<n∨0<d) :
  Calls Tryz.prog 181 #[.int .u64 n,.int .u64 d] w fun e w'=>e=.returned (.tuple #[.int .u64 (mN n d),.int .u64 (mD n d)])∧∃k,w'=w.drewN k:=by
 obtain⟨g,HG⟩:∃g,Hid (gi n d=g):=⟨_,zh rfl⟩
 have gp:=zFn n d hp
 rw[HG.out] at gp
 have q1:0≤n/g:=Int.ediv_nonneg n0 zo
 have q2:n/g<18446744073709551616:=Int.lt_of_le_of_lt (Int.ediv_le_self _ n0) n1
 have q3:0≤d/g:=Int.ediv_nonneg d0 zo
 have q4:d/g<18446744073709551616:=Int.lt_of_le_of_lt (Int.ediv_le_self _ d0) d1
 have t1:(g==0)=false:=beq_eq_false_iff_ne.2 zo
 have hN:=zh (show mN n d=n/g by rw[←HG.out];rfl)
 have hD:=zh (show mD n d=d/g by rw[←HG.out];rfl)
 rw[hN.out,hD.out]
 have C:=zh (zR6 n d w n0 n1 d0 d1)
 clear hp
 go_enter Tryz.func181,Tryz.ntmps181
 go_wp2_with fail
 with_reducible refine (C.out).mono ?_
 rw[HG.out]
 rintro e w' ⟨rfl,m,rfl⟩
 go_wp2
 go_quiet (fail)
 go_wp2
 go_ret2
 exact⟨rfl,_,by rw[World.drewN_drewN]⟩
theorem Calls.same {P:Program} {f:FuncId} {args:Array Value} {w:World} {v:Value}
  (h:Calls P f args w fun e w'=>e=.returned v∧w=w'):Calls P f args w fun e w'=>e=.returned v∧Below w w w':=
 h.mono fun _ _ hh=>⟨hh.1,hh.2▸Below.refl _ _⟩
theorem Held.triple {w W:World} {fs:List Fact} (h:Held w fs W) (B:Nat) (u v x:Value) (t:TypeId) (hB:W.heap.size=B) :
  Held w (.cell B 0 u::.cell B 1 v::.cell B 2 x::.free B 0::.free B 1::.free B 2::fs) (W.alloc (.cells #[u,v,x] t)):=by
 subst hB
 exact ((((((h.alloc _).add (f:=.free W.heap.size 2) ⟨zs,by simp[go_sem]⟩).add (f:=.free W.heap.size 1) ⟨zs,by simp[go_sem]⟩).add (f:=.free W.heap.size 0) ⟨zs,by simp[go_sem]⟩).add (f:=.cell W.heap.size 2 x) zf).add (f:=.cell W.heap.size 1 v) zf).add (f:=.cell W.heap.size 0 u) zf
def Lens (w:World):Prop:=∀i:Nat,i<12→w.cell? ⟨9,i,none⟩=some (.int .i64 (l0 ((i:Int)+1)))
theorem Lens.below {W W':World} (h:Lens W) (hb:Below W W W'):Lens W':=fun i hi=>keep hb (zA0 (h i hi)) (h i hi)
theorem Lens.drewN {W:World} (h:Lens W) (n:Nat):Lens (W.drewN n):=h.below (zBi n)
theorem Lens.alloc {W:World} (h:Lens W) (o:Obj):Lens (W.alloc o):=h.below ((Below.refl _ _).alloc (Nat.le_refl _) o)
def zAa:Fact:=.that Lens (fun _ _ hb h=>h.below hb)
theorem zPh (y k:Int):y.tmod k=0↔y%k=0:=by
 rw[←Int.dvd_iff_tmod_eq_zero,Int.dvd_iff_emod_eq_zero]
theorem zCe (y k:Int) (hk:0<k) : -k<y.tmod k∧y.tmod k<k:=by
 have h1:=Int.lt_tmod_of_pos y hk
 have h2:=Int.tmod_lt_of_pos y hk
 omega
theorem retB {a b:Bool} (h:a=b):Ending.returned a=.returned b:=by rw[h]
theorem retI {k:IntKind} {a b:Int} (h:a=b):Ending.returned (.int k a)=.returned (.int k b):=by rw[h]
theorem ret2 {k l:IntKind} {a b c d:Int} (h1:a=c) (h2:b=d):Ending.returned (.tuple #[.int k a,.int l b])=.returned (.tuple #[.int k c,.int l d]):=by rw[h1,h2]
theorem zIj (y:Int) (w:World):Calls Tryz.prog 180 #[y] w fun e w'=>e=.returned (lp y)∧w=w':=by
 have b1:=zCe y 4 zd
 have b2:=zCe y 100 zd
 have b3:=zCe y 400 zd
 have e1:=zPh y 4
 have e2:=zPh y 100
 have e3:=zPh y 400
 obtain⟨b,hb⟩:∃b,lp y=b:=⟨_,rfl⟩
 have hl:=zEq y
 rw[hb] at hl ⊢
 go_enter Tryz.func180,Tryz.ntmps180
 go_wp2
 all_goals (go_ret;refine⟨retB ?_,rfl⟩;rw[Bool.eq_iff_iff,hl];simp only[Bool.or_eq_true,Bool.and_eq_true,beq_iff_eq,bne_iff_ne,ne_eq,true_iff];omega)
theorem zq7qr {P:Prop} (h:P:=by
 go_enter Tryz.func167,Tryz.ntmps167
 go_wp2
 go_ret
 exact⟨rfl,rfl⟩):P:=h
theorem zO7 (y m:Int) (w:World) (hm:m<1∨12<m):Calls Tryz.prog 167 #[y,m] w fun e w'=>e=.returned (ln y m)∧w=w':=by
 rw[zN1 y m hm]
 by_cases h:m<1
 ·exact zq7qr
 ·have h2:12<m:=zo
  exact zq7qr
theorem zq67l {P:Prop} (h:P:=by
 go_wp2_with fail
 with_reducible refine (CC.out _).mono ?_
 rintro e w1 ⟨rfl,rfl⟩
 cases b
 ·go_wp2
  go_ret
  exact⟨rfl,rfl⟩
 ·go_wp2
  go_ret
  exact⟨rfl,rfl⟩):P:=h
theorem zO9 (y:Int) (w:World) (hL:Lens w):Calls Tryz.prog 167 #[y,(2:Int)] w fun e w'=>e=.returned (ln y 2)∧w=w':=by
 have hc:=hL 1 zd
 rw[show l0 (((1:Nat):Int)+1)=28 from rfl] at hc
 obtain⟨b,hb⟩:∃b,lp y=b:=⟨_,rfl⟩
 have C:=zIj y
 rw[hb] at C
 have hl:ln y 2=if b=true then 29 else 28:=by unfold ln l0;rw[hb];simp
 rw[hl]
 clear hl hL
 have CC:=zh C
 clear C
 go_enter Tryz.func167,Tryz.ntmps167
 exact zq67l
theorem zO8 (y:Int) (k:Nat) (w:World) (hL:Lens w) (hk:k<12) (h1:k≠1):Calls Tryz.prog 167 #[y,((k:Int)+1:Int)] w fun e w'=>e=.returned (ln y ((k:Int)+1):Int)∧w=w':=by
 have hc:=hL k hk
 have hl:ln y ((k:Int)+1)=l0 ((k:Int)+1):=by unfold ln;rw[if_neg zo]
 rw[hl]
 generalize l0 ((k:Int)+1)=v at *
 clear hL hl
 have h2:((k:Int)+1==2)=false:=beq_eq_false_iff_ne.2 zo
 exact zq7qr
theorem zBt (y m:Int) (w:World) (hL:Lens w):Calls Tryz.prog 167 #[y,m] w fun e w'=>e=.returned (ln y m)∧w=w':=by
 by_cases h:m<1∨12<m
 ·exact zO7 y m w h
 ·by_cases h2:m=2
  ·subst h2;exact zO9 y w hL
  ·obtain⟨k,rfl⟩:∃k:Nat,m=(k:Int)+1:=⟨(m-1).toNat,zo⟩
   exact zO8 y k w hL zo zo
theorem zNn (y:Int) (w:World) (h1:1≤y) (h2:y≤100000):Calls Tryz.prog 173 #[y] w fun e w'=>e=.returned (ah y)∧w=w':=by
 have h0:ah y=(y-1)*365+(y-1)/4-(y-1)/100+(y-1)/400:=rfl
 rw[h0]
 go_enter Tryz.func173,Tryz.ntmps173
 go_wp2
 go_ret
 exact⟨rfl,rfl⟩
def wk (n:Int):Int:=(n-1)%7
theorem zq6p1 {P:Prop} (h:P:=by
 by_cases h:0≤n
 ·rw[Int.tmod_eq_emod_of_nonneg h];omega
 ·have h7:n.tmod 7 = -((-n).tmod 7):=by rw[Int.neg_tmod];omega
  rw[h7,Int.tmod_eq_emod_of_nonneg zo];omega):P:=h
theorem zNl (n:Int) (w:World):Calls Tryz.prog 162 #[n] w fun e w'=>e=.returned (wk n)∧w=w':=by
 have b:=zCe n 7 zd
 have e:wk n=(n.tmod 7+7-1)%7:=by
  unfold wk
  exact zq6p1
 rw[e]
 clear e
 go_enter Tryz.func162,Tryz.ntmps162
 go_wp2
 go_ret
 exact⟨rfl,rfl⟩
theorem zPn (n y:Int) (w:World) (h1:1≤y) (h2:y≤9999) (h3:ah y<n) (h4:n≤ah y+yl y) :
  Calls Tryz.prog 136 #[n] w fun e w'=>e=.returned (.tuple #[y,(n-1-ah y:Int)])∧w=w':=by
 have p:=zHz y h1 zo
 have q:=zPo y
 have K:=zh (year_div n y h1 h3 h4)
 have n1:1≤n:=zo
 have n2:n≤3652500:=zo
 clear h1 h2 h3 h4 p q
 generalize n-1-ah y=g at *
 go_enter Tryz.func136,Tryz.ntmps136
 go_wp2
 all_goals
  obtain⟨r,b,r2,c,er,eb,er2,ec,ey,eg⟩:=K.out
  simp only[←er] at *
  go_ret2
  exact⟨ret2 zo zo,rfl⟩
theorem Held.lens {w W:World} {fs:List Fact} (h:Held w fs W) (hm:zAa∈fs:=by exact zm):Lens W:=h.all _ hm
def nN (y m d:Int):Int:=if mb y m d=true then nb y m d else 0
def nE (y m d:Int):Int:=if mb y m d=true then 0 else 3
theorem zEa {y m d:Int} (h:may y m d):nN y m d=nb y m d∧nE y m d=0:=by unfold nN nE;rw[(zFp y m d).2 h];exact⟨rfl,rfl⟩
theorem n_no {y m d:Int} (h:¬may y m d):nN y m d=0∧nE y m d=3:=by unfold nN nE;rw[(zN4 y m d).2 h];exact⟨rfl,rfl⟩
theorem zNm (y m:Int) (w:World) (hL:Lens w) (h1:1≤m) (h2:m≤12):Calls Tryz.prog 174 #[y,m] w fun e w'=>e=.returned (am y m)∧w=w':=by
 have HL:=zh (fun k=>zBt y k w hL)
 clear hL
 go_enter Tryz.func174,Tryz.ntmps174
 go_wp2
 go_loop [5,6] (fun d i=>∃b:Int,1≤b∧b≤m∧i=.int .i64 b∧d=.int .i64 (am y b)) (fun _ i=>(m-intOf i).toNat)
 case atStart=>exact⟨1,zo,h1,rfl,by rw[zFl]⟩
 case round=>
  obtain⟨b,b1,b2,rfl,rfl⟩:=hrel
  by_cases hb:b<m
  ·have st:=zh (zE4 y b b1 zo)
   have k1:=zJ1 y b
   have k2:=zAh y b
   generalize am y b=A at *
   go_wp2_with fail
   with_reducible refine (HL.out _).mono ?_
   rintro e w1 ⟨rfl,rfl⟩
   generalize ln y b=l at *
   go_wp2
   go_round
   case rel=>exact⟨b+1,zo,zo,rfl,by rw[st.out]⟩
   case measure=>simp[intOf];omega
  ·have e:b=m:=zo
   subst e
   go_wp2
   go_ret
   exact⟨rfl,rfl⟩
theorem zL6 (y r m:Int) (w:World) (hL:Lens w) (h1:1≤m) (h2:m≤12) (h3:am y m≤r) (h4:r<am y m+ln y m) :
  Calls Tryz.prog 137 #[y,r] w fun e w'=>e=.returned (.tuple #[m,(r-am y m:Int)])∧w=w':=by
 have HL:=zh (fun k=>zBt y k w hL)
 clear hL
 have r0:0≤r:=by have:=zJ1 y m;omega
 have r1:r≤400:=by have:=zJ1 y m;have:=zAh y m;omega
 go_enter Tryz.func137,Tryz.ntmps137
 go_wp2
 go_loop [4,5] (fun i l=>∃b:Int,1≤b∧b≤m∧i=.int .i64 b∧l=.int .i64 (r-am y b)) (fun i _=>(m-intOf i).toNat)
 case atStart=>exact⟨1,zo,h1,rfl,by rw[zFl];simp⟩
 case round=>
  obtain⟨b,b1,b2,rfl,rfl⟩:=hrel
  have k1:=zJ1 y b
  have k2:=zAh y b
  by_cases hb:b<m
  ·have st:=zh (zE4 y b b1 zo)
   have k3:=am_lt y b m b1 hb zo
   have k4:ln y b≤r-am y b:=zo
   clear k3
   obtain⟨L,HA⟩:∃L,Hid (r-am y b=L):=⟨_,zh rfl⟩
   have k5:0≤L∧L≤400:=by rw[←HA.out];omega
   rw[HA.out] at k4 ⊢
   clear k1
   go_wp2_with fail
   with_reducible refine (HL.out _).mono ?_
   rintro e w1 ⟨rfl,rfl⟩
   obtain⟨l,HB⟩:∃l,Hid (ln y b=l):=⟨_,zh rfl⟩
   rw[HB.out] at k2 k4 ⊢
   go_wp2_with fail
   with_reducible refine (HL.out _).mono ?_
   rintro e w1 ⟨rfl,rfl⟩
   rw[HB.out]
   go_wp2
   go_round
   case rel=>exact⟨b+1,zo,zo,rfl,by rw[st.out,←HA.out,←HB.out];simp only[Value.int.injEq,true_and];omega⟩
   case measure=>simp[intOf];omega
  ·have e:b=m:=zo
   subst e
   have k4:r-am y b<ln y b:=zo
   have k5:0≤r-am y b∧r-am y b≤400:=zo
   obtain⟨L,HA⟩:∃L,Hid (r-am y b=L):=⟨_,zh rfl⟩
   rw[HA.out] at k4 k5 ⊢
   clear k1 h3 h4
   go_wp2_with fail
   with_reducible refine (HL.out _).mono ?_
   rintro e w1 ⟨rfl,rfl⟩
   obtain⟨l,HB⟩:∃l,Hid (ln y b=l):=⟨_,zh rfl⟩
   rw[HB.out] at k2 k4 ⊢
   go_wp2
   go_ret2
   exact⟨by rw[HA.out];rfl,rfl⟩
theorem zq80g {P:Prop} (h:P:=by
 go_enter Tryz.func172,Tryz.ntmps172
 go_wp2
 go_quiet (fail)
 go_wp2
 go_ret
 exact⟨rfl,zA7 ((Below.refl _ _).alloc (Nat.le_refl _) _) _⟩):P:=h
theorem zRp (y m d:Int) (w:World) (hL:Lens w):Calls Tryz.prog 172 #[.agg #[y,m,d]] w fun e w'=>e=.returned (mb y m d)∧Below w w w':=by
 have HL:=zh hL
 clear hL
 by_cases hy:1≤y
 ·by_cases hz:y≤9999
  ·by_cases hd:1≤d
   ·have C:=zh (fun v h=>zBt y m v h)
    obtain⟨l,HB⟩:∃l,Hid (ln y m=l):=⟨_,zh rfl⟩
    have hm:mb y m d=decide (d≤l):=by
     rw[←HB.out];unfold mb;rw[decide_eq_decide]
     constructor
     ·intro h;exact h.2.2.2.2.2
     ·intro h
      by_cases k:m<1∨12<m
      ·rw[zN1 y m k] at h;omega
      ·exact⟨hy,hz,zo,zo,hd,h⟩
    rw[hm]
    rw[HB.out] at C
    go_enter Tryz.func172,Tryz.ntmps172
    go_wp2
    go_quiet ((go_at_call 167;with_reducible exact zAt (C.out _ (Lens.drewN (Lens.alloc HL.out _) _))))
    go_wp2
    go_ret
    exact⟨rfl,zA7 ((Below.refl _ _).alloc (Nat.le_refl _) _) _⟩
   ·skip
    have hm:mb y m d=false:=by unfold mb;rw[decide_eq_false_iff_not];omega
    rw[hm]
    have t1:decide (1≤d)=false:=decide_eq_false hd
    exact zq80g
  ·skip
   have hm:mb y m d=false:=by unfold mb;rw[decide_eq_false_iff_not];omega
   rw[hm]
   have t1:decide (y≤9999)=false:=decide_eq_false hz
   exact zq80g
 ·skip
  have hm:mb y m d=false:=by unfold mb;rw[decide_eq_false_iff_not];omega
  rw[hm]
  have t1:decide (1≤y)=false:=decide_eq_false hy
  exact zq80g
theorem zqt4r {P:Prop} (h:P:=by
 rintro e w1 ⟨rfl,hb1⟩
 replace H:=H.below hb1
 clear hb1
 have HK:=H.old
 clear H
 go_wp2
 go_ret2
 exact⟨rfl,HK⟩):P:=h
theorem zHq (y m d:Int) (w:World) (hL:Lens w):Calls Tryz.prog 145 #[.agg #[y,m,d]] w fun e w'=>
  e=.returned (.tuple #[(nN y m d),(nE y m d)])∧Below w w w':=by
 by_cases hm:may y m d
 ·obtain⟨e1,e2⟩:=zEa hm
  rw[e1,e2]
  have hb:=(zFp y m d).2 hm
  have bd:=zAd y m d hm
  have H:=(Held.start w).add (f:=zAa) hL
  clear hL
  have C1:=zh (fun v h=>zRp y m d v h)
  rw[hb] at C1
  obtain⟨m1,m2,m3,m4,m5,m6⟩:=hm
  have C2:=zh (fun v=>zNn y v m1 zo)
  have C3:=zh (fun v h=>zNm y m v h m3 m4)
  have u1:=zHz y m1 zo
  have u2:=zJ1 y m
  have hn:nb y m d=ah y+am y m+d:=rfl
  rw[hn] at bd ⊢
  generalize ah y=a at *
  generalize am y m=b at *
  clear hn m6
  go_enter Tryz.func145,Tryz.ntmps145
  replace H:=H.triple w.heap.size y m d 86 rfl
  go_wp2_with fail
  with_reducible refine (C1.out _ (H.lens i6_)).mono ?_
  rintro e w1 ⟨rfl,hb1⟩
  replace H:=H.below hb1
  clear hb1
  have HK:=H.old
  have HL:=zh (H.lens i6_)
  obtain⟨c0,c1,c2⟩:=H.cells3 w.heap.size
  clear H
  go_wp2
  go_quiet (first | (go_at_call 173;with_reducible exact zAt (C2.out _)) | (go_at_call 174;with_reducible exact zAt (C3.out _ (Lens.drewN HL.out _))))
  go_wp2
  go_ret2
  exact⟨rfl,zA7 HK _⟩
 ·obtain⟨e1,e2⟩:=n_no hm
  rw[e1,e2]
  have hb:=(zN4 y m d).2 hm
  have C1:=zh (fun v h=>zRp y m d v h)
  rw[hb] at C1
  have H:=(Held.start w).add (f:=zAa) hL
  clear hL hb hm
  go_enter Tryz.func145,Tryz.ntmps145
  replace H:=H.triple w.heap.size y m d 86 rfl
  go_wp2_with fail
  with_reducible refine (C1.out _ (H.lens i6_)).mono ?_
  exact zqt4r
def zAf (n y m d e:Int):Prop:=(may y m d∧nb y m d=n∧e=0)∨((n<1∨3652059<n)∧y=0∧m=0∧d=0∧e=3)
theorem day_is (n:Int):∃y m d e,zAf n y m d e:=by
 by_cases h:n<1∨3652059<n
 ·exact⟨0,0,0,3,Or.inr ⟨h,rfl,rfl,rfl,rfl⟩⟩
 ·obtain⟨y,m,d,h1,h2⟩:=zBk n zo zo
  exact⟨y,m,d,0,Or.inl ⟨h1,h2,rfl⟩⟩
theorem zqhg0 {P:Prop} (h:P:=by
 go_enter Tryz.func115,Tryz.ntmps115
 go_wp2
 exact bodyPost_ret (v:=.tuple #[.agg #[(0:Int),(0:Int),(0:Int)],(3:Int)]) (by simp[results,Tryz.results115,go_sem]) rfl ⟨rfl,D _⟩):P:=h
theorem zAx (n y m d e:Int) (w:World) (hL:Lens w) (hd:zAf n y m d e):Calls Tryz.prog 115 #[n] w fun e' w'=>
  e'=.returned (.tuple #[.agg #[y,m,d],e])∧Below w w w':=by
 rcases hd with⟨hm,hn,rfl⟩ | ⟨ho,rfl,rfl,rfl,rfl⟩
 ·have iy:=zBq y m d hm
  have bd:=zAd y m d hm
  rw[hn] at bd
  obtain⟨m1,m2,m3,m4,m5,m6⟩:=hm
  unfold nb at hn
  have C1:=zh (fun v=>zPn n y v m1 m2 zo zo)
  have C2:=zh (fun v h=>zL6 y (n-1-ah y) m v h m3 m4 zo zo)
  have e1:n-1-ah y-am y m=d-1:=zo
  rw[e1] at C2
  generalize n-1-ah y=g at *
  clear e1 iy
  have d31:d≤31:=by have:=zAh y m;omega
  have H:=(Held.start w).add (f:=zAa) hL
  clear hL hn
  go_enter Tryz.func115,Tryz.ntmps115
  replace H:=H.triple w.heap.size (0:Int) (0:Int) (0:Int) 86 rfl
  go_wp2_with fail
  with_reducible refine (C1.out _).mono ?_
  rintro e w1 ⟨rfl,rfl⟩
  go_wp2_with fail
  with_reducible refine (C2.out _ (H.lens i6_)).mono ?_
  rintro e w1 ⟨rfl,rfl⟩
  have HK:=H.old
  clear H
  go_wp2
  exact bodyPost_ret (v:=.tuple #[.agg #[y,m,d],(0:Int)]) (by simp[results,Tryz.results115,go_sem]) rfl ⟨rfl,(Below.refl _ _).alloc (Nat.le_refl _) _⟩
 ·have D:∀w:World,Below w w (w.alloc (.cells #[(0:Int),(0:Int),(0:Int)] 86)):=fun w=>(Below.refl _ _).alloc (Nat.le_refl _) _
  by_cases h:n<1
  ·exact zqhg0
  ·have h2:3652059<n:=zo
   exact zqhg0
end Go.Proofs.YtpfgdfpaoldhcaaGreatDoor
namespace Go.Proofs.YtpfgdfpaoldhcaaGreatDoor
def eaR (y:Int):Int:=(11*(y%19+1)+20+((8*(y/100+1)+5)/25-5)-(3*(y/100+1)/4-12))%30
def eaE (y:Int):Int:=if eaR y=25∧11<y%19+1∨eaR y=24 then eaR y+1 else eaR y
def eaN (y:Int):Int:=if 44-eaE y<21 then 74-eaE y else 44-eaE y
theorem eaN_bd (y:Int):21≤eaN y∧eaN y≤49:=by
 have a:0≤eaR y∧eaR y<30:=by unfold eaR;omega
 unfold eaN eaE
 split <;> split <;> omega
def sun (d:Int):Int:=d+(6-wk d)
theorem zHx (d:Int):d≤sun d∧sun d≤d+6:=by unfold sun wk;omega
def east (y:Int):Int:=sun (nb y 3 1+eaN y)
def EaIs (y n c:Int):Prop:=(1≤y∧y≤9999∧east y=n∧c=0)∨((y<1∨9999<y)∧n=0∧c=3)
theorem ea_in (y:Int) (h1:1≤y) (h2:y≤9999):EaIs y (east y) 0:=Or.inl ⟨h1,h2,rfl,rfl⟩
theorem ea_val {y n:Int} (h1:1≤y) (h2:y≤9999) (h:east y=n):EaIs y n 0:=Or.inl ⟨h1,h2,h,rfl⟩
theorem march (y d:Int):nb y 3 d=ah y+(59+if lp y=true then 1 else 0)+d:=by unfold nb am a0;simp
theorem ea_bd (y:Int):nb y 3 1+21≤east y∧east y≤nb y 3 1+55:=by
 have a:=eaN_bd y
 have b:=zHx (nb y 3 1+eaN y)
 unfold east
 omega
theorem zDf (y d:Int) (h1:1≤y) (h2:y≤9999) (d1:1≤d) (d2:d≤31):may y 3 d:=⟨h1,h2,zd,zd,d1,by unfold ln l0;simp;exact d2⟩
structure Ru where
 k:Int
 m:Int
 d:Int
 q:Int
 o:Int
 s:Int
 f:Int
 t:Int
def Ru.May (r:Ru):Prop:=
 (0≤r.k∧r.k≤3)∧(0≤r.s∧r.s≤2)∧(1≤r.f∧r.f≤r.t∧r.t≤9999)∧(r.k=3→-100≤r.o∧r.o≤250)∧(r.k≠3→1≤r.m∧r.m≤12) ∧
 (r.k=0→1≤r.d∧r.d≤ln 2000 r.m)∧(r.k=1∨r.k=2→0≤r.d∧r.d≤6)∧(r.k=1→1≤r.q∧r.q≤5)
instance (r:Ru):Decidable r.May:=by unfold Ru.May;infer_instance
def Ru.mb (r:Ru):Bool:=decide r.May
theorem ru_yes {r:Ru} (h:r.May):r.mb=true:=decide_eq_true h
def nthD (y m d q:Int):Int:=1+(d-wk (nb y m 1))%7+7*(q-1)
def zEp (y m d:Int):Int:=ln y m-(wk (nb y m (ln y m))-d)%7
def Ru.dd (r:Ru) (y:Int):Int:=if r.k=0 then r.d else if r.k=1 then nthD y r.m r.d r.q else zEp y r.m r.d
def Ru.bas (r:Ru) (y:Int):Int:=
 if y<r.f∨r.t<y then 0 else if r.k=3 then (if 1≤east y+r.o∧east y+r.o≤3652059 then east y+r.o else 0)
 else if r.dd y≤ln y r.m then nb y r.m (r.dd y) else 0
def shd (s n:Int):Int:=if s=1∧wk n=5 then n-1 else if s=2∧wk n=5 then n+2 else if 0<s∧wk n=6 then n+1 else n
def Ru.inn (r:Ru) (y:Int):Int:=if 0<r.bas y∧1≤shd r.s (r.bas y)∧shd r.s (r.bas y)≤3652059 then shd r.s (r.bas y) else 0
def Ru.Is (r:Ru) (n:Int):Prop:=0<n∧∃y,r.inn y=n
theorem shd_bd (s n:Int):n-1≤shd s n∧shd s n≤n+2:=by unfold shd;omega
theorem dd_one {r:Ru} {y:Int} (h:r.May) (hk:r.k≠3):1≤r.dd y:=by
 obtain⟨h1,h2,h3,h4,h5,h6,h7,h8⟩:=h
 have:=h5 hk
 have l:=zGr y r.m this.1 this.2
 unfold Ru.dd
 by_cases c0:r.k=0
 ·rw[if_pos c0];exact (h6 c0).1
 ·rw[if_neg c0]
  by_cases c1:r.k=1
  ·rw[if_pos c1];have:=h8 c1;unfold nthD;omega
  ·rw[if_neg c1];unfold zEp;omega
theorem zG9 {r:Ru} {y:Int} (h:r.May) (hk:r.k≠3) (hy:r.f≤y∧y≤r.t) (hd:r.dd y≤ln y r.m):r.bas y=nb y r.m (r.dd y)∧may y r.m (r.dd y):=by
 have h3:=h.2.2.1
 have h5:=h.2.2.2.2.1 hk
 have o:=dd_one (y:=y) h hk
 refine⟨?_,zo,zo,h5.1,h5.2,o,hd⟩
 unfold Ru.bas
 rw[if_neg zo,if_neg hk,if_pos hd]
theorem zI5 {r:Ru} {y:Int} (hk:r.k≠3) (hy:r.f≤y∧y≤r.t) (hd:ln y r.m<r.dd y):r.bas y=0:=by
 unfold Ru.bas
 rw[if_neg zo,if_neg hk,if_neg zo]
theorem zI6 {r:Ru} {y:Int} (hy:y<r.f∨r.t<y):r.bas y=0:=by
 unfold Ru.bas
 rw[if_pos hy]
theorem zFx {r:Ru} {y:Int} (hk:r.k=3) (hy:r.f≤y∧y≤r.t) (h:1≤east y+r.o∧east y+r.o≤3652059):r.bas y=east y+r.o:=by
 unfold Ru.bas
 rw[if_neg zo,if_pos hk,if_pos h]
theorem zFy {r:Ru} {y:Int} (hk:r.k=3) (hy:r.f≤y∧y≤r.t) (h:¬(1≤east y+r.o∧east y+r.o≤3652059)):r.bas y=0:=by
 unfold Ru.bas
 rw[if_neg zo,if_pos hk,if_neg h]
theorem bas_bd {r:Ru} (y:Int) (h:r.May):0≤r.bas y∧r.bas y≤3652059:=by
 by_cases hy:y<r.f∨r.t<y
 ·rw[zI6 hy];decide
 ·by_cases hk:r.k=3
  ·by_cases he:1≤east y+r.o∧east y+r.o≤3652059
   ·rw[zFx hk zo he];omega
   ·rw[zFy hk zo he];decide
  ·by_cases hd:r.dd y≤ln y r.m
   ·have a:=zG9 h hk zo hd
    have b:=zAd _ _ _ a.2
    rw[a.1];omega
   ·rw[zI5 hk zo zo];decide
theorem inn_bd {r:Ru} (y:Int):0≤r.inn y∧r.inn y≤3652059:=by unfold Ru.inn;split <;> omega
theorem inn_year {r:Ru} {y:Int} (h:0<r.inn y):0<r.bas y∧r.inn y=shd r.s (r.bas y):=by
 unfold Ru.inn at h ⊢
 by_cases c:0<r.bas y∧1≤shd r.s (r.bas y)∧shd r.s (r.bas y)≤3652059
 ·rw[if_pos c] at h ⊢;exact⟨c.1,rfl⟩
 ·rw[if_neg c] at h;omega
theorem zRb {r:Ru} {y:Int} (h:r.bas y=0):r.inn y=0:=by
 unfold Ru.inn
 rw[if_neg zo]
theorem bas_held {r:Ru} {y:Int} (h:0<r.bas y):r.f≤y∧y≤r.t:=by
 by_cases hy:y<r.f∨r.t<y
 ·rw[zI6 hy] at h;omega
 ·omega
theorem bas_near {r:Ru} {y:Int} (h:r.May) (hb:0<r.bas y):ah y-20<r.bas y∧r.bas y≤ah y+366:=by
 have hy:=bas_held hb
 have h3:=h.2.2.1
 by_cases hk:r.k=3
 ·have ho:=h.2.2.2.1 hk
  by_cases he:1≤east y+r.o∧east y+r.o≤3652059
  ·rw[zFx hk hy he]
   have b:=ea_bd y
   have m:=march y 1
   have:(if lp y=true then (1:Int) else 0)=0∨(if lp y=true then (1:Int) else 0)=1:=by split <;> simp
   omega
  ·rw[zFy hk hy he] at hb;omega
 ·by_cases hd:r.dd y≤ln y r.m
  ·have a:=zG9 h hk hy hd
   rw[a.1]
   have i:=zBq _ _ _ a.2
   have l:=zPo y
   unfold nb
   omega
  ·rw[zI5 hk hy zo] at hb;omega
theorem zRd {r:Ru} {y n Y M D:Int} (h:r.May) (hn:0<n) (hi:r.inn y=n) (hd:may Y M D) (hN:nb Y M D=n):Y-1≤y∧y≤Y+1:=by
 have a:=inn_year (r:=r) (y:=y) zo
 have b:=bas_near h a.1
 have s:=shd_bd r.s (r.bas y)
 have i:=zBq _ _ _ hd
 have l:=zPo Y
 unfold nb at hN
 have e1:y≤Y+1∨Y+2≤y:=zo
 have e2:Y-1≤y∨y+2≤Y:=zo
 refine⟨?_,?_⟩
 ·rcases e2 with e | e
  ·exact e
  ·have:=zKn y Y zo;omega
 ·rcases e1 with e | e
  ·exact e
  ·have p:=zKn (Y+1) y zo
   have q:=zD6 Y
   omega
theorem zRh {y m d:Int} (h:0≤d∧d≤6):wk (nb y m (zEp y m d))=d∧zEp y m d≤ln y m∧ln y m<zEp y m d+7:=by
 have e:nb y m (zEp y m d)=nb y m (ln y m)-(ln y m-zEp y m d):=by unfold nb;omega
 rw[e]
 unfold zEp wk
 omega
structure Ca where
 o:Nat→Bool
 nr:Nat
 R:Nat→Ru
 nd:Nat
 X:Nat→Int
def Ca.May (c:Ca):Prop:=(∃i,i<7∧c.o i=false)∧c.nr≤100∧c.nd≤1000∧(∀j,j<c.nr→(c.R j).May)∧(∀j,j<c.nd→1≤c.X j∧c.X j≤3652059)∧∀j,j+1<c.nd→c.X j<c.X (j+1)
def Ca.Is (c:Ca) (n:Int):Prop:=(1≤n∧n≤3652059)∧c.o (wk n).toNat=false∧(∀j,j<c.nd→c.X j≠n)∧∀j,j<c.nr→¬(c.R j).Is n
def Ca.Small (c:Ca):Prop:=c.nr≤200∧c.nd≤2000
theorem wk_bd (n:Int):0≤wk n∧wk n≤6:=by unfold wk;omega
theorem wk_nat (n:Int):∃v:Nat,wk n=v∧v<7:=⟨(wk n).toNat,by have:=wk_bd n;omega,by have:=wk_bd n;omega⟩
theorem zB3 {b:Bool} {P:Prop} (h:b=true↔P) (hP:¬P):b=false:=by
 cases b
 ·rfl
 ·exact absurd (h.1 rfl) hP
open Classical in
theorem zI7 (P:Prop):∃b:Bool,(b=true↔P):=⟨decide P,zs⟩
theorem Ca.May.rules {c:Ca} (h:c.May):∀j,j<c.nr→(c.R j).May:=by obtain⟨_,_,_,h,_,_⟩:=h;exact h
noncomputable def Ca.ib (c:Ca) (n:Int):Bool:=@decide (c.Is n) (Classical.propDecidable _)
noncomputable def Ca.cnt (c:Ca) (a:Int):Nat→Int
 | 0=>0
 | k+1=>c.cnt a k+if c.ib (a+k)=true then 1 else 0
theorem Ca.cnt_succ (c:Ca) (a:Int) (k:Nat):c.cnt a (k+1)=c.cnt a k+if c.ib (a+k)=true then 1 else 0:=rfl
theorem Ca.cnt_bd (c:Ca) (a:Int):∀k:Nat,0≤c.cnt a k∧c.cnt a k≤k
 | 0=>by unfold Ca.cnt;omega
 | k+1=>by
  have:=Ca.cnt_bd c a k
  rw[Ca.cnt_succ]
  split <;> omega
def dy (n:Int):Prop:=1≤n∧n≤3652059
end Go.Proofs.YtpfgdfpaoldhcaaGreatDoor
namespace Go.Proofs.YtpfgdfpaoldhcaaGreatDoor
def StepIs (c:Ca) (s n v e:Int):Prop:=
 (¬dy n∧v=0∧e=3)∨(dy n∧∃k:Nat,k≤60∧v=n+s*k∧c.Is v∧(∀l:Nat,l<k→¬c.Is (n+s*l))∧e=0) ∨
 (dy n∧(∀l:Nat,l≤60→¬c.Is (n+s*l))∧v=0∧((dy (n+s*60)∧e=8)∨(¬dy (n+s*60)∧e=3)))
theorem least {P:Nat→Prop}:∀k:Nat,P k→∃j,j≤k∧P j∧∀l,l<j→¬P l:=by
 intro k
 induction k using Nat.strongRecOn with
 | ind k ih=>
  intro h
  by_cases g:∃l,l<k∧P l
  ·obtain⟨l,hl,pl⟩:=g
   obtain⟨j,j1,j2,j3⟩:=ih l hl pl
   exact⟨j,zo,j2,j3⟩
  ·exact⟨k,Nat.le_refl _,h,fun l hl p=>g ⟨l,hl,p⟩⟩
theorem zIw (c:Ca) (s n:Int):∃v e,StepIs c s n v e:=by
 by_cases hn:dy n
 ·by_cases h:∃k:Nat,k≤60∧c.Is (n+s*k)
  ·obtain⟨k,h1,h2⟩:=h
   obtain⟨j,j1,j2,j3⟩:=least (P:=fun k:Nat=>c.Is (n+s*k)) k h2
   exact⟨_,0,Or.inr (Or.inl ⟨hn,j,zo,rfl,j2,j3,rfl⟩)⟩
  ·have g:∀l:Nat,l≤60→¬c.Is (n+s*l):=fun l hl hi=>h ⟨l,hl,hi⟩
   by_cases d:dy (n+s*60)
   ·exact⟨0,8,Or.inr (Or.inr ⟨hn,g,rfl,Or.inl ⟨d,rfl⟩⟩)⟩
   ·exact⟨0,3,Or.inr (Or.inr ⟨hn,g,rfl,Or.inr ⟨d,rfl⟩⟩)⟩
 ·exact⟨0,3,Or.inl ⟨hn,rfl,rfl⟩⟩
theorem StepIs.zero {c:Ca} {s n v e:Int} (h:StepIs c s n v e) (he:e≠0):v=0:=by
 rcases h with⟨_,h,_⟩ | ⟨_,k,_,_,_,_,h⟩ | ⟨_,_,h,_⟩
 ·exact h
 ·exact absurd h he
 ·exact h
theorem StepIs.good {c:Ca} {s n v e:Int} (h:StepIs c s n v e) (he:e=0):dy n∧c.Is v∧∃k:Nat,k≤60∧v=n+s*k∧∀l:Nat,l<k→¬c.Is (n+s*l):=by
 rcases h with⟨_,_,h⟩ | ⟨hn,k,k1,k2,k3,k4,h⟩ | ⟨_,_,_,⟨_,h⟩ | ⟨_,h⟩⟩
 ·omega
 ·exact⟨hn,k3,k,k1,k2,k4⟩
 ·omega
 ·omega
theorem StepIs.bad {c:Ca} {s n v e:Int} (h:StepIs c s n v e) (he:e≠0) (hn:dy n):∀l:Nat,l≤60→¬c.Is (n+s*l):=by
 rcases h with⟨h,_,_⟩ | ⟨_,k,_,_,_,_,h⟩ | ⟨_,h,_,_⟩
 ·exact absurd hn h
 ·exact absurd h he
 ·exact h
theorem StepIs.same {c:Ca} {s n v e v' e':Int} (h:StepIs c s n v e) (g:StepIs c s n v' e'):v=v'∧e=e':=by
 rcases h with⟨h0,h1,h2⟩ | ⟨h0,k,h1,h2,h3,h4,h5⟩ | ⟨h0,h1,h2,h3⟩ <;> rcases g with⟨g0,g1,g2⟩ | ⟨g0,j,g1,g2,g3,g4,g5⟩ | ⟨g0,g1,g2,g3⟩
 ·exact⟨h1.trans g1.symm,h2.trans g2.symm⟩
 ·exact absurd g0 h0
 ·exact absurd g0 h0
 ·exact absurd h0 g0
 ·have e:k=j:=by
   rcases Nat.lt_trichotomy k j with l | l | l
   ·rw[h2] at h3;exact absurd h3 (g4 k l)
   ·exact l
   ·rw[g2] at g3;exact absurd g3 (h4 j l)
  subst e
  exact⟨h2.trans g2.symm,h5.trans g5.symm⟩
 ·rw[h2] at h3;exact absurd h3 (g1 k h1)
 ·exact absurd h0 g0
 ·rw[g2] at g3;exact absurd g3 (h1 j g1)
 ·refine⟨h2.trans g2.symm,?_⟩
  rcases h3 with⟨a,b⟩ | ⟨a,b⟩ <;> rcases g3 with⟨x,y⟩ | ⟨x,y⟩
  ·exact b.trans y.symm
  ·exact absurd a x
  ·exact absurd x a
  ·exact b.trans y.symm
def zBs (n a:Int):Prop:=∃y m d d',(may y m d∧nb y m d=n)∧may y m d'∧nb y m d'=a
theorem zNj {n a y m d y' m' d':Int} (h:may y m d) (hn:nb y m d=n) (g:may y' m' d') (ga:nb y' m' d'=a):zBs n a↔y'=y∧m'=m:=by
 constructor
 ·rintro⟨u,v,x,x',⟨h1,h2⟩,h3,h4⟩
  obtain⟨rfl,rfl,_⟩:=nb_inj y m d u v x h h1 (hn.trans h2.symm)
  obtain⟨rfl,rfl,_⟩:=nb_inj _ _ _ _ _ _ g h3 (ga.trans h4.symm)
  exact⟨rfl,rfl⟩
 ·rintro⟨rfl,rfl⟩
  exact⟨_,_,d,d',⟨h,hn⟩,g,ga⟩
def ModIs (c:Ca) (s t n v e:Int):Prop:=∃a f,StepIs c s n a f∧(((f≠0∨zBs n a)∧v=a∧e=f)∨((f=0∧¬zBs n a)∧StepIs c t n v e))
theorem mod_is (c:Ca) (s t n:Int):∃v e,ModIs c s t n v e:=by
 obtain⟨a,f,h⟩:=zIw c s n
 obtain⟨v,e,g⟩:=zIw c t n
 by_cases hf:f=0
 ·by_cases hs:zBs n a
  ·exact⟨a,f,a,f,h,Or.inl ⟨Or.inr hs,rfl,rfl⟩⟩
  ·exact⟨v,e,a,f,h,Or.inr ⟨⟨hf,hs⟩,g⟩⟩
 ·exact⟨a,f,a,f,h,Or.inl ⟨Or.inl hf,rfl,rfl⟩⟩
def ToIs (c:Ca) (n k v e:Int):Prop:=
 (k=0∧((dy n∧v=n∧e=0)∨(¬dy n∧v=0∧e=3)))∨(k=1∧StepIs c 1 n v e)∨(k=2∧ModIs c 1 (-1) n v e)∨(k=3∧StepIs c (-1) n v e)∨(k=4∧ModIs c (-1) 1 n v e)∨((k<0∨4<k)∧v=0∧e=1)
theorem zPi (c:Ca) (n k:Int):∃v e,ToIs c n k v e:=by
 by_cases h0:k=0
 ·by_cases hd:dy n
  ·exact⟨n,0,Or.inl ⟨h0,Or.inl ⟨hd,rfl,rfl⟩⟩⟩
  ·exact⟨0,3,Or.inl ⟨h0,Or.inr ⟨hd,rfl,rfl⟩⟩⟩
 by_cases h1:k=1
 ·obtain⟨v,e,h⟩:=zIw c 1 n
  exact⟨v,e,Or.inr (Or.inl ⟨h1,h⟩)⟩
 by_cases h2:k=2
 ·obtain⟨v,e,h⟩:=mod_is c 1 (-1) n
  exact⟨v,e,Or.inr (Or.inr (Or.inl ⟨h2,h⟩))⟩
 by_cases h3:k=3
 ·obtain⟨v,e,h⟩:=zIw c (-1) n
  exact⟨v,e,Or.inr (Or.inr (Or.inr (Or.inl ⟨h3,h⟩)))⟩
 by_cases h4:k=4
 ·obtain⟨v,e,h⟩:=mod_is c (-1) 1 n
  exact⟨v,e,Or.inr (Or.inr (Or.inr (Or.inr (Or.inl ⟨h4,h⟩))))⟩
 exact⟨0,1,Or.inr (Or.inr (Or.inr (Or.inr (Or.inr ⟨zo,rfl,rfl⟩))))⟩
theorem ModIs.good {c:Ca} {s t n v e:Int} (h:ModIs c s t n v e):(e=0→c.Is v)∧(e≠0→v=0):=by
 obtain⟨a,f,h1,⟨_,rfl,rfl⟩ | ⟨_,h2⟩⟩:=h
 ·exact⟨fun g=>(h1.good g).2.1,fun g=>h1.zero g⟩
 ·exact⟨fun g=>(h2.good g).2.1,fun g=>h2.zero g⟩
theorem ModIs.same {c:Ca} {s t n v e v' e':Int} (h:ModIs c s t n v e) (g:ModIs c s t n v' e'):v=v'∧e=e':=by
 obtain⟨a,f,h1,h2⟩:=h
 obtain⟨a',f',g1,g2⟩:=g
 obtain⟨rfl,rfl⟩:=h1.same g1
 rcases h2 with⟨x,rfl,rfl⟩ | ⟨x,h2⟩ <;> rcases g2 with⟨y,rfl,rfl⟩ | ⟨y,g2⟩
 ·exact⟨rfl,rfl⟩
 ·rcases x with x | x
  ·exact absurd y.1 x
  ·exact absurd x y.2
 ·rcases y with y | y
  ·exact absurd x.1 y
  ·exact absurd y x.2
 ·exact h2.same g2
theorem ToIs.same {c:Ca} {n k v e v' e':Int} (h:ToIs c n k v e) (g:ToIs c n k v' e'):v=v'∧e=e':=by
 rcases h with⟨h0,h1⟩ | ⟨h0,h1⟩ | ⟨h0,h1⟩ | ⟨h0,h1⟩ | ⟨h0,h1⟩ | ⟨h0,h1,h2⟩ <;> rcases g with⟨g0,g1⟩ | ⟨g0,g1⟩ | ⟨g0,g1⟩ | ⟨g0,g1⟩ | ⟨g0,g1⟩ | ⟨g0,g1,g2⟩ <;> first | (exfalso;omega) | exact h1.same g1 | skip
 ·rcases h1 with⟨a,b,c⟩ | ⟨a,b,c⟩ <;> rcases g1 with⟨x,y,z⟩ | ⟨x,y,z⟩
  ·exact⟨b.trans y.symm,c.trans z.symm⟩
  ·exact absurd a x
  ·exact absurd x a
  ·exact⟨b.trans y.symm,c.trans z.symm⟩
 ·exact⟨h1.trans g1.symm,h2.trans g2.symm⟩
theorem ToIs.zero {c:Ca} {n k v e:Int} (h:ToIs c n k v e) (he:e≠0):v=0:=by
 rcases h with⟨_,⟨_,_,h⟩ | ⟨_,h,_⟩⟩ | ⟨_,h⟩ | ⟨_,h⟩ | ⟨_,h⟩ | ⟨_,h⟩ | ⟨_,h,_⟩
 ·exact absurd h he
 ·exact h
 ·exact h.zero he
 ·exact h.good.2 he
 ·exact h.zero he
 ·exact h.good.2 he
 ·exact h
theorem ToIs.one {c:Ca} {n k v e a ea b eb:Int} (h:ToIs c n k v e) (he:e=0) (ha:StepIs c 1 n a ea) (hb:StepIs c (-1) n b eb):(k=0∧v=n)∨(v=a∧ea=0)∨(v=b∧eb=0):=by
 rcases h with⟨h0,⟨_,b,_⟩ | ⟨_,_,h⟩⟩ | ⟨_,h⟩ | ⟨_,x,f,h,⟨_,rfl,rfl⟩ | ⟨_,g⟩⟩ | ⟨_,h⟩ | ⟨_,x,f,h,⟨_,rfl,rfl⟩ | ⟨_,g⟩⟩ | ⟨_,_,h⟩
 ·exact Or.inl ⟨h0,b⟩
 ·omega
 ·obtain⟨rfl,rfl⟩:=h.same ha;exact Or.inr (Or.inl ⟨rfl,he⟩)
 ·obtain⟨rfl,rfl⟩:=h.same ha;exact Or.inr (Or.inl ⟨rfl,he⟩)
 ·obtain⟨rfl,rfl⟩:=g.same hb;exact Or.inr (Or.inr ⟨rfl,he⟩)
 ·obtain⟨rfl,rfl⟩:=h.same hb;exact Or.inr (Or.inr ⟨rfl,he⟩)
 ·obtain⟨rfl,rfl⟩:=h.same hb;exact Or.inr (Or.inr ⟨rfl,he⟩)
 ·obtain⟨rfl,rfl⟩:=g.same ha;exact Or.inr (Or.inl ⟨rfl,he⟩)
 ·omega
theorem ModIs.code {c:Ca} {s t n v e a f:Int} (h:ModIs c s t n v e) (g:StepIs c s n a f) (hf:f≠0):e=f:=by
 obtain⟨x,y,h1,⟨_,rfl,rfl⟩ | ⟨h2,_⟩⟩:=h
 ·exact (h1.same g).2
 ·obtain⟨rfl,rfl⟩:=h1.same g
  exact absurd h2.1 hf
theorem ModIs.both {c:Ca} {s t n v e a b:Int} (h:ModIs c s t n v e) (g:StepIs c s n a 0) (k:StepIs c t n b 0):e=0∧(zBs n a→v=a)∧(¬zBs n a→v=b):=by
 obtain⟨x,y,h1,⟨h2,rfl,rfl⟩ | ⟨h2,h3⟩⟩:=h
 ·obtain⟨rfl,rfl⟩:=h1.same g
  rcases h2 with h2 | h2
  ·exact absurd rfl h2
  ·exact⟨rfl,fun _=>rfl,fun z=>absurd h2 z⟩
 ·obtain⟨rfl,_⟩:=h1.same g
  obtain⟨rfl,rfl⟩:=h3.same k
  exact⟨rfl,fun z=>absurd z h2.2,fun _=>rfl⟩
def rn (k:Int):ByteArray:=if k=0 then ⟨#[110,111,110,101]⟩ else if k=1 then ⟨#[102,111,108,108,111,119,105,110,103]⟩ else if k=2 then ⟨#[109,111,100,102,111,108,108,111,119,105,110,103]⟩ else if k=3 then ⟨#[112,114,101,99,101,100,105,110,103]⟩ else if k=4 then ⟨#[109,111,100,112,114,101,99,101,100,105,110,103]⟩ else ⟨#[]⟩
def rk (s:ByteArray):Int × Int:=if ((rn 0).toList==s.toList)=true then (0,0) else if ((rn 1).toList==s.toList)=true then (1,0) else if ((rn 2).toList==s.toList)=true then (2,0) else if ((rn 3).toList==s.toList)=true then (3,0) else if ((rn 4).toList==s.toList)=true then (4,0) else (0,10)
theorem rn_out (k:Int) (h:k<0∨4<k):rn k=⟨#[]⟩:=by
 unfold rn
 rw[if_neg zo,if_neg zo,if_neg zo,if_neg zo,if_neg zo]
theorem of5 (k:Int) (h:0≤k∧k≤4):k=0∨k=1∨k=2∨k=3∨k=4:=zo
theorem rn_0:rn 0=⟨#[110,111,110,101]⟩:=by simp[rn]
theorem rn_1:rn 1=⟨#[102,111,108,108,111,119,105,110,103]⟩:=by simp[rn]
theorem rn_2:rn 2=⟨#[109,111,100,102,111,108,108,111,119,105,110,103]⟩:=by simp[rn]
theorem rn_3:rn 3=⟨#[112,114,101,99,101,100,105,110,103]⟩:=by simp[rn]
theorem rn_4:rn 4=⟨#[109,111,100,112,114,101,99,101,100,105,110,103]⟩:=by simp[rn]
def dm (b:Bool) (y m d Y M:Int):Int:=if b=true∧d=ln y m then ln Y M else min d (ln Y M)
theorem zQu (b:Bool) (y m d Y M:Int) (h:may y m d) (h1:1≤Y) (h2:Y≤9999) (h3:1≤M) (h4:M≤12):may Y M (dm b y m d Y M):=by
 obtain⟨a1,a2,a3,a4,a5,a6⟩:=h
 have:=zGr Y M h3 h4
 refine⟨h1,h2,h3,h4,?_,?_⟩ <;> (unfold dm;split <;> omega)
def zD3 (n k:Int) (b:Bool) (r e:Int):Prop:=
 (∃y m d Y M:Int,may y m d∧nb y m d=n∧1≤Y∧Y≤9999∧1≤M∧M≤12∧12*Y+M=12*y+m+k∧nb Y M (dm b y m d Y M)=r∧e=0)
 ∨ ((∃y m d:Int,may y m d∧nb y m d=n∧(12*y+m+k<13∨120000<12*y+m+k))∧r=0∧e=3)
 ∨ ((n<1∨3652059<n)∧r=0∧e=3)
theorem zIl {n k r:Int} {b:Bool} (y m d Y M D:Int) (h:may y m d) (hn:nb y m d=n) (h1:1≤Y) (h2:Y≤9999) (h3:1≤M) (h4:M≤12)
  (hk:12*Y+M=12*y+m+k) (hD:dm b y m d Y M=D) (hr:nb Y M D=r):zD3 n k b r 0:=
 Or.inl ⟨y,m,d,Y,M,h,hn,h1,h2,h3,h4,hk,by rw[hD,hr],rfl⟩
theorem zN5 {n k:Int} {b:Bool} (y m d:Int) (h:may y m d) (hn:nb y m d=n) (hk:12*y+m+k<13∨120000<12*y+m+k):zD3 n k b 0 3:=
 Or.inr (Or.inl ⟨⟨y,m,d,h,hn,hk⟩,rfl,rfl⟩)
theorem move_out {n k:Int} {b:Bool} (h:n<1∨3652059<n):zD3 n k b 0 3:=Or.inr (Or.inr ⟨h,rfl,rfl⟩)
def EndIs (n r e:Int):Prop:=(∃y m d:Int,may y m d∧nb y m d=n∧nb y m (ln y m)=r∧e=0)∨((n<1∨3652059<n)∧r=0∧e=3)
theorem end_in {n r:Int} (y m d:Int) (h:may y m d) (hn:nb y m d=n) (hr:nb y m (ln y m)=r):EndIs n r 0:=Or.inl ⟨y,m,d,h,hn,hr,rfl⟩
def zB6 (n:Int) (b:Bool):Prop:=(∃y m d:Int,may y m d∧nb y m d=n∧b=decide (d=ln y m))∨((n<1∨3652059<n)∧b=false)
theorem zAy {n:Int} {b:Bool} (y m d:Int) (h:may y m d) (hn:nb y m d=n) (hb:decide (d=ln y m)=b):zB6 n b:=Or.inl ⟨y,m,d,h,hn,hb.symm⟩
theorem end_may (y m d:Int) (h:may y m d):may y m (ln y m):=by
 obtain⟨a1,a2,a3,a4,a5,a6⟩:=h
 have:=zGr y m a3 a4
 exact⟨a1,a2,a3,a4,zo,Int.le_refl _⟩
def px (y1 m1 d1 y2 m2 d2:Int):Int:=if 360*(y2-y1)+30*(m2-m1)+(d2-d1)<0 then 0 else 360*(y2-y1)+30*(m2-m1)+(d2-d1)
def cutD (d:Int):Int:=if d=31 then 30 else d
def fulD (y m d:Int):Int:=if d=ln y m then 30 else d
def febB (y m d:Int):Bool:=decide (m=2∧d=ln y m)
def usA (t f1:Bool) (d1:Int):Int:=if t=true∧f1=true then 30 else d1
def usB (t f1 f2:Bool) (d2:Int):Int:=if t=true∧f1=true∧f2=true then 30 else d2
def usC (a b:Int):Int:=if b=31∧(a=30∨a=31) then 30 else b
def uX (t:Bool) (y1 m1 d1 y2 m2 d2:Int):Int:=
 px y1 m1 (cutD (usA t (febB y1 m1 d1) d1)) y2 m2 (usC (usA t (febB y1 m1 d1) d1) (usB t (febB y1 m1 d1) (febB y2 m2 d2) d2))
def eX (y1 m1 d1 y2 m2 d2:Int):Int:=px y1 m1 (cutD d1) y2 m2 (cutD d2)
def isB (t:Bool) (y m d:Int):Int:=if d=ln y m∧¬(t=true∧m=2) then 30 else d
def iX (t:Bool) (y1 m1 d1 y2 m2 d2:Int):Int:=px y1 m1 (fulD y1 m1 d1) y2 m2 (isB t y2 m2 d2)
def zBd (X:Int→Int→Int→Int→Int→Int→Int) (a b p q c:Int):Prop:=
 (∃y1 m1 d1 y2 m2 d2:Int,may y1 m1 d1∧nb y1 m1 d1=a∧may y2 m2 d2∧nb y2 m2 d2=b∧a≤b∧rN (X y1 m1 d1 y2 m2 d2) 360=p∧rD (X y1 m1 d1 y2 m2 d2) 360=q∧c=0)
 ∨ (((a<1∨3652059<a)∨(b<1∨3652059<b))∧p=0∧q=0∧c=3)
 ∨ ((1≤a∧a≤3652059)∧(1≤b∧b≤3652059)∧b<a∧p=0∧q=0∧c=4)
theorem zq0sx {P:Prop} (h:P:=by
 by_cases h2:b<a
 ·exact⟨0,0,4,Or.inr (Or.inr ⟨zo,zo,h2,rfl,rfl,rfl⟩)⟩
 ·obtain⟨y1,m1,d1,a1,a2⟩:=zBk a zo zo
  obtain⟨y2,m2,d2,b1,b2⟩:=zBk b zo zo
  exact⟨_,_,0,Or.inl ⟨y1,m1,d1,y2,m2,d2,a1,a2,b1,b2,zo,rfl,rfl,rfl⟩⟩):P:=h
theorem zLb (X:Int→Int→Int→Int→Int→Int→Int) (a b:Int):∃p q c,zBd X a b p q c:=by
 by_cases h1:(a<1∨3652059<a)∨(b<1∨3652059<b)
 ·exact⟨0,0,3,Or.inr (Or.inl ⟨h1,rfl,rfl,rfl⟩)⟩
 ·exact zq0sx
theorem zSe (y1 m1 d1 y2 m2 d2:Int) (a1:1≤y1) (a2:y1≤9999) (b1:1≤y2) (b2:y2≤9999) (c1:1≤m1) (c2:m1≤12) (e1:1≤m2) (e2:m2≤12) (f1:0≤d1) (f2:d1≤31) (g1:0≤d2) (g2:d2≤31) :
  0≤px y1 m1 d1 y2 m2 d2∧px y1 m1 d1 y2 m2 d2≤3700000:=by
 unfold px;split <;> omega
theorem zBz (x:Int) (h0:0≤x) (h:x≤3700000):fitB x 360=true:=by
 rw[zCa]
 have:=m_le x 360 h0 zd
 omega
end Go.Proofs.YtpfgdfpaoldhcaaGreatDoor
namespace Go.Proofs.YtpfgdfpaoldhcaaGreatDoor
open Go.RowKit
theorem zGy (y:Int) (w:World):Calls Tryz.prog 84 #[y] w fun e w'=>e=.returned (lp y)∧w=w':=by
 have b1:=zCe y 4 zd
 have b2:=zCe y 100 zd
 have b3:=zCe y 400 zd
 have e1:=zPh y 4
 have e2:=zPh y 100
 have e3:=zPh y 400
 obtain⟨b,hb⟩:∃b,lp y=b:=⟨_,rfl⟩
 have hl:=zEq y
 rw[hb] at hl ⊢
 go_enter Tryz.func84,Tryz.ntmps84
 go_wp2
 all_goals (go_ret;refine⟨retB ?_,rfl⟩;rw[Bool.eq_iff_iff,hl];(try simp only[beq_iff_eq,beq_eq_false_iff_ne,ne_eq] at *);(try simp only[Bool.or_eq_true,Bool.and_eq_true,beq_iff_eq,bne_iff_ne,ne_eq,true_iff,Bool.false_eq_true,false_iff]);omega)
theorem zBu (y m:Int) (w:World):Calls Tryz.prog 75 #[y,m] w fun e w'=>e=.returned (ln y m)∧w=w':=by
 by_cases h:m<1∨12<m
 ·rw[zN1 y m h]
  have t1:(m==1)=false:=beq_eq_false_iff_ne.2 zo
  have t2:(m==2)=false:=beq_eq_false_iff_ne.2 zo
  have t3:(m==3)=false:=beq_eq_false_iff_ne.2 zo
  have t4:(m==4)=false:=beq_eq_false_iff_ne.2 zo
  have t5:(m==5)=false:=beq_eq_false_iff_ne.2 zo
  have t6:(m==6)=false:=beq_eq_false_iff_ne.2 zo
  have t7:(m==7)=false:=beq_eq_false_iff_ne.2 zo
  have t8:(m==8)=false:=beq_eq_false_iff_ne.2 zo
  have t9:(m==9)=false:=beq_eq_false_iff_ne.2 zo
  have ta:(m==10)=false:=beq_eq_false_iff_ne.2 zo
  have tb:(m==11)=false:=beq_eq_false_iff_ne.2 zo
  have tc:(m==12)=false:=beq_eq_false_iff_ne.2 zo
  clear h
  go_enter Tryz.func75,Tryz.ntmps75
  go_wp2
  go_ret
  exact⟨rfl,rfl⟩
 ·by_cases h2:m=2
  ·subst h2
   obtain⟨b,hb⟩:∃b,lp y=b:=⟨_,rfl⟩
   have C:=zGy y
   rw[hb] at C
   have hl:ln y 2=if b=true then 29 else 28:=by unfold ln l0;rw[hb];simp
   rw[hl]
   clear hl h
   have CC:=zh C
   clear C
   go_enter Tryz.func75,Tryz.ntmps75
   exact zq67l
  ·have hm:m=1∨m=3∨m=4∨m=5∨m=6∨m=7∨m=8∨m=9∨m=10∨m=11∨m=12:=zo
   have hl:ln y m=l0 m:=by unfold ln;rw[if_neg zo]
   rw[hl]
   clear h h2 hl
   rcases hm with rfl | rfl | rfl | rfl | rfl | rfl | rfl | rfl | rfl | rfl | rfl
   all_goals
    go_enter Tryz.func75,Tryz.ntmps75
    go_wp2
    go_ret
    exact⟨rfl,rfl⟩
theorem zNe (y m d:Int) (w:World):Calls Tryz.prog 73 #[.agg #[y,m,d]] w fun e w'=>e=.returned (mb y m d)∧Below w w w':=by
 have D:∀w:World,Below w w (w.alloc (.cells #[y,m,d] 86)):=fun w=>(Below.refl _ _).alloc (Nat.le_refl _) _
 by_cases h:y<1∨9999<y∨m<1∨12<m∨d<1
 ·have hm:mb y m d=false:=by unfold mb;rw[decide_eq_false_iff_not];omega
  rw[hm]
  go_enter Tryz.func73,Tryz.ntmps73
  go_wp2
  all_goals first | (exfalso;omega) | skip
  all_goals (go_ret;exact⟨rfl,D _⟩)
 ·have y1:1≤y:=zo
  have y2:y≤9999:=zo
  have m1:1≤m:=zo
  have m2:m≤12:=zo
  have d1:1≤d:=zo
  have C:=zh (fun v=>zBu y m v)
  obtain⟨l,HB⟩:∃l,Hid (ln y m=l):=⟨_,zh rfl⟩
  have hm:mb y m d=decide (d≤l):=by
   rw[←HB.out];unfold mb;rw[decide_eq_decide]
   exact⟨fun h=>h.2.2.2.2.2,fun h=>⟨y1,y2,m1,m2,d1,h⟩⟩
  rw[hm]
  rw[HB.out] at C
  clear h hm
  go_enter Tryz.func73,Tryz.ntmps73
  go_wp2_with fail
  with_reducible refine (C.out _).mono ?_
  rintro e w1 ⟨rfl,rfl⟩
  go_wp2
  go_ret
  exact⟨rfl,D _⟩
theorem zHt (y:Int) (w:World) (h1:1≤y) (h2:y≤10000):Calls Tryz.prog 74 #[y] w fun e w'=>e=.returned (ah y)∧w=w':=by
 have C:=zh (fun k w=>zGy k w)
 go_enter Tryz.func74,Tryz.ntmps74
 go_wp2
 go_loop [4,5] (fun n i=>∃k:Int,1≤k∧k≤y∧i=.int .i64 k∧n=.int .i64 (ah k)) (fun _ i=>(y-intOf i).toNat)
 case atStart=>exact⟨400*((y-1)/400)+1,zo,zo,rfl,by unfold ah;simp only[Value.int.injEq,true_and];omega⟩
 case round=>
  obtain⟨k,k1,k2,rfl,rfl⟩:=hrel
  by_cases hk:k<y
  ·have st:=zh (zD6 k)
   have u:=zHz k k1 zo
   generalize ah k=A at *
   unfold yl at st
   go_wp2_with fail
   with_reducible refine (C.out _ _).mono ?_
   rintro e w1 ⟨rfl,rfl⟩
   generalize lp k=b at *
   cases b
   ·go_wp2
    go_round
    case rel=>exact⟨k+1,zo,zo,rfl,by rw[st.out];rfl⟩
    case measure=>simp[intOf];omega
   ·go_wp2
    go_round
    case rel=>exact⟨k+1,zo,zo,rfl,by rw[st.out];simp only[Value.int.injEq,true_and];simp;omega⟩
    case measure=>simp[intOf];omega
  ·have e:k=y:=zo
   subst e
   go_wp2
   go_ret
   exact⟨rfl,rfl⟩
theorem zDi (n:Int) (w:World):Calls Tryz.prog 38 #[n] w fun e w'=>e=.returned (wk n)∧w=w':=by
 have b:=zCe n 7 zd
 have e:n%7=(n.tmod 7+7)%7:=by
  exact zq6p1
 have K:=zh e
 have e2:wk n=if n%7=0 then 6 else n%7-1:=by unfold wk;split <;> omega
 rw[e2]
 clear e e2
 go_enter Tryz.func38,Tryz.ntmps38
 go_wp2
 all_goals
  go_ret
  have e:=K.out
  refine⟨retI ?_,rfl⟩
  (try simp only[beq_iff_eq,beq_eq_false_iff_ne,ne_eq] at *)
  (first | done | omega | (split <;> omega))
end Go.Proofs.YtpfgdfpaoldhcaaGreatDoor
