/- Several texts in one: GWide. -/
import Derived.Test.YtpfgdfpaoldhcaaGreatDoorSuAA
import Derived.Maps.RangeWalk
import Derived.OrdersHeld
import Derived.Test.YtpfgdfpaoldhcaaGreatDoorProg
import Derived.WalkKit
import Derived.WalkSpells
import Derived.Laws.Externs
import Derived.Laws.MathBits
import Derived.Laws.Bits64b
import Derived.Deep.QuietTactic
import Derived.BigQuiet
import Derived.Deep.RegionHeld3
import Derived.Deep.DeepCutAuto
import Derived.RegionTactic
import Derived.Lib.Strings
import Derived.Lib.Slices
import Derived.Lib.Small
import Derived.Lib.Walk
import Derived.Lib.BitFns
import Derived.Deep.CutBlock
import Derived.WalkLawsBesides
import Derived.Deep.CutRange
set_option maxHeartbeats 8000000
set_option maxRecDepth 100000
set_option linter.unusedVariables false
set_option linter.unusedSimpArgs false
namespace Go.Proofs.YtpfgdfpaoldhcaaGreatDoor
open Go.RowKit
theorem zSF:∀(a:Addr) (f:FuncId) (s cs:Array Value) (W:World),(store a (.func (.func f) s cs)).run Tryz.prog W=stored Tryz.prog W a (.func (.func f) s cs) .plain:=fun a f s cs W=>run_store _ W a _ _ rfl
theorem zHM:∀(fn:Fn) (first cap:Array Value) (w:World),(Instr.makeFunc fn first cap).run Tryz.prog w=.ok (.func fn first cap) w:=fun _ _ _ _=>rfl
theorem mul64 (x y:Int) (hx0:0≤x) (hx:x<18446744073709551616) (hy0:0≤y) (hy:y<18446744073709551616) (w:World) :
  Calls Tryz.prog 202 #[.int .u64 x,.int .u64 y] w fun e w'=>e=.returned (.tuple #[.int .u64 (x*y/18446744073709551616),.int .u64 (x*y%18446744073709551616)])∧w=w':=by
 go_enter Tryz.func202,Tryz.ntmps202
 go_wp2
 go_ret2
 have hm:∀z:Int,bits .and .u64 (z%18446744073709551616) 4294967295=(z%18446744073709551616)%4294967296:=fun z=>and_low32 _ zo zo
 have key:=mul64_arith x y hx0 hx hy0 hy
 refine⟨?_,rfl⟩
 simp only[IntKind.wrap_u64,and_low32 x hx0 hx,and_low32 y hy0 hy,hm,key]
 rfl
theorem add64 (x y c:Int) (hx:0≤x) (hy:0≤y) (hc0:0≤c) (hc:c≤1) (w:World) :
  (callFunc 201 #[.int .u64 x,.int .u64 y,.int .u64 c]).run Tryz.prog w =
   .ok (.value (.tuple #[.int .u64 ((x+y+c)%18446744073709551616),.int .u64 ((x+y+c)/18446744073709551616)])) w:=by
 rw[run_callFunc_extern Tryz.func201 zk zk zk (e:=add64Entry) zk,run_add64 x y c hx hy hc0 hc]
 rfl
end Go.Proofs.YtpfgdfpaoldhcaaGreatDoor
namespace Go.Proofs.YtpfgdfpaoldhcaaGreatDoor
open Go.RowKit
theorem bcell {W w1:World} (hb:Below W W w1):(∀b o,b<W.heap.size→w1.cell? ⟨b,o,none⟩=W.cell? ⟨b,o,none⟩)∧(∀b o,b<W.heap.size→w1.frozen? ⟨b,o,none⟩=W.frozen? ⟨b,o,none⟩):=
 ⟨fun b o h=>hb.cell (p:=⟨b,o,none⟩) h,fun b o h=>hb.frozen (p:=⟨b,o,none⟩) h⟩
@[go_sem,simp] theorem setCell_drewN (w:World) (n:Nat) (a:Addr) (v:Value):(w.drewN n).setCell a v=(w.setCell a v).drewN n:=rfl
@[go_sem,simp] theorem alloc_drewN (w:World) (n:Nat) (o:Obj):(w.drewN n).alloc o=(w.alloc o).drewN n:=rfl
theorem zAt {P:Program} {f:FuncId} {args:Array Value} {w:World} {n:Nat} {v:Value}
  (h:Calls P f args (w.drewN n) fun e w'=>e=.returned v∧w.drewN n=w'):Calls P f args (w.drewN n) fun e w''=>e=.returned v∧∃m,w''=w.drewN m:=
 h.mono fun _ _ hh=>⟨hh.1,n,hh.2.symm⟩
theorem zA7 {B:Nat} {a w:World} (h:Below B a w) (n:Nat):Below B a (w.drewN n):=⟨h.os,h.tape,h.output,h.size,h.block⟩
theorem zTz (h l:Int) (w:World) :
  Calls Tryz.prog 197 #[.agg #[.int .u64 h,.int .u64 l]] w fun e w'=>e=.returned (.agg #[.int .u64 l,.int .u64 h])∧Below w w w':=by
 go_enter Tryz.func197,Tryz.ntmps197
 go_wp2
 exact bodyPost_ret (v:=.agg #[.int .u64 l,.int .u64 h]) (by simp[results,Tryz.results197,go_sem]) rfl ⟨rfl,((Below.refl _ _).alloc (Nat.le_refl _) _).alloc zs _⟩
theorem zMy (h l:Int) (w:World) :
  Calls Tryz.prog 206 #[.agg #[.int .u64 l,.int .u64 h]] w fun e w'=>e=.returned (.agg #[.int .u64 h,.int .u64 l])∧Below w w w':=by
 go_enter Tryz.func206,Tryz.ntmps206
 go_wp2
 exact bodyPost_ret (v:=.agg #[.int .u64 h,.int .u64 l]) (by simp[results,Tryz.results206,go_sem]) rfl ⟨rfl,((Below.refl _ _).alloc (Nat.le_refl _) _).alloc zs _⟩
theorem fit_yes (h l:Int) (w:World) :
  Calls Tryz.prog 198 #[.agg #[.int .u64 l,.int .u64 h],.int .u64 0] w fun e w'=>e=.returned (.tuple #[.agg #[.int .u64 h,.int .u64 l],(0:Int)])∧Below w w w':=by
 go_enter Tryz.func198,Tryz.ntmps198
 go_wp2_with (go_at_call 206;refine (zMy _ _ _).mono ?_;rintro e w' ⟨rfl,hb⟩;obtain⟨hc,hf⟩:=bcell hb)
 exact bodyPost_ret (v:=.tuple #[.agg #[.int .u64 h,.int .u64 l],(0:Int)]) (by simp[results,Tryz.results198,go_sem,hc]) rfl ⟨rfl,(((((Below.refl _ _).alloc (Nat.le_refl _) _).alloc zs _).trans (hb.mono zx)).setCell zs _).setCell zs _⟩
end Go.Proofs.YtpfgdfpaoldhcaaGreatDoor
namespace Go.Proofs.YtpfgdfpaoldhcaaGreatDoor
open Go.RowKit
theorem zq6c7 {P:Prop} (h:P:=by
 have hadd:=fun w=>add64 a b c h1 h2 h3 h4 w
 go_enter Tryz.func200,Tryz.ntmps200
 go_wp2
 go_quiet (fail)
 go_wp2
 go_ret2
 exact⟨rfl,_,rfl⟩):P:=h
theorem addStep0 (a b c:Int) (pa pb:Nat) (w:World) (ha:w.cell? ⟨pa,0,none⟩=some (.int .u64 a)) (hb:w.cell? ⟨pb,0,none⟩=some (.int .u64 b))
  (h1:0≤a) (h2:0≤b) (h3:0≤c) (h4:c≤1) :
  Calls Tryz.prog 200 #[(0:Int),.int .u64 c,.pointer (some ⟨pa,0,none⟩),.pointer (some ⟨pb,0,none⟩)] w fun e w'=>
   e=.returned (.tuple #[.int .u64 ((a+b+c)%18446744073709551616),.int .u64 ((a+b+c)/18446744073709551616)])∧∃n,w'=w.drewN n:=by
 exact zq6c7
theorem addStep1 (a b c:Int) (pa pb:Nat) (w:World) (ha:w.cell? ⟨pa,1,none⟩=some (.int .u64 a)) (hb:w.cell? ⟨pb,1,none⟩=some (.int .u64 b))
  (h1:0≤a) (h2:0≤b) (h3:0≤c) (h4:c≤1) :
  Calls Tryz.prog 200 #[(1:Int),.int .u64 c,.pointer (some ⟨pa,0,none⟩),.pointer (some ⟨pb,0,none⟩)] w fun e w'=>
   e=.returned (.tuple #[.int .u64 ((a+b+c)%18446744073709551616),.int .u64 ((a+b+c)/18446744073709551616)])∧∃n,w'=w.drewN n:=by
 exact zq6c7
end Go.Proofs.YtpfgdfpaoldhcaaGreatDoor
namespace Go.Proofs.YtpfgdfpaoldhcaaGreatDoor
open Go.RowKit
theorem zFz {w:World} {o:Obj} {v:Value} {p k n:Nat} (h:w.cell? ⟨p,k,none⟩=some v) (hp:p<w.heap.size) :
  ((w.alloc o).drewN n).cell? ⟨p,k,none⟩=some v:=by
 have hb:Below w w ((w.alloc o).drewN n):=zA7 ((Below.refl _ _).alloc (Nat.le_refl _) o) n
 exact (hb.cell (p:=⟨p,k,none⟩) hp).trans h
theorem zC6 {w:World} {o:Obj} {v:Value} {p k:Nat} (h:w.cell? ⟨p,k,none⟩=some v) (hp:p<w.heap.size):(w.alloc o).cell? ⟨p,k,none⟩=some v:=
 (((Below.refl w.heap.size w).alloc (Nat.le_refl _) o).cell (p:=⟨p,k,none⟩) hp).trans h
theorem zPk (a0 a1 b0 b1:Int) (pa pb:Nat) (w:World) (ha0:w.cell? ⟨pa,0,none⟩=some (.int .u64 a0)) (ha1:w.cell? ⟨pa,1,none⟩=some (.int .u64 a1)) (hb0:w.cell? ⟨pb,0,none⟩=some (.int .u64 b0)) (hb1:w.cell? ⟨pb,1,none⟩=some (.int .u64 b1)) (hpa:pa<w.heap.size) (hpb:pb<w.heap.size)
  (k1:0≤a0) (k2:a0<18446744073709551616) (k3:0≤a1) (k5:0≤b0) (k6:b0<18446744073709551616) (k7:0≤b1) :
  Calls Tryz.prog 199 #[.func (.func 200) #[] #[.pointer (some ⟨pa,0,none⟩),.pointer (some ⟨pb,0,none⟩)]] w fun e w'=>
   e=.returned (.tuple #[.agg #[.int .u64 ((a0+b0+0)%18446744073709551616),.int .u64 ((a1+b1+(a0+b0+0)/18446744073709551616)%18446744073709551616)],.int .u64 ((a1+b1+(a0+b0+0)/18446744073709551616)/18446744073709551616)])∧Below w w w':=by
 obtain⟨s0,S0⟩:∃s,Hid ((a0+b0+0)%18446744073709551616=s):=⟨_,zh rfl⟩
 obtain⟨d0,D0⟩:∃s,Hid ((a0+b0+0)/18446744073709551616=s):=⟨_,zh rfl⟩
 obtain⟨s1,S1⟩:∃s,Hid ((a1+b1+d0)%18446744073709551616=s):=⟨_,zh rfl⟩
 obtain⟨d1,D1⟩:∃s,Hid ((a1+b1+d0)/18446744073709551616=s):=⟨_,zh rfl⟩
 have q0:0≤(a0+b0+0)/18446744073709551616:=zo
 have q1:(a0+b0+0)/18446744073709551616≤1:=zo
 rw[D0.out] at q0 q1
 rw[D0.out,S0.out,S1.out,D1.out]
 go_enter Tryz.func199,Tryz.ntmps199
 go_wp2
 refine wp_loop_rounds 3 ?_
 rw[rounds_succ]
 go_wp2_with fail
 refine (addStep0 a0 b0 0 pa pb _ (zC6 ha0 hpa) (zC6 hb0 hpb) k1 k5 zo zo).mono ?_
 rw[S0.out,D0.out]
 rintro e w' ⟨rfl,nd,rfl⟩
 go_wp2_with fail
 rw[rounds_succ]
 go_wp2_with fail
 refine (addStep1 a1 b1 d0 pa pb _ (zFz ha1 hpa) (zFz hb1 hpb) k3 k7 q0 q1).mono ?_
 rw[S1.out,D1.out]
 rintro e w' ⟨rfl,md,rfl⟩
 go_wp2_with fail
 rw[rounds_succ]
 go_wp2_with fail
 refine bodyPost_ret (v:=.tuple #[.agg #[.int .u64 s0,.int .u64 s1],.int .u64 d1]) (by simp[results,Tryz.results199,go_sem]) rfl ⟨rfl,?_⟩
 exact zA7 ((Below.refl _ _).alloc (Nat.le_refl _) _) _
end Go.Proofs.YtpfgdfpaoldhcaaGreatDoor
namespace Go.Proofs.YtpfgdfpaoldhcaaGreatDoor
def hi (n:Int):Int:=n/18446744073709551616
def lo (n:Int):Int:=n%18446744073709551616
def wn (h l:Int):Int:=h*18446744073709551616+l
def top:Int:=340282366920938463463374607431768211456
theorem zD2 (n:Int):wn (hi n) (lo n)=n:=by unfold wn hi lo;omega
theorem zIk (n:Int):0≤lo n∧lo n<18446744073709551616:=by unfold lo;omega
theorem hi_bd (n:Int) (h0:0≤n) (h1:n<top):0≤hi n∧hi n<18446744073709551616:=by unfold hi;unfold top at h1;omega
theorem wn_bd (h l:Int) (a:0≤h) (b:h<18446744073709551616) (c:0≤l) (d:l<18446744073709551616):0≤wn h l∧wn h l<top:=by unfold wn top;omega
theorem add_lo (a1 a0 b1 b0:Int):(a0+b0+0)%18446744073709551616=lo (wn a1 a0+wn b1 b0):=by unfold lo wn;omega
theorem add_hi (a1 a0 b1 b0:Int) (h0:0≤wn a1 a0+wn b1 b0) (h:wn a1 a0+wn b1 b0<top):(a1+b1+(a0+b0+0)/18446744073709551616)%18446744073709551616=hi (wn a1 a0+wn b1 b0):=by
 unfold hi;unfold wn top at *;omega
theorem add_fits (a1 a0 b1 b0:Int) (h0:0≤wn a1 a0+wn b1 b0) (h:wn a1 a0+wn b1 b0<top):(a1+b1+(a0+b0+0)/18446744073709551616)/18446744073709551616=0:=by
 unfold wn top at *;omega
theorem cmp_hi (a1 a0 b1 b0:Int) (ha:0≤a0) (ha':a0<18446744073709551616) (hb:0≤b0) (hb':b0<18446744073709551616) (h:a1<b1):wn a1 a0<wn b1 b0:=by unfold wn;omega
end Go.Proofs.YtpfgdfpaoldhcaaGreatDoor
namespace Go.Proofs.YtpfgdfpaoldhcaaGreatDoor
open Go.RowKit
theorem zJq (n:Int) (w:World) :
  Calls Tryz.prog 183 #[.int .u64 n] w fun e w'=>e=.returned (.agg #[.int .u64 0,.int .u64 n])∧Below w w w':=by
 go_enter Tryz.func183,Tryz.ntmps183
 go_wp2
 exact bodyPost_ret (v:=.agg #[.int .u64 0,.int .u64 n]) (by simp[results,Tryz.results183,go_sem]) rfl ⟨rfl,(Below.refl _ _).alloc (Nat.le_refl _) _⟩
theorem mul_any (a b:Int) (w:World) (h1:0≤a) (h2:a<18446744073709551616) (h3:0≤b) (h4:b<18446744073709551616) :
  Calls Tryz.prog 187 #[.int .u64 a,.int .u64 b] w fun e w'=>e=.returned (.agg #[.int .u64 (hi (a*b)),.int .u64 (lo (a*b))])∧Below w w w':=by
 have c31:=fun w=>mul64 a b h1 h2 h3 h4 w
 have C31:=zh c31
 clear c31
 unfold hi lo
 generalize a*b=p at *
 go_enter Tryz.func187,Tryz.ntmps187
 go_wp2_with (go_at_call 202;refine (C31.out _).mono ?_;rintro e w' ⟨rfl,rfl⟩)
 exact bodyPost_ret (v:=.agg #[.int .u64 (p/18446744073709551616),.int .u64 (p%18446744073709551616)]) (by simp[results,Tryz.results187,go_sem]) rfl ⟨rfl,(Below.refl _ _).alloc (Nat.le_refl _) _⟩
theorem zGn (x:Int) (w:World):Calls Tryz.prog 219 #[.int .u64 x] w fun e w'=>e=.returned false∧w=w':=by
 go_enter Tryz.func219,Tryz.ntmps219
 go_wp2
 go_ret
 simp
def cmpI (x y:Int):Int:=if x<y then -1 else if y<x then 1 else 0
theorem zq3dn {P:Prop} (h:P:=by
 go_wp2_with (go_at_call 219;refine (zGn _ _).mono ?_;rintro e w' ⟨rfl,rfl⟩)
 go_ret
 exact⟨rfl,rfl⟩):P:=h
theorem zGi (x y:Int) (w:World):Calls Tryz.prog 214 #[.int .u64 x,.int .u64 y] w fun e w'=>e=.returned (cmpI x y)∧w=w':=by
 obtain⟨c,C⟩:∃c,Hid (cmpI x y=c):=⟨_,zh rfl⟩
 rw[C.out]
 go_enter Tryz.func214,Tryz.ntmps214
 by_cases h1:x<y
 ·obtain rfl:c = -1:=by have:=C.out;unfold cmpI at this;rw[if_pos h1] at this;omega
  exact zq3dn
 ·by_cases h2:y<x
  ·obtain rfl:c=1:=by have:=C.out;unfold cmpI at this;rw[if_neg h1,if_pos h2] at this;omega
   exact zq3dn
  ·obtain rfl:c=0:=by have:=C.out;unfold cmpI at this;rw[if_neg h1,if_neg h2] at this;omega
   exact zq3dn
theorem cmpI_hi (a1 a0 b1 b0:Int) (ha:0≤a0) (ha':a0<18446744073709551616) (hb:0≤b0) (hb':b0<18446744073709551616) (h:a1≠b1):cmpI (wn a1 a0) (wn b1 b0)=cmpI a1 b1:=by
 unfold cmpI
 by_cases h1:a1<b1
 ·rw[if_pos h1,if_pos (cmp_hi _ _ _ _ ha ha' hb hb' h1)]
 ·have h2:b1<a1:=zo
  have:=cmp_hi _ _ _ _ hb hb' ha ha' h2
  rw[if_neg h1,if_pos h2,if_neg zo,if_pos this]
theorem cmpI_lo (a1 a0 b0:Int):cmpI (wn a1 a0) (wn a1 b0)=cmpI a0 b0:=by
 unfold cmpI wn
 repeat' split
 all_goals omega
theorem zqv1r {P:Prop} (h:P:=by
 go_enter Tryz.func196,Tryz.ntmps196
 go_wp2_with (go_at_call 214;refine (zGi _ _ _).mono ?_;rw[E.out];rintro e w' ⟨rfl,rfl⟩)
 go_ret
 exact⟨rfl,((Below.refl _ _).alloc (Nat.le_refl _) _).alloc zs _⟩):P:=h
theorem zGg (a1 a0 b1 b0:Int) (w:World) (ha:0≤a0) (ha':a0<18446744073709551616) (hb:0≤b0) (hb':b0<18446744073709551616) :
  Calls Tryz.prog 196 #[.agg #[.int .u64 a1,.int .u64 a0],.agg #[.int .u64 b1,.int .u64 b0]] w fun e w'=>e=.returned (cmpI (wn a1 a0) (wn b1 b0))∧Below w w w':=by
 obtain⟨c,C⟩:∃c,Hid (cmpI (wn a1 a0) (wn b1 b0)=c):=⟨_,zh rfl⟩
 rw[C.out]
 by_cases h1:a1=b1
 ·subst h1
  have hq:(a1 != a1)=false:=zs
  have E:Hid (cmpI a0 b0=c):=zh (by rw[←C.out,cmpI_lo])
  exact zqv1r
 ·have hq:(a1 != b1)=true:=by simp[h1]
  have E:Hid (cmpI a1 b1=c):=zh (by rw[←C.out,cmpI_hi _ _ _ _ ha ha' hb hb' h1])
  exact zqv1r
end Go.Proofs.YtpfgdfpaoldhcaaGreatDoor
namespace Go.Proofs.YtpfgdfpaoldhcaaGreatDoor
open Go.RowKit
theorem bcellB {B:Nat} {W w1:World} (hb:Below B W w1):(∀b o,b<B→w1.cell? ⟨b,o,none⟩=W.cell? ⟨b,o,none⟩)∧(∀b o,b<B→w1.frozen? ⟨b,o,none⟩=W.frozen? ⟨b,o,none⟩):=
 ⟨fun b o h=>hb.cell (p:=⟨b,o,none⟩) h,fun b o h=>hb.frozen (p:=⟨b,o,none⟩) h⟩
end Go.Proofs.YtpfgdfpaoldhcaaGreatDoor
namespace Go.Proofs.YtpfgdfpaoldhcaaGreatDoor
open Go.RowKit
theorem zM6 (h l:Int) (w:World) :
  Calls Tryz.prog 197 #[.agg #[.int .u64 h,.int .u64 l]] w fun e w'=>e=.returned (.agg #[.int .u64 l,.int .u64 h])∧w'=(w.alloc (.cells #[.int .u64 h,.int .u64 l] 226)).alloc (.cells #[.int .u64 l,.int .u64 h] 246):=by
 go_enter Tryz.func197,Tryz.ntmps197
 go_wp2
 exact bodyPost_ret (v:=.agg #[.int .u64 l,.int .u64 h]) (by simp[results,Tryz.results197,go_sem]) rfl ⟨rfl,rfl⟩
theorem add_yes (a1 a0 b1 b0:Int) (w:World) (k1:0≤a0) (k2:a0<18446744073709551616) (k3:0≤a1) (k4:a1<18446744073709551616) (k5:0≤b0) (k6:b0<18446744073709551616) (k7:0≤b1) (k8:b1<18446744073709551616)
  (h:wn a1 a0+wn b1 b0<top) :
  Calls Tryz.prog 186 #[.agg #[.int .u64 a1,.int .u64 a0],.agg #[.int .u64 b1,.int .u64 b0]] w fun e w'=>e=.returned (.tuple #[.agg #[.int .u64 (hi (wn a1 a0+wn b1 b0)),.int .u64 (lo (wn a1 a0+wn b1 b0))],(0:Int)])∧Below w w w':=by
 have hmf:=zHM
 have h0:0≤wn a1 a0+wn b1 b0:=by have:=wn_bd a1 a0 k3 k4 k1 k2;have:=wn_bd b1 b0 k7 k8 k5 k6;omega
 have E0:=zh (add_lo a1 a0 b1 b0)
 have E1:=zh (add_hi a1 a0 b1 b0 h0 h)
 have E2:=zh (add_fits a1 a0 b1 b0 h0 h)
 clear h h0
 generalize hi (wn a1 a0+wn b1 b0)=r1 at *
 generalize lo (wn a1 a0+wn b1 b0)=r0 at *
 go_enter Tryz.func186,Tryz.ntmps186
 go_upto_region 1 with fail
 go_cut [6,7] (fun s6 s7 wx=>∃pa pb:Nat,s6=.pointer (some ⟨pa,0,none⟩)∧s7=.pointer (some ⟨pb,0,none⟩)∧wx.cell? ⟨pa,0,none⟩=some (.int .u64 a0)∧wx.cell? ⟨pa,1,none⟩=some (.int .u64 a1) ∧
   wx.cell? ⟨pb,0,none⟩=some (.int .u64 b0)∧wx.cell? ⟨pb,1,none⟩=some (.int .u64 b1)∧pa<wx.heap.size∧pb<wx.heap.size ∧
   Below (w+3) (((w.alloc (.cells #[.int .u64 a1,.int .u64 a0] 226)).alloc (.cells #[.int .u64 b1,.int .u64 b0] 226)).alloc (.cells #[.int .u64 0,.int .u64 0] 226)) wx)
 case first=>
  go_region_held3 (fun w'=>w'.cell? ⟨w,0,none⟩=some (.int .u64 a1)∧w'.cell? ⟨w,1,none⟩=some (.int .u64 a0)∧w'.cell? ⟨w+1,0,none⟩=some (.int .u64 b1)∧w'.cell? ⟨w+1,1,none⟩=some (.int .u64 b0)) (first | (go_keep;done) | (refine⟨?_,?_,?_,?_⟩ <;> simp[go_sem];done) | (refine⟨?_,?_,?_,?_⟩ <;> go_simp))
   (first | (go_at_call 197;refine (zM6 _ _ _).mono ?_;rintro e w' ⟨rfl,rfl⟩))
  all_goals
   go_wp2_with fail
   go_meet
   refine⟨_,_,rfl,rfl,?_,?_,?_,?_,?_,?_,?_⟩
   ·simp[go_sem]
   ·simp[go_sem]
   ·simp[go_sem]
   ·simp[go_sem]
   ·simp <;> omega
   ·simp <;> omega
   ·repeat (first | exact Below.refl _ _ | refine Below.drew ?_ | refine Below.alloc ?_ zw _)
 case rest=>
  obtain⟨pa,pb,rfl,rfl,ha0,ha1,hb0,hb1,hpa,hpb,hB⟩:=hcut
  have hz:w.heap.size+3≤wc.heap.size:=by have:=hB.size;simp at this;omega
  go_wp2_with fail
  refine (zPk a0 a1 b0 b1 pa pb _ ha0 ha1 hb0 hb1 hpa hpb k1 k2 k3 k5 k6 k7).mono ?_
  rw[E0.out,E1.out,E2.out]
  rintro e w2 ⟨rfl,hb2⟩
  have hb3:=hB.trans (hb2.mono hz)
  have hz2:w.heap.size+3≤w2.heap.size:=by have:=hb2.size;omega
  clear hB hb2 hz ha0 ha1 hb0 hb1 hpa hpb
  go_wp2_with fail
  refine (fit_yes r1 r0 _).mono ?_
  rintro e w3 ⟨rfl,hb4⟩
  have hb5:=hb3.trans (hb4.mono hz2)
  clear hb3 hb4
  obtain⟨hc5,hf5⟩:=bcellB hb5
  go_wp2_with fail
  exact bodyPost_ret (v:=.tuple #[.agg #[.int .u64 r1,.int .u64 r0],(0:Int)]) (by simp[results,Tryz.results186,go_sem,hc5]) rfl ⟨rfl,((((((Below.refl _ _).alloc (Nat.le_refl _) _).alloc zs _).alloc zw _).trans (hb5.mono zo)).setCell zw _).setCell zw _⟩
end Go.Proofs.YtpfgdfpaoldhcaaGreatDoor
namespace Go.Proofs.YtpfgdfpaoldhcaaGreatDoor
open Go.RowKit
theorem len_way (k m:Nat) (x b:Int) (hx:x<18446744073709551616) (hm:m=2 ^ k) (hlo:(m:Int)≤x) (hhi:x/(m:Int)≤255) (hb:b=x/(m:Int)) :
    Lib.len8 b=(Lib.bitLen b.toNat:Int)∧Lib.bitLen b.toNat≤8∧Lib.bitLen x.toNat=k+Lib.bitLen b.toNat:=by
  have hp:0<(m:Int):=by have:=Nat.two_pow_pos k;omega
  have h0:0≤x:=zo
  have hb0:0≤b:=by rw[hb];exact Int.ediv_nonneg h0 (Int.le_of_lt hp)
  refine⟨Lib.len8_of b hb0 zo,Lib.bitLen_le8' b hb0 zo,?_⟩
  have e:b.toNat=x.toNat/2 ^ k:=by
    rw[hb,←hm]
    obtain⟨X,rfl⟩:=Int.eq_ofNat_of_zero_le h0
    rw[←Int.natCast_ediv]
    rfl
  rw[e]
  exact Lib.bitLen_shift k x.toNat (by rw [← hm]; omega) (by have:(2:Nat) ^ 64=18446744073709551616:=zd
                                                             omega)
theorem zU2 (b:Int) (h:b.toNat<Lib.len8tab.size):((Lib.len8tab[b.toNat]'h).toNat:Int)=Lib.len8 b:=by
 unfold Lib.len8
 rw[getElem?_pos Lib.len8tab b.toNat h]
 rfl
theorem zE9 (k m:Nat) (K x b:Int) (hK:K=k) (hk:k≤56) (hx:x<18446744073709551616) (hm:m=2 ^ k) (hlo:(m:Int)≤x) (hhi:x/(m:Int)≤255) (hb:b=x/(m:Int)) (h:b.toNat<Lib.len8tab.size) :
  wrap64 (K+wrap64 ((Lib.len8tab[b.toNat]'h).toNat:Int))=(Lib.bitLen x.toNat:Int):=by
 obtain⟨e1,e2,e3⟩:=len_way k m x b hx hm hlo hhi hb
 rw[zU2 b h,e1,e3,hK]
 clear e1 e3 hhi hlo hm hb hx hK
 generalize Lib.bitLen b.toNat=a at *
 unfold wrap64
 omega
theorem len_fin0 (x:Int) (h0:0≤x) (h1:x≤255) (h:x.toNat<Lib.len8tab.size) :
  wrap64 (wrap64 ((Lib.len8tab[x.toNat]'h).toNat:Int))=(Lib.bitLen x.toNat:Int):=by
 have e2:=Lib.bitLen_le8' x h0 h1
 rw[zU2 x h,Lib.len8_of x h0 h1]
 generalize Lib.bitLen x.toNat=a at *
 unfold wrap64
 omega
theorem len64 (x:Int) (w:World) (h0:0≤x) (h1:x<18446744073709551616) :
  Calls Tryz.prog 220 #[.int .u64 x] w fun e w'=>e=.returned (Lib.bitLen x.toNat)∧w=w':=by
 have hs:Lib.len8tab.size=256:=ze
 go_enter Tryz.func220,Tryz.ntmps220
 go_wp2
 all_goals (go_ret;refine⟨congrArg Ending.returned (congrArg (Value.int IntKind.i64) ?_),rfl⟩)
 ·exact zE9 56 72057594037927936 56 x (x/4294967296/65536/256) rfl zd h1 zd zo zo zo _
 ·exact zE9 48 281474976710656 48 x (x/4294967296/65536) rfl zd h1 zd zo zo zo _
 ·exact zE9 40 1099511627776 40 x (x/4294967296/256) rfl zd h1 zd zo zo zo _
 ·exact zE9 32 4294967296 32 x (x/4294967296) rfl zd h1 zd zo zo zo _
 ·exact zE9 24 16777216 24 x (x/65536/256) rfl zd h1 zd zo zo zo _
 ·exact zE9 16 65536 16 x (x/65536) rfl zd h1 zd zo zo zo _
 ·exact zE9 8 256 8 x (x/256) rfl zd h1 zd zo zo zo _
 ·exact len_fin0 x h0 zo _
def lz (x:Int):Int:=64-(Lib.bitLen x.toNat:Int)
theorem lz64 (x:Int) (w:World) (h0:0≤x) (h1:x<18446744073709551616) :
  Calls Tryz.prog 215 #[.int .u64 x] w fun e w'=>e=.returned (lz x)∧w=w':=by
 have hb:Lib.bitLen x.toNat≤64:=Lib.bitLen_le x.toNat 64 zo zo
 have h2:(Lib.bitLen x.toNat:Int)≤64:=zo
 have h3:0≤(Lib.bitLen x.toNat:Int):=zo
 unfold lz
 go_enter Tryz.func215,Tryz.ntmps215
 go_wp2_with (go_at_call 220;refine (len64 _ _ h0 h1).mono ?_;rintro e w' ⟨rfl,rfl⟩)
 go_ret
 exact⟨rfl,rfl⟩
theorem zGc:∀(k x:Nat),x<2 ^ k→k≤64→0<x→0<Lib.bitLen x∧2 ^ (Lib.bitLen x-1)≤x∧x<2 ^ Lib.bitLen x
 | 0,x,h,_,h0=>by simp at h;omega
 | k+1,x,h,hk,h0=>by
  have h64:x<2 ^ 64:=Nat.lt_of_lt_of_le h (Nat.pow_le_pow_right zd hk)
  have e:=Lib.bitLen_half x zo h64
  by_cases h1:x=1
  ·subst h1
   decide
  ·obtain⟨i1,i2,i3⟩:=zGc k (x/2) (by rw[Nat.pow_succ] at h;omega) zo zo
   rw[e]
   generalize Lib.bitLen (x/2)=b at *
   obtain⟨c,rfl⟩:∃c,b=c+1:=⟨b-1,zo⟩
   have e1:1+(c+1)-1=c+1:=zo
   have e2:1+(c+1)=c+1+1:=zo
   have e3:c+1-1=c:=zo
   rw[e3] at i2
   rw[e1,e2,Nat.pow_succ,Nat.pow_succ]
   rw[Nat.pow_succ] at i3
   omega
theorem lz_spec (x:Int) (h0:0<x) (h1:x<18446744073709551616) :
    0≤lz x∧lz x≤63∧9223372036854775808≤x*2 ^ (lz x).toNat∧x*2 ^ (lz x).toNat<18446744073709551616:=by
  obtain⟨X,rfl⟩:=Int.eq_ofNat_of_zero_le (Int.le_of_lt h0)
  have hX : X < 2 ^ 64 := by have:(2:Nat) ^ 64=18446744073709551616:=zd
                             omega
  obtain⟨i1,i2,i3⟩:=zGc 64 X hX (Nat.le_refl _) zo
  have hb:Lib.bitLen X≤64:=Lib.bitLen_le X 64 zo hX
  unfold lz
  rw[Int.toNat_natCast]
  generalize Lib.bitLen X=b at *
  have et:((64:Int)-(b:Int)).toNat=64-b:=zo
  rw[et]
  have p1:2 ^ (b-1)*2 ^ (64-b)=9223372036854775808:=by rw[←Nat.pow_add,show b-1+(64-b)=63 from by omega]
  have p2:2 ^ b*2 ^ (64-b)=18446744073709551616:=by rw[←Nat.pow_add,show b+(64-b)=64 from by omega]
  have q1:=Nat.mul_le_mul_right (2 ^ (64-b)) i2
  have q2:=Nat.mul_lt_mul_of_pos_right i3 (Nat.two_pow_pos (64-b))
  rw[p1] at q1
  rw[p2] at q2
  have cst:((X:Int)*2 ^ (64-b))=((X*2 ^ (64-b):Nat):Int):=by rw[Int.natCast_mul,Int.natCast_pow];rfl
  rw[cst]
  omega
end Go.Proofs.YtpfgdfpaoldhcaaGreatDoor
namespace Go.Proofs.YtpfgdfpaoldhcaaGreatDoor
def KInv (u d y1 y0 q r:Int):Prop:=
 0≤q∧q≤4294967297∧r=u-q*y1∧0≤r∧r≤4294967295∧u*4294967296+d<(q+1)*(y1*4294967296+y0)
def KFin (u d y1 y0 q:Int):Prop:=
 0≤q∧q*(y1*4294967296+y0)≤u*4294967296+d∧u*4294967296+d<(q+1)*(y1*4294967296+y0)
theorem k_mul (q y1 y0:Int):q*(y1*4294967296+y0)=q*y1*4294967296+q*y0:=by rw[Int.mul_add,Int.mul_assoc]
theorem k_mul1 (q y1 y0:Int):(q+1)*(y1*4294967296+y0)=q*y1*4294967296+q*y0+y1*4294967296+y0:=by
 rw[Int.add_mul,k_mul,Int.one_mul,Int.add_assoc,Int.add_assoc];omega
theorem k_start (u d y1 y0:Int) (a1:2147483648≤y1) (a2:y1≤4294967295) (a3:0≤y0) (a4:y0≤4294967295) (b1:0≤u) (b2:u<y1*4294967296+y0) (c2:d≤4294967295) :
  KInv u d y1 y0 (u/y1) (u-u/y1*y1):=by
 have e:=Int.mul_ediv_add_emod u y1
 have m0:=Int.emod_nonneg u (show y1≠0 by omega)
 have m1:=Int.emod_lt_of_pos u (show 0<y1 by omega)
 have q0:0≤u/y1:=Int.ediv_nonneg b1 zo
 have q1:u/y1≤4294967297:=by
  have:u/y1<4294967298:=Int.ediv_lt_of_lt_mul zo zo
  omega
 refine⟨q0,q1,rfl,?_,?_,?_⟩
 ·rw[Int.mul_comm] at e;omega
 ·rw[Int.mul_comm] at e;omega
 ·rw[k_mul1]
  have p0:0≤u/y1*y0:=Int.mul_nonneg q0 a3
  rw[Int.mul_comm] at e
  generalize u/y1*y1=A at *
  generalize u/y1*y0=B at *
  omega
theorem zFb (u d y1 y0 q r:Int) (b1:0≤u) (b2:u<y1*4294967296+y0) (c1:0≤d) (c2:d≤4294967295)
  (h:KInv u d y1 y0 q r) (t:4294967296≤q∨4294967296*r+d<q*y0):1≤q∧u*4294967296+d<q*(y1*4294967296+y0):=by
 obtain⟨h1,h2,h3,h4,h5,h6⟩:=h
 have key:u*4294967296+d<q*(y1*4294967296+y0):=by
  rcases t with t | t
  ·have:4294967296*(y1*4294967296+y0)≤q*(y1*4294967296+y0):=Int.mul_le_mul_of_nonneg_right t zo
   omega
  ·rw[k_mul]
   generalize q*y1=A at *
   generalize q*y0=B at *
   omega
 refine⟨?_,key⟩
 by_cases hq:1≤q
 ·exact hq
 ·have:q=0:=zo
  subst this
  rw[Int.zero_mul] at key
  omega
theorem zMz (u d y1 y0 q r:Int) (a1:2147483648≤y1) (b1:0≤u) (b2:u<y1*4294967296+y0) (c1:0≤d) (c2:d≤4294967295)
  (h:KInv u d y1 y0 q r) (t:4294967296≤q∨4294967296*r+d<q*y0) (hr:r+y1≤4294967295):KInv u d y1 y0 (q-1) (r+y1):=by
 obtain⟨g1,g2⟩:=zFb u d y1 y0 q r b1 b2 c1 c2 h t
 obtain⟨h1,h2,h3,h4,h5,h6⟩:=h
 refine⟨zo,zo,?_,zo,hr,?_⟩
 ·rw[Int.sub_mul,Int.one_mul];omega
 ·rw[show q-1+1=q by omega];exact g2
theorem zIh (u d y1 y0 q r:Int) (a3:0≤y0) (a4:y0≤4294967295) (b1:0≤u) (b2:u<y1*4294967296+y0) (c1:0≤d) (c2:d≤4294967295)
  (h:KInv u d y1 y0 q r) (t:4294967296≤q∨4294967296*r+d<q*y0) (hr:4294967296≤r+y1):KFin u d y1 y0 (q-1):=by
 obtain⟨g1,g2⟩:=zFb u d y1 y0 q r b1 b2 c1 c2 h t
 obtain⟨h1,h2,h3,h4,h5,h6⟩:=h
 refine⟨zo,?_,?_⟩
 ·have p:(q-1)*y0≤4294967296*4294967295:=Int.mul_le_mul zo a4 a3 zo
  rw[k_mul,Int.sub_mul q 1 y1,Int.one_mul]
  generalize q*y1=A at *
  generalize (q-1)*y0=B at *
  omega
 ·rw[show q-1+1=q by omega];exact g2
theorem k_stop (u d y1 y0 q r:Int) (h:KInv u d y1 y0 q r) (t:q*y0≤4294967296*r+d):KFin u d y1 y0 q:=by
 obtain⟨h1,h2,h3,h4,h5,h6⟩:=h
 refine⟨h1,?_,h6⟩
 rw[k_mul]
 generalize q*y1=A at *
 generalize q*y0=B at *
 omega
theorem k_fin (u d y1 y0 q:Int) (a1:2147483648≤y1) (a3:0≤y0) (b2:u<y1*4294967296+y0) (c2:d≤4294967295) (h:KFin u d y1 y0 q) :
  q≤4294967295∧q=(u*4294967296+d)/(y1*4294967296+y0)∧u*4294967296+d-q*(y1*4294967296+y0)=(u*4294967296+d)%(y1*4294967296+y0):=by
 obtain⟨h1,h2,h3⟩:=h
 have hp:0<y1*4294967296+y0:=zo
 have hq:q=(u*4294967296+d)/(y1*4294967296+y0):=by
  have e1:q≤(u*4294967296+d)/(y1*4294967296+y0):=(Int.le_ediv_iff_mul_le hp).2 h2
  have e2:(u*4294967296+d)/(y1*4294967296+y0)<q+1:=Int.ediv_lt_of_lt_mul hp h3
  omega
 refine⟨?_,hq,?_⟩
 ·have:q<4294967296:=by
   rw[hq]
   exact Int.ediv_lt_of_lt_mul hp zo
  omega
 ·rw[Int.emod_def,←hq,Int.mul_comm q]
end Go.Proofs.YtpfgdfpaoldhcaaGreatDoor
namespace Go.Proofs.YtpfgdfpaoldhcaaGreatDoor
open Go.RowKit
theorem zKk (q y0:Int) (h0:0≤q) (h1:q<4294967296) (a3:0≤y0) (a4:y0≤4294967295):IntKind.u64.wrap (q*y0)=q*y0:=by
 have p0:0≤q*y0:=Int.mul_nonneg h0 a3
 have p1:q*y0≤4294967295*4294967295:=Int.mul_le_mul zo a4 a3 zo
 rw[IntKind.wrap_u64]
 generalize q*y0=p at *
 omega
theorem zRg {u d y1 y0 q r:Int} (h:KInv u d y1 y0 q r):0≤q∧q≤4294967297∧0≤r∧r≤4294967295:=⟨h.1,h.2.1,h.2.2.2.1,h.2.2.2.2.1⟩
theorem zSt (u d q Y:Int) (h:u*4294967296+d-q*Y=(u*4294967296+d)%Y) (a5:9223372036854775808≤Y) (a6:Y≤18446744073709551615) :
  IntKind.u64.wrap (IntKind.u64.wrap (IntKind.u64.wrap (u*4294967296)+d)-IntKind.u64.wrap (q*Y))=(u*4294967296+d)%Y:=by
 simp only[IntKind.wrap_u64]
 have m0:=Int.emod_nonneg (u*4294967296+d) (show Y≠0 by omega)
 have m1:=Int.emod_lt_of_pos (u*4294967296+d) (show 0<Y by omega)
 rw[←h] at m0 m1 ⊢
 generalize q*Y=p at *
 omega
theorem zN0 (u d y1 y0:Int) (a1:2147483648≤y1) (a2:y1≤4294967295) (a3:0≤y0) (a4:y0≤4294967295) (b1:0≤u) (b2:u<y1*4294967296+y0) (b3:u≤18446744073709551615) (c2:d≤4294967295) :
  KInv u d y1 y0 (u/y1) (IntKind.u64.wrap (u-IntKind.u64.wrap (u/y1*y1))):=by
 have hk:=k_start u d y1 y0 a1 a2 a3 a4 b1 b2 c2
 have e:IntKind.u64.wrap (u-IntKind.u64.wrap (u/y1*y1))=u-u/y1*y1:=by
  have h0:=hk.2.2.2.1
  have p0:0≤u/y1*y1:=Int.mul_nonneg hk.1 zo
  rw[IntKind.wrap_u64,IntKind.wrap_u64]
  generalize u/y1*y1=p at *
  omega
 rw[e]
 exact hk
theorem zO1 (h l y s:Int) (w:World) (k1:0<h) (k2:h<y) (k3:y<18446744073709551616)
  (s0:0≤s) (s1:s≤63) (hs:Hid (lz y=s)) (Y y1 y0 u v d1 d0:Int) (hY:IntKind.u64.wrap (y*2 ^ s.toNat)=Y) (hy1:Y/4294967296=y1) (hy0:bits .and .u64 Y 4294967295=y0)
  (hu:bits .or .u64 (IntKind.u64.wrap (h*2 ^ s.toNat)) (l/2 ^ (64-s).toNat)=u) (hv:IntKind.u64.wrap (l*2 ^ s.toNat)=v) (hd1:v/4294967296=d1) (hd0:bits .and .u64 v 4294967295=d0)
  (a1:2147483648≤y1) (a2:y1≤4294967295) (a3:0≤y0) (a4:y0≤4294967295) (a5:9223372036854775808≤Y) (a6:Y≤18446744073709551615)
  (b1:0≤u) (b2:u≤18446744073709551615) (c1:0≤d1) (c2:d1≤4294967295) (c3:0≤d0) (c4:d0≤4294967295) (HY:Hid (Y=y1*4294967296+y0)) (b3:u<Y)
  (hk0:KInv u d1 y1 y0 (u/y1) (IntKind.u64.wrap (u-IntKind.u64.wrap (u/y1*y1)))) (Q R:Int)
  (hfin:Hid (∀q z q':Int,KFin u d1 y1 y0 q→z=(u*4294967296+d1)%Y→KFin z d0 y1 y0 q' →
   q*4294967296+q'=Q∧IntKind.u64.wrap (IntKind.u64.wrap (IntKind.u64.wrap (z*4294967296)+d0)-IntKind.u64.wrap (q'*Y))/2 ^ s.toNat=R)) :
  Calls Tryz.prog 205 #[.int .u64 h,.int .u64 l,.int .u64 y] w fun e w'=>e=.returned (.tuple #[.int .u64 Q,.int .u64 R])∧w=w':=by
 have t1:(y==0)=false:=beq_eq_false_iff_ne.2 zo
 have t2:(h==0)=false:=beq_eq_false_iff_ne.2 zo
 have t3:¬y≤h:=zo
 go_enter Tryz.func205,Tryz.ntmps205
 go_upto_block 0 with (go_at_call 215;refine (lz64 _ _ zo k3).mono ?_;rw[hs.out];rintro e w' ⟨rfl,rfl⟩)
 go_cut [15] (fun s15 wx=>∃q,s15=.int .u64 q∧KFin u d1 y1 y0 q∧w=wx)
 case first=>
  have b1':=b1
  have b3':u<y1*4294967296+y0:=by rw[←HY.out];exact b3
  have c1':=c1
  have c2':=c2
  go_wp2
  go_loop [15,16] (fun a b=>∃q r,a=.int .u64 q∧b=.int .u64 r∧KInv u d1 y1 y0 q r) (fun a _=>(intOf a).toNat)
  case atStart=>exact⟨_,_,rfl,rfl,hk0⟩
  case round=>
   obtain⟨q,r,rfl,rfl,hk⟩:=hrel
   obtain⟨q0,q1,r0,r1⟩:=zRg hk
   have HK:=zh hk
   clear hk hk0
   by_cases T1:4294967296≤q
   ·have hg:=(zFb u d1 y1 y0 q r b1' b3' c1' c2' HK.out (.inl T1)).1
    by_cases B:r+y1≤4294967295
    ·go_wp2
     go_round
     case rel=>exact⟨q-1,r+y1,rfl,rfl,zMz u d1 y1 y0 q r a1 b1' b3' c1' c2' HK.out (.inl T1) B⟩
     case measure=>simp[intOf];omega
    ·go_wp2
     go_meet
     exact⟨q-1,rfl,zIh u d1 y1 y0 q r a3 a4 b1' b3' c1' c2' HK.out (.inl T1) zo,rfl⟩
   ·have PE:=zh (zKk q y0 q0 zo a3 a4)
    obtain⟨p,hp⟩:∃p,IntKind.u64.wrap (q*y0)=p:=⟨_,rfl⟩
    have PP:Hid (q*y0=p):=zh (by rw[←hp,PE.out])
    by_cases T2:4294967296*r+d1<p
    ·have T3:4294967296*r+d1<q*y0:=by rw[PP.out];exact T2
     have HT:=zh T3
     have hg:=(zFb u d1 y1 y0 q r b1' b3' c1' c2' HK.out (.inr T3)).1
     clear T3
     by_cases B:r+y1≤4294967295
     ·go_wp2
      go_round
      case rel=>exact⟨q-1,r+y1,rfl,rfl,zMz u d1 y1 y0 q r a1 b1' b3' c1' c2' HK.out (.inr HT.out) B⟩
      case measure=>simp[intOf];omega
     ·go_wp2
      go_meet
      exact⟨q-1,rfl,zIh u d1 y1 y0 q r a3 a4 b1' b3' c1' c2' HK.out (.inr HT.out) zo,rfl⟩
    ·have HT:Hid (q*y0≤4294967296*r+d1):=zh (by rw[PP.out];omega)
     go_wp2
     go_meet
     exact⟨q,rfl,k_stop u d1 y1 y0 q r HK.out HT.out,rfl⟩
 case rest=>
  obtain⟨q,rfl,hq,rfl⟩:=hcut
  obtain⟨f1,f2,f3⟩:=k_fin u d1 y1 y0 q a1 a3 (by rw[←HY.out];exact b3) c2 hq
  rw[←HY.out] at f3
  have f0:0≤q:=hq.1
  obtain⟨z,hz⟩:∃z,IntKind.u64.wrap (IntKind.u64.wrap (IntKind.u64.wrap (u*4294967296)+d1)-IntKind.u64.wrap (q*Y))=z:=⟨_,rfl⟩
  have ZE:Hid (z=(u*4294967296+d1)%Y):=zh (by rw[←hz];exact zSt u d1 q Y f3 a5 a6)
  have z0:0≤z:=by rw[ZE.out];exact Int.emod_nonneg _ zo
  have z1:z<Y:=by rw[ZE.out];exact Int.emod_lt_of_pos _ zo
  have z2:z≤18446744073709551615:=zo
  have hk0:KInv z d0 y1 y0 (z/y1) (IntKind.u64.wrap (z-IntKind.u64.wrap (z/y1*y1))):=zN0 z d0 y1 y0 a1 a2 a3 a4 z0 (by rw[←HY.out];exact z1) z2 c4
  have HQ:=zh hq
  clear f2 f3 hq
  go_upto_block 2 with (fail)
  go_cut [18] (fun s18 wx=>∃q,s18=.int .u64 q∧KFin z d0 y1 y0 q∧w=wx)
  case first=>
   have b1':=z0
   have b3':z<y1*4294967296+y0:=by rw[←HY.out];exact z1
   have c1':=c3
   have c2':=c4
   go_wp2
   go_loop [18,16] (fun a b=>∃q r,a=.int .u64 q∧b=.int .u64 r∧KInv z d0 y1 y0 q r) (fun a _=>(intOf a).toNat)
   case atStart=>exact⟨_,_,rfl,rfl,hk0⟩
   case round=>
    obtain⟨q,r,rfl,rfl,hk⟩:=hrel
    obtain⟨q0,q1,r0,r1⟩:=zRg hk
    have HK:=zh hk
    clear hk hk0
    by_cases T1:4294967296≤q
    ·have hg:=(zFb z d0 y1 y0 q r b1' b3' c1' c2' HK.out (.inl T1)).1
     by_cases B:r+y1≤4294967295
     ·go_wp2
      go_round
      case rel=>exact⟨q-1,r+y1,rfl,rfl,zMz z d0 y1 y0 q r a1 b1' b3' c1' c2' HK.out (.inl T1) B⟩
      case measure=>simp[intOf];omega
     ·go_wp2
      go_meet
      exact⟨q-1,rfl,zIh z d0 y1 y0 q r a3 a4 b1' b3' c1' c2' HK.out (.inl T1) zo,rfl⟩
    ·have PE:=zh (zKk q y0 q0 zo a3 a4)
     obtain⟨p,hp⟩:∃p,IntKind.u64.wrap (q*y0)=p:=⟨_,rfl⟩
     have PP:Hid (q*y0=p):=zh (by rw[←hp,PE.out])
     by_cases T2:4294967296*r+d0<p
     ·have T3:4294967296*r+d0<q*y0:=by rw[PP.out];exact T2
      have HT:=zh T3
      have hg:=(zFb z d0 y1 y0 q r b1' b3' c1' c2' HK.out (.inr T3)).1
      clear T3
      by_cases B:r+y1≤4294967295
      ·go_wp2
       go_round
       case rel=>exact⟨q-1,r+y1,rfl,rfl,zMz z d0 y1 y0 q r a1 b1' b3' c1' c2' HK.out (.inr HT.out) B⟩
       case measure=>simp[intOf];omega
      ·go_wp2
       go_meet
       exact⟨q-1,rfl,zIh z d0 y1 y0 q r a3 a4 b1' b3' c1' c2' HK.out (.inr HT.out) zo,rfl⟩
     ·have HT:Hid (q*y0≤4294967296*r+d0):=zh (by rw[PP.out];omega)
      go_wp2
      go_meet
      exact⟨q,rfl,k_stop z d0 y1 y0 q r HK.out HT.out,rfl⟩
  case rest=>
   obtain⟨q',rfl,hq',rfl⟩:=hcut
   obtain⟨e1,e2⟩:=hfin.out q z q' HQ.out ZE.out hq'
   have g1:0≤q':=hq'.1
   have g2:=(k_fin z d0 y1 y0 q' a1 a3 (by rw[←HY.out];exact z1) c4 hq').1
   have E1:=zh e1
   have E2:=zh e2
   clear e1 e2 hq'
   go_wp2_with fail
   go_ret2
   refine⟨?_,rfl⟩
   rw[E2.out,E1.out]
   rfl
end Go.Proofs.YtpfgdfpaoldhcaaGreatDoor
namespace Go.Proofs.YtpfgdfpaoldhcaaGreatDoor
open Go.RowKit
theorem or_add (a b n:Nat) (hb:b<2 ^ n) (ha:a*2 ^ n<18446744073709551616) (hb':b<18446744073709551616) :
  bits .or .u64 ((a*2 ^ n:Nat):Int) (b:Int)=((a*2 ^ n+b:Nat):Int):=by
 rw[bits_or_u64_nat _ _ ha hb',Nat.mul_comm a,←Nat.two_pow_add_eq_or_of_lt hb a]
theorem shifted (h l s:Nat) (hs:s≤63) (hl:l<18446744073709551616) :
  h*2 ^ s+l/2 ^ (64-s)=(h*18446744073709551616+l)*2 ^ s/18446744073709551616∧l/2 ^ (64-s)<2 ^ s:=by
 have p:2 ^ s*2 ^ (64-s)=18446744073709551616:=by rw[←Nat.pow_add,show s+(64-s)=64 from by omega]
 have hp:0<2 ^ s:=Nat.two_pow_pos s
 have hp':0<2 ^ (64-s):=Nat.two_pow_pos _
 constructor
 ·have e:(h*18446744073709551616+l)*2 ^ s=l*2 ^ s+18446744073709551616*(h*2 ^ s):=by
   rw[Nat.add_mul,Nat.mul_right_comm,Nat.mul_comm (h*2 ^ s),Nat.add_comm]
  have e2:l*2 ^ s/18446744073709551616=l/2 ^ (64-s):=by
   rw[←p,Nat.mul_comm l,Nat.mul_div_mul_left _ _ hp]
  rw[e,Nat.add_mul_div_left _ _ zd,e2,Nat.add_comm]
 ·rw[Nat.div_lt_iff_lt_mul hp',p]
  exact hl
theorem zUf (u d1 d0 Y:Int) (hY:0<Y) :
  (u*4294967296+d1)/Y*4294967296+((u*4294967296+d1)%Y*4294967296+d0)/Y=(u*18446744073709551616+(d1*4294967296+d0))/Y ∧
  ((u*4294967296+d1)%Y*4294967296+d0)%Y=(u*18446744073709551616+(d1*4294967296+d0))%Y:=by
 have e:=Int.mul_ediv_add_emod (u*4294967296+d1) Y
 generalize (u*4294967296+d1)/Y=q at *
 generalize (u*4294967296+d1)%Y=z at *
 have k:u*18446744073709551616+(d1*4294967296+d0)=(z*4294967296+d0)+Y*(q*4294967296):=by
  rw[←Int.mul_assoc]
  generalize Y*q=p at *
  omega
 rw[k,Int.add_mul_ediv_left _ _ zo,Int.add_mul_emod_self_left]
 exact⟨zo,rfl⟩
theorem zQr (h l y:Int) (w:World) (k1:0<h) (k2:h<y) (k3:y<18446744073709551616) (k4:0≤l) (k5:l<18446744073709551616) :
  Calls Tryz.prog 205 #[.int .u64 h,.int .u64 l,.int .u64 y] w fun e w'=>
   e=.returned (.tuple #[.int .u64 ((h*18446744073709551616+l)/y),.int .u64 ((h*18446744073709551616+l)%y)])∧w=w':=by
 obtain⟨s0,s1,g1,g2⟩:=lz_spec y zo k3
 obtain⟨s,hs⟩:∃s,lz y=s:=⟨_,rfl⟩
 rw[hs] at s0 s1 g1 g2
 have HS:=zh hs
 clear hs
 obtain⟨H,rfl⟩:=Int.eq_ofNat_of_zero_le (Int.le_of_lt k1)
 obtain⟨L,rfl⟩:=Int.eq_ofNat_of_zero_le k4
 obtain⟨n,rfl⟩:=Int.eq_ofNat_of_zero_le s0
 have hp:(0:Int)<2 ^ n:=Int.pow_pos zd
 have cst:((2:Int) ^ n)=((2 ^ n:Nat):Int):=by rw[Int.natCast_pow];rfl
 rw[Int.toNat_natCast] at g1 g2
 have hHS:(H:Int)*2 ^ n<y*2 ^ n:=Int.mul_lt_mul_of_pos_right k2 hp
 have hHn:H*2 ^ n<18446744073709551616:=by
  have:(((H*2 ^ n:Nat)):Int)=(H:Int)*2 ^ n:=by rw[Int.natCast_mul,cst]
  omega
 obtain⟨sh1,sh2⟩:=shifted H L n zo zo
 have U0:0≤((H:Int)*18446744073709551616+L)*2 ^ n:=Int.mul_nonneg zo (Int.le_of_lt hp)
 have U1:((H:Int)*18446744073709551616+L)*2 ^ n<y*2 ^ n*18446744073709551616:=by
  have:((H:Int)*18446744073709551616+L)<y*18446744073709551616:=zo
  have:=Int.mul_lt_mul_of_pos_right this hp
  rw[Int.mul_right_comm]
  exact this
 have eu:bits .or .u64 (IntKind.u64.wrap ((H:Int)*2 ^ ((n:Nat):Int).toNat)) ((L:Int)/2 ^ (64-((n:Nat):Int)).toNat)=((H:Int)*18446744073709551616+L)*2 ^ n/18446744073709551616:=by
  rw[Int.toNat_natCast,show (64-((n:Nat):Int)).toNat=64-n from by omega]
  have c1:(H:Int)*2 ^ n=((H*2 ^ n:Nat):Int):=by rw[Int.natCast_mul,cst]
  have c2:(L:Int)/2 ^ (64-n)=((L/2 ^ (64-n):Nat):Int):=by rw[Int.natCast_ediv,Int.natCast_pow];rfl
  have c3:IntKind.u64.wrap ((H*2 ^ n:Nat):Int)=((H*2 ^ n:Nat):Int):=by rw[IntKind.wrap_u64];omega
  have c4:L/2 ^ (64-n)<18446744073709551616:=Nat.lt_of_le_of_lt (Nat.div_le_self _ _) zo
  rw[c1,c2,c3,or_add H _ n sh2 hHn c4,sh1,Int.natCast_ediv,Int.natCast_mul,Int.natCast_add,Int.natCast_mul,←cst]
  rfl
 have ev:IntKind.u64.wrap ((L:Int)*2 ^ ((n:Nat):Int).toNat)=((H:Int)*18446744073709551616+L)*2 ^ n%18446744073709551616:=by
  rw[Int.toNat_natCast,IntKind.wrap_u64,Int.add_mul,Int.mul_right_comm,Int.add_comm,Int.add_mul_emod_self_right]
 have eY:IntKind.u64.wrap (y*2 ^ ((n:Nat):Int).toNat)=y*2 ^ n:=by rw[Int.toNat_natCast,IntKind.wrap_u64];omega
 have QE:((H:Int)*18446744073709551616+L)*2 ^ n/(y*2 ^ n)=((H:Int)*18446744073709551616+L)/y:=Int.mul_ediv_mul_of_pos_left _ _ hp
 have RE:((H:Int)*18446744073709551616+L)*2 ^ n%(y*2 ^ n)/2 ^ n=((H:Int)*18446744073709551616+L)%y:=by
  rw[Int.mul_comm _ (2 ^ n),Int.mul_comm y,Int.mul_emod_mul_of_pos _ _ hp,Int.mul_ediv_cancel_left _ zo]
 rw[←QE,←RE]
 generalize y*2 ^ n=Y at *
 generalize ((H:Int)*18446744073709551616+L)*2 ^ n=U at *
 have y1b:2147483648≤Y/4294967296∧Y/4294967296≤4294967295:=zo
 have hu:0≤U/18446744073709551616∧U/18446744073709551616<Y:=⟨zo,by rw[Int.ediv_lt_iff_lt_mul zd];omega⟩
 have hy0:bits .and .u64 Y 4294967295=Y%4294967296:=and_low32 Y zo zo
 have hd0:bits .and .u64 (U%18446744073709551616) 4294967295=U%18446744073709551616%4294967296:=and_low32 _ zo zo
 have HY:Y=Y/4294967296*4294967296+Y%4294967296:=zo
 have hk0:=zN0 (U/18446744073709551616) (U%18446744073709551616/4294967296) (Y/4294967296) (Y%4294967296) y1b.1 y1b.2 zo zo hu.1 zo zo zo
 refine zO1 H L y n w k1 k2 k3 s0 s1 HS Y (Y/4294967296) (Y%4294967296) (U/18446744073709551616) (U%18446744073709551616) (U%18446744073709551616/4294967296) (U%18446744073709551616%4294967296)
  eY rfl hy0 eu ev rfl hd0 y1b.1 y1b.2 zo zo zo zo hu.1 zo zo zo zo zo (zh HY) hu.2 hk0 _ _ (zh ?_)
 intro q z q' f1 hz f2
 have hYp:0<Y:=zo
 obtain⟨t1,t2⟩:=zUf (U/18446744073709551616) (U%18446744073709551616/4294967296) (U%18446744073709551616%4294967296) Y hYp
 have eU:U/18446744073709551616*18446744073709551616+(U%18446744073709551616/4294967296*4294967296+U%18446744073709551616%4294967296)=U:=zo
 rw[eU] at t1 t2
 have zb:0≤z∧z<Y:=by rw[hz];exact⟨Int.emod_nonneg _ zo,Int.emod_lt_of_pos _ hYp⟩
 obtain⟨r1,r2,r3⟩:=k_fin _ _ _ _ q y1b.1 zo zo zo f1
 obtain⟨r4,r5,r6⟩:=k_fin _ _ _ _ q' y1b.1 zo zo zo f2
 rw[←HY] at r2 r3 r5 r6
 constructor
 ·rw[r2,r5,hz,t1]
 ·rw[zSt z _ q' Y r6 zo zo,hz,t2,Int.toNat_natCast]
theorem div64 (h l y:Int) (w:World) (k1:0≤h) (k2:h<y) (k3:y<18446744073709551616) (k4:0≤l) (k5:l<18446744073709551616) :
  Calls Tryz.prog 205 #[.int .u64 h,.int .u64 l,.int .u64 y] w fun e w'=>
   e=.returned (.tuple #[.int .u64 ((h*18446744073709551616+l)/y),.int .u64 ((h*18446744073709551616+l)%y)])∧∃n,w'=w.drewN n:=by
 by_cases hh:0<h
 ·exact (zQr h l y w hh k2 k3 k4 k5).mono fun e w' hw=>⟨hw.1,0,hw.2.symm⟩
 ·obtain rfl:h=0:=zo
  have t1:(y==0)=false:=beq_eq_false_iff_ne.2 zo
  have t2:¬y≤0:=zo
  have t3:¬y=0:=zo
  rw[Int.zero_mul,Int.zero_add]
  go_enter Tryz.func205,Tryz.ntmps205
  go_wp2
  go_quiet (fail)
  go_wp2
  go_ret2
  exact⟨rfl,_,rfl⟩
end Go.Proofs.YtpfgdfpaoldhcaaGreatDoor
namespace Go.Proofs.YtpfgdfpaoldhcaaGreatDoor
open Go.RowKit
theorem zJw {P:Program} {f:FuncId} {args:Array Value} {w:World} {n:Nat} {v:Value}
  (h:Calls P f args (w.drewN n) fun e w'=>e=.returned v∧∃m,w'=(w.drewN n).drewN m):Calls P f args (w.drewN n) fun e w''=>e=.returned v∧∃m,w''=w.drewN m:=
 h.mono fun _ _ hh=>⟨hh.1,by obtain⟨m,hm⟩:=hh.2;exact⟨n+m,by rw[hm,World.drewN_drewN]⟩⟩
theorem zqveh {P:Prop} (h:P:=by
 have c41:=fun w=>div64 c a d w h3 h4 h5 h1 h2
 have C41:=zh c41
 clear c41
 generalize (c*18446744073709551616+a)/d=Q at *
 generalize (c*18446744073709551616+a)%d=R at *
 go_enter Tryz.func204,Tryz.ntmps204
 go_wp2
 go_quiet ((go_at_call 205;exact zJw (C41.out _)))
 go_wp2
 go_ret2
 exact⟨rfl,_,rfl⟩):P:=h
theorem divStep0 (a d c:Int) (pa pd:Nat) (w:World) (ha:w.cell? ⟨pa,0,none⟩=some (.int .u64 a)) (hd:w.cell? ⟨pd,0,none⟩=some (.int .u64 d))
  (h1:0≤a) (h2:a<18446744073709551616) (h3:0≤c) (h4:c<d) (h5:d<18446744073709551616) :
  Calls Tryz.prog 204 #[(0:Int),.int .u64 c,.pointer (some ⟨pa,0,none⟩),.pointer (some ⟨pd,0,none⟩)] w fun e w'=>
   e=.returned (.tuple #[.int .u64 ((c*18446744073709551616+a)/d),.int .u64 ((c*18446744073709551616+a)%d)])∧∃n,w'=w.drewN n:=by
 exact zqveh
theorem divStep1 (a d c:Int) (pa pd:Nat) (w:World) (ha:w.cell? ⟨pa,1,none⟩=some (.int .u64 a)) (hd:w.cell? ⟨pd,0,none⟩=some (.int .u64 d))
  (h1:0≤a) (h2:a<18446744073709551616) (h3:0≤c) (h4:c<d) (h5:d<18446744073709551616) :
  Calls Tryz.prog 204 #[(1:Int),.int .u64 c,.pointer (some ⟨pa,0,none⟩),.pointer (some ⟨pd,0,none⟩)] w fun e w'=>
   e=.returned (.tuple #[.int .u64 ((c*18446744073709551616+a)/d),.int .u64 ((c*18446744073709551616+a)%d)])∧∃n,w'=w.drewN n:=by
 exact zqveh
theorem zJ9 (a0 a1 d:Int) (pa pd:Nat) (w:World) (ha0:w.cell? ⟨pa,0,none⟩=some (.int .u64 a0)) (ha1:w.cell? ⟨pa,1,none⟩=some (.int .u64 a1)) (hd:w.cell? ⟨pd,0,none⟩=some (.int .u64 d)) (hpa:pa<w.heap.size) (hpd:pd<w.heap.size)
  (k1:0≤a0) (k2:a0<18446744073709551616) (k3:0≤a1) (k4:a1<18446744073709551616) (k5:0<d) (k6:d<18446744073709551616) :
  Calls Tryz.prog 203 #[.func (.func 204) #[] #[.pointer (some ⟨pa,0,none⟩),.pointer (some ⟨pd,0,none⟩)]] w fun e w'=>
   e=.returned (.tuple #[.agg #[.int .u64 (((0*18446744073709551616+a1)%d*18446744073709551616+a0)/d),.int .u64 ((0*18446744073709551616+a1)/d)],.int .u64 (((0*18446744073709551616+a1)%d*18446744073709551616+a0)%d)])∧Below w w w':=by
 obtain⟨s1,S1⟩:∃s,Hid ((0*18446744073709551616+a1)/d=s):=⟨_,zh rfl⟩
 obtain⟨d1,D1⟩:∃s,Hid ((0*18446744073709551616+a1)%d=s):=⟨_,zh rfl⟩
 obtain⟨s0,S0⟩:∃s,Hid ((d1*18446744073709551616+a0)/d=s):=⟨_,zh rfl⟩
 obtain⟨d0,D0⟩:∃s,Hid ((d1*18446744073709551616+a0)%d=s):=⟨_,zh rfl⟩
 have q0:0≤d1:=by rw[←D1.out];exact Int.emod_nonneg _ zo
 have q1:d1<d:=by rw[←D1.out];exact Int.emod_lt_of_pos _ k5
 rw[D1.out,S1.out,S0.out,D0.out]
 go_enter Tryz.func203,Tryz.ntmps203
 go_wp2
 refine wp_loop_rounds 3 ?_
 rw[rounds_succ]
 go_wp2_with fail
 refine (divStep1 a1 d 0 pa pd _ (zC6 ha1 hpa) (zC6 hd hpd) k3 k4 zo k5 k6).mono ?_
 rw[S1.out,D1.out]
 rintro e w' ⟨rfl,nd,rfl⟩
 go_wp2_with fail
 rw[rounds_succ]
 go_wp2_with fail
 refine (divStep0 a0 d d1 pa pd _ (zFz ha0 hpa) (zFz hd hpd) k1 k2 q0 q1 k6).mono ?_
 rw[S0.out,D0.out]
 rintro e w' ⟨rfl,md,rfl⟩
 go_wp2_with fail
 rw[rounds_succ]
 go_wp2_with fail
 refine bodyPost_ret (v:=.tuple #[.agg #[.int .u64 s0,.int .u64 s1],.int .u64 d0]) (by simp[results,Tryz.results203,go_sem]) rfl ⟨rfl,?_⟩
 exact zA7 ((Below.refl _ _).alloc (Nat.le_refl _) _) _
theorem div_lo (a1 a0 d:Int) (hd:0<d) (h0:0≤a1) (h1:a1<18446744073709551616) (h2:0≤a0) (h3:a0<18446744073709551616):((0*18446744073709551616+a1)%d*18446744073709551616+a0)/d=lo (wn a1 a0/d)∧(0*18446744073709551616+a1)/d=hi (wn a1 a0/d)∧((0*18446744073709551616+a1)%d*18446744073709551616+a0)%d=wn a1 a0%d:=by
 have e:=Int.mul_ediv_add_emod (0*18446744073709551616+a1) d
 have m0:=Int.emod_nonneg (0*18446744073709551616+a1) (show d≠0 by omega)
 have m1:=Int.emod_lt_of_pos (0*18446744073709551616+a1) hd
 have hq0:0≤(0*18446744073709551616+a1)/d:=Int.ediv_nonneg zo zo
 generalize (0*18446744073709551616+a1)/d=q at *
 generalize (0*18446744073709551616+a1)%d=r at *
 have k:wn a1 a0=(r*18446744073709551616+a0)+d*(q*18446744073709551616):=by
  unfold wn
  rw[←Int.mul_assoc]
  generalize d*q=p at *
  omega
 have lt:(r*18446744073709551616+a0)/d<18446744073709551616:=Int.ediv_lt_of_lt_mul hd zo
 have ge:0≤(r*18446744073709551616+a0)/d:=Int.ediv_nonneg zo zo
 rw[k,Int.add_mul_ediv_left _ _ zo,Int.add_mul_emod_self_left]
 unfold lo hi
 generalize (r*18446744073709551616+a0)/d=t at *
 refine⟨zo,zo,rfl⟩
theorem div_yes (a1 a0 d:Int) (w:World) (k1:0≤a0) (k2:a0<18446744073709551616) (k3:0≤a1) (k4:a1<18446744073709551616) (k5:0<d) (k6:d<18446744073709551616) :
  Calls Tryz.prog 188 #[.agg #[.int .u64 a1,.int .u64 a0],.int .u64 d] w fun e w'=>e=.returned (.tuple #[.agg #[.int .u64 (hi (wn a1 a0/d)),.int .u64 (lo (wn a1 a0/d))],.int .u64 (wn a1 a0%d),(0:Int)])∧Below w w w':=by
 have hmf:=zHM
 have t1:(d==0)=false:=beq_eq_false_iff_ne.2 zo
 have E:=zh (div_lo a1 a0 d k5 k3 k4 k1 k2)
 generalize hi (wn a1 a0/d)=r1 at *
 generalize lo (wn a1 a0/d)=r0 at *
 generalize wn a1 a0%d=c at *
 go_enter Tryz.func188,Tryz.ntmps188
 go_wp2_with fail
 refine (zTz _ _ _).mono ?_
 rintro e w1 ⟨rfl,hb1⟩
 have hz:w.heap.size+3≤w1.heap.size:=by have:=hb1.size;simp at this;omega
 replace hb1:=hb1.mono (show w.heap.size+3≤_ by simp)
 go_wp2_with fail
 refine (zJ9 a0 a1 d _ _ _ ?_ ?_ ?_ ?_ ?_ k1 k2 k3 k4 k5 k6).mono ?_
 ·simp[World.cell?_alloc_new]
 ·simp[World.cell?_alloc_new]
 ·exact zC6 ((hb1.cell (p:=⟨_,_,none⟩) zs).trans (by simp[go_sem])) zo
 ·simp
 ·simp;omega
 rw[E.out.1,E.out.2.1,E.out.2.2]
 rintro e w2 ⟨rfl,hb2⟩
 have hb3:=hb1.trans (((Below.refl _ w1).alloc zo _).trans (hb2.mono zx))
 have hz2:w.heap.size+3≤w2.heap.size:=by have:=hb2.size;simp at this;omega
 clear hb1 hb2 hz
 go_wp2_with fail
 refine (zMy _ _ _).mono ?_
 rintro e w3 ⟨rfl,hb4⟩
 have hb5:=hb3.trans (((Below.refl _ w2).alloc zo _).trans (hb4.mono zx))
 clear hb3 hb4
 obtain⟨hc5,hf5⟩:=bcellB hb5
 go_wp2_with fail
 exact bodyPost_ret (v:=.tuple #[.agg #[.int .u64 r1,.int .u64 r0],.int .u64 c,(0:Int)]) (by simp[results,Tryz.results188,go_sem,hc5]) rfl ⟨rfl,((((((Below.refl _ _).alloc (Nat.le_refl _) _).alloc zs _).alloc zw _).trans (hb5.mono zo)).setCell zw _).setCell zw _⟩
end Go.Proofs.YtpfgdfpaoldhcaaGreatDoor
namespace Go.Proofs.YtpfgdfpaoldhcaaGreatDoor
open Go.RowKit
theorem keep {W w':World} {p k:Nat} {v:Value} (hb:Below W W w') (hp:p<W.heap.size) (h:W.cell? ⟨p,k,none⟩=some v):w'.cell? ⟨p,k,none⟩=some v:=
 (hb.cell (p:=⟨p,k,none⟩) hp).trans h
end Go.Proofs.YtpfgdfpaoldhcaaGreatDoor
namespace Go.Proofs.YtpfgdfpaoldhcaaGreatDoor
open Go.RowKit
def vE (p:Int):Int:=if p<top then 0 else 6
end Go.Proofs.YtpfgdfpaoldhcaaGreatDoor
namespace Go.Proofs.YtpfgdfpaoldhcaaGreatDoor
open Go.RowKit
theorem zQi {a b:Int} (h:a<b):cmpI a b = -1:=by unfold cmpI;rw[if_pos h]
theorem zQh {a b:Int} (h:a=b):cmpI a b=0:=by unfold cmpI;rw[if_neg zo,if_neg zo]
theorem zF5 {a b:Int} (h:b<a):cmpI a b=1:=by unfold cmpI;rw[if_neg zo,if_pos h]
theorem cmpI_le {a b:Int} (h:a≤b):cmpI a b≤0:=by unfold cmpI;split;omega;rw[if_neg zo];exact Int.le_refl _
theorem zF6 {a b:Int} (h:a≤b):decide (0<cmpI a b)=false:=by rw[decide_eq_false_iff_not];have:=cmpI_le h;omega
end Go.Proofs.YtpfgdfpaoldhcaaGreatDoor
namespace Go.Proofs.YtpfgdfpaoldhcaaGreatDoor
open Go.RowKit
theorem zA6 {W W':World} {p k:Nat} {b:Bool} (hb:Below W W W') (hp:p<W.heap.size) (h:W.frozen? ⟨p,k,none⟩=b):W'.frozen? ⟨p,k,none⟩=b:=(hb.frozen (p:=⟨p,k,none⟩) hp).trans h
theorem zA0 {W:World} {p k:Nat} {v:Value} (h:W.cell? ⟨p,k,none⟩=some v):p<W.heap.size:=World.block_lt_of_cell? W ⟨p,k,none⟩ h
inductive Fact
 | cell (b o:Nat) (v:Value)
 | free (b o:Nat)
 | is (b o:Nat)
 | that (P:World→Prop) (h:∀W W':World,Below W W W'→P W→P W')
def Fact.at (W:World):Fact→Prop
 | .cell b o v=>W.cell? ⟨b,o,none⟩=some v
 | .free b o=>b<W.heap.size∧W.frozen? ⟨b,o,none⟩=false
 | .is b o=>(W.cell? ⟨b,o,none⟩).isSome=true
 | .that P _=>P W
theorem Fact.below {W W':World} (hb:Below W W W'):∀{f:Fact},f.at W→f.at W'
 | .cell _ _ _,h=>keep hb (zA0 h) h
 | .free _ _,h=>⟨Nat.lt_of_lt_of_le h.1 hb.size,zA6 hb h.1 h.2⟩
 | .is b o,h=>by
  obtain⟨v,hv⟩:=Option.isSome_iff_exists.1 h
  exact Option.isSome_iff_exists.2 ⟨v,keep hb (zA0 hv) hv⟩
 | .that _ k,h=>k _ _ hb h
theorem zf {P:Prop} (h:P:=by simp[Fact.at,World.cell?_alloc_new]):P:=h
theorem zn {P:Prop} (h:P:=by simp[World.cell?_alloc_new]):P:=h
structure Held (w:World) (fs:List Fact) (W:World):Prop where
 old:Below w w W
 all:∀f∈fs,f.at W
theorem Held.start (w:World):Held w [] w:=⟨Below.refl _ _,fun _ h=>by cases h⟩
theorem Held.below {w W W':World} {fs:List Fact} (h:Held w fs W) (hb:Below W W W'):Held w fs W':=
 ⟨h.old.trans (hb.mono h.old.size),fun f hf=>Fact.below hb (h.all f hf)⟩
theorem Held.drew {w W:World} {fs:List Fact} (h:Held w fs W):Held w fs W.drew:=
 h.below ((Below.refl _ _).drew)
theorem Held.add {w W:World} {fs:List Fact} (h:Held w fs W) {f:Fact} (hf:f.at W):Held w (f::fs) W:=
 ⟨h.old,fun g hg=>(List.mem_cons.1 hg).elim (fun e=>e▸hf) (h.all g)⟩
theorem Held.sub {w W:World} {fs gs:List Fact} (h:Held w fs W) (hs:∀f∈gs,f∈fs:=by exact zm):Held w gs W:=⟨h.old,fun f hf=>h.all f (hs f hf)⟩
theorem Held.alloc {w W:World} {fs:List Fact} (h:Held w fs W) (o:Obj):Held w fs (W.alloc o):=h.below ((Below.refl _ _).alloc (Nat.le_refl _) _)
theorem Held.cell {w W:World} {fs:List Fact} (h:Held w fs W) (b o:Nat) (v:Value) (hm:Fact.cell b o v∈fs:=by exact zm):W.cell? ⟨b,o,none⟩=some v:=h.all _ hm
theorem Held.lt {w W:World} {fs:List Fact} (h:Held w fs W) (b o:Nat) (v:Value) (hm:Fact.cell b o v∈fs:=by exact zm):b<W.heap.size:=zA0 (h.cell b o v hm)
theorem Held.pair {w W:World} {fs:List Fact} (h:Held w fs W) (B:Nat) (u v:Value) (t:TypeId) (hB:W.heap.size=B) :
  Held w (.cell B 0 u::.cell B 1 v::.free B 0::.free B 1::fs) (W.alloc (.cells #[u,v] t)):=by
 subst hB
 exact ((((h.alloc _).add (f:=.free W.heap.size 1) ⟨zs,by simp[go_sem]⟩).add (f:=.free W.heap.size 0) ⟨zs,by simp[go_sem]⟩).add (f:=.cell W.heap.size 1 v) zf).add (f:=.cell W.heap.size 0 u) zf
theorem Held.lone {w W:World} {fs:List Fact} (h:Held w fs W) (B:Nat) (u:Value) (t:TypeId) (hB:W.heap.size=B) :
  Held w (.cell B 0 u::.free B 0::fs) (W.alloc (.cells #[u] t)):=by
 subst hB
 exact ((h.alloc _).add (f:=.free W.heap.size 0) ⟨zs,by simp[go_sem]⟩).add (f:=.cell W.heap.size 0 u) zf
theorem Held.frozen {w W:World} {fs:List Fact} (h:Held w fs W) (b o:Nat) (hm:Fact.free b o∈fs:=by exact zm):W.frozen? ⟨b,o,none⟩=false:=(h.all _ hm).2
theorem zG {P:Program} {f:FuncId} {a:Array Value} {w W:World} {fs:List Fact} {v:Ending} {Q:Ending→World→Prop} (h:Held w fs W→Calls P f a W fun e w'=>e=v∧Below W.heap.size W w') (k:∀W',Held w fs W'→Q v W'):Held w fs W→Calls P f a W Q:=
 fun H=>(h H).mono fun _ _ ⟨e,b⟩=>e▸k _ (H.below b)
theorem Held.c {w W:World} {fs:List Fact} {b o:Nat} {v:Value} (h:Held w fs W) (m:Fact.cell b o v∈fs:=by exact zm):W.cell? ⟨b,o,none⟩=some v:=h.all _ m
theorem Held.cells2 {w W:World} {fs:List Fact} (h:Held w fs W) (B:Nat) {v0 v1:Value} (m0:Fact.cell B 0 v0∈fs:=by exact zm) (m1:Fact.cell B 1 v1∈fs:=by exact zm):W.cell? ⟨B,0,none⟩=some v0∧W.cell? ⟨B,1,none⟩=some v1:=
 ⟨h.cell B 0 v0 m0,h.cell B 1 v1 m1⟩
theorem Held.cells3 {w W:World} {fs:List Fact} (h:Held w fs W) (B:Nat) {v0 v1 v2:Value} (m0:Fact.cell B 0 v0∈fs:=by exact zm) (m1:Fact.cell B 1 v1∈fs:=by exact zm) (m2:Fact.cell B 2 v2∈fs:=by exact zm):W.cell? ⟨B,0,none⟩=some v0∧W.cell? ⟨B,1,none⟩=some v1∧W.cell? ⟨B,2,none⟩=some v2:=
 ⟨h.cell B 0 v0 m0,h.cell B 1 v1 m1,h.cell B 2 v2 m2⟩
theorem Held.cells4 {w W:World} {fs:List Fact} (h:Held w fs W) (B:Nat) {v0 v1 v2 v3:Value} (m0:Fact.cell B 0 v0∈fs:=by exact zm) (m1:Fact.cell B 1 v1∈fs:=by exact zm) (m2:Fact.cell B 2 v2∈fs:=by exact zm) (m3:Fact.cell B 3 v3∈fs:=by exact zm):W.cell? ⟨B,0,none⟩=some v0∧W.cell? ⟨B,1,none⟩=some v1∧W.cell? ⟨B,2,none⟩=some v2∧W.cell? ⟨B,3,none⟩=some v3:=
 ⟨h.cell B 0 v0 m0,h.cell B 1 v1 m1,h.cell B 2 v2 m2,h.cell B 3 v3 m3⟩
theorem Held.cells7 {w W:World} {fs:List Fact} (h:Held w fs W) (B:Nat) {v0 v1 v2 v3 v4 v5 v6:Value} (m0:Fact.cell B 0 v0∈fs:=by exact zm) (m1:Fact.cell B 1 v1∈fs:=by exact zm) (m2:Fact.cell B 2 v2∈fs:=by exact zm) (m3:Fact.cell B 3 v3∈fs:=by exact zm) (m4:Fact.cell B 4 v4∈fs:=by exact zm) (m5:Fact.cell B 5 v5∈fs:=by exact zm) (m6:Fact.cell B 6 v6∈fs:=by exact zm):W.cell? ⟨B,0,none⟩=some v0∧W.cell? ⟨B,1,none⟩=some v1∧W.cell? ⟨B,2,none⟩=some v2∧W.cell? ⟨B,3,none⟩=some v3∧W.cell? ⟨B,4,none⟩=some v4∧W.cell? ⟨B,5,none⟩=some v5∧W.cell? ⟨B,6,none⟩=some v6:=
 ⟨h.cell B 0 v0 m0,h.cell B 1 v1 m1,h.cell B 2 v2 m2,h.cell B 3 v3 m3,h.cell B 4 v4 m4,h.cell B 5 v5 m5,h.cell B 6 v6 m6⟩
theorem Held.cells8 {w W:World} {fs:List Fact} (h:Held w fs W) (B:Nat) {v0 v1 v2 v3 v4 v5 v6 v7:Value} (m0:Fact.cell B 0 v0∈fs:=by exact zm) (m1:Fact.cell B 1 v1∈fs:=by exact zm) (m2:Fact.cell B 2 v2∈fs:=by exact zm) (m3:Fact.cell B 3 v3∈fs:=by exact zm) (m4:Fact.cell B 4 v4∈fs:=by exact zm) (m5:Fact.cell B 5 v5∈fs:=by exact zm) (m6:Fact.cell B 6 v6∈fs:=by exact zm) (m7:Fact.cell B 7 v7∈fs:=by exact zm):W.cell? ⟨B,0,none⟩=some v0∧W.cell? ⟨B,1,none⟩=some v1∧W.cell? ⟨B,2,none⟩=some v2∧W.cell? ⟨B,3,none⟩=some v3∧W.cell? ⟨B,4,none⟩=some v4∧W.cell? ⟨B,5,none⟩=some v5∧W.cell? ⟨B,6,none⟩=some v6∧W.cell? ⟨B,7,none⟩=some v7:=
 ⟨h.cell B 0 v0 m0,h.cell B 1 v1 m1,h.cell B 2 v2 m2,h.cell B 3 v3 m3,h.cell B 4 v4 m4,h.cell B 5 v5 m5,h.cell B 6 v6 m6,h.cell B 7 v7 m7⟩
theorem Held.cells9 {w W:World} {fs:List Fact} (h:Held w fs W) (B:Nat) {v0 v1 v2 v3 v4 v5 v6 v7 v8:Value} (m0:Fact.cell B 0 v0∈fs:=by exact zm) (m1:Fact.cell B 1 v1∈fs:=by exact zm) (m2:Fact.cell B 2 v2∈fs:=by exact zm) (m3:Fact.cell B 3 v3∈fs:=by exact zm) (m4:Fact.cell B 4 v4∈fs:=by exact zm) (m5:Fact.cell B 5 v5∈fs:=by exact zm) (m6:Fact.cell B 6 v6∈fs:=by exact zm) (m7:Fact.cell B 7 v7∈fs:=by exact zm) (m8:Fact.cell B 8 v8∈fs:=by exact zm):W.cell? ⟨B,0,none⟩=some v0∧W.cell? ⟨B,1,none⟩=some v1∧W.cell? ⟨B,2,none⟩=some v2∧W.cell? ⟨B,3,none⟩=some v3∧W.cell? ⟨B,4,none⟩=some v4∧W.cell? ⟨B,5,none⟩=some v5∧W.cell? ⟨B,6,none⟩=some v6∧W.cell? ⟨B,7,none⟩=some v7∧W.cell? ⟨B,8,none⟩=some v8:=
 ⟨h.cell B 0 v0 m0,h.cell B 1 v1 m1,h.cell B 2 v2 m2,h.cell B 3 v3 m3,h.cell B 4 v4 m4,h.cell B 5 v5 m5,h.cell B 6 v6 m6,h.cell B 7 v7 m7,h.cell B 8 v8 m8⟩
theorem Held.cells11 {w W:World} {fs:List Fact} (h:Held w fs W) (B:Nat) {v0 v1 v2 v3 v4 v5 v6 v7 v8 v9 v10:Value} (m0:Fact.cell B 0 v0∈fs:=by exact zm) (m1:Fact.cell B 1 v1∈fs:=by exact zm) (m2:Fact.cell B 2 v2∈fs:=by exact zm) (m3:Fact.cell B 3 v3∈fs:=by exact zm) (m4:Fact.cell B 4 v4∈fs:=by exact zm) (m5:Fact.cell B 5 v5∈fs:=by exact zm) (m6:Fact.cell B 6 v6∈fs:=by exact zm) (m7:Fact.cell B 7 v7∈fs:=by exact zm) (m8:Fact.cell B 8 v8∈fs:=by exact zm) (m9:Fact.cell B 9 v9∈fs:=by exact zm) (m10:Fact.cell B 10 v10∈fs:=by exact zm):W.cell? ⟨B,0,none⟩=some v0∧W.cell? ⟨B,1,none⟩=some v1∧W.cell? ⟨B,2,none⟩=some v2∧W.cell? ⟨B,3,none⟩=some v3∧W.cell? ⟨B,4,none⟩=some v4∧W.cell? ⟨B,5,none⟩=some v5∧W.cell? ⟨B,6,none⟩=some v6∧W.cell? ⟨B,7,none⟩=some v7∧W.cell? ⟨B,8,none⟩=some v8∧W.cell? ⟨B,9,none⟩=some v9∧W.cell? ⟨B,10,none⟩=some v10:=
 ⟨h.cell B 0 v0 m0,h.cell B 1 v1 m1,h.cell B 2 v2 m2,h.cell B 3 v3 m3,h.cell B 4 v4 m4,h.cell B 5 v5 m5,h.cell B 6 v6 m6,h.cell B 7 v7 m7,h.cell B 8 v8 m8,h.cell B 9 v9 m9,h.cell B 10 v10 m10⟩
theorem Held.frozens2 {w W:World} {fs:List Fact} (h:Held w fs W) (B:Nat) (m0:Fact.free B 0∈fs:=by exact zm) (m1:Fact.free B 1∈fs:=by exact zm):W.frozen? ⟨B,0,none⟩=false∧W.frozen? ⟨B,1,none⟩=false:=
 ⟨h.frozen B 0 m0,h.frozen B 1 m1⟩
theorem Held.frozens4 {w W:World} {fs:List Fact} (h:Held w fs W) (B:Nat) (m0:Fact.free B 0∈fs:=by exact zm) (m1:Fact.free B 1∈fs:=by exact zm) (m2:Fact.free B 2∈fs:=by exact zm) (m3:Fact.free B 3∈fs:=by exact zm):W.frozen? ⟨B,0,none⟩=false∧W.frozen? ⟨B,1,none⟩=false∧W.frozen? ⟨B,2,none⟩=false∧W.frozen? ⟨B,3,none⟩=false:=
 ⟨h.frozen B 0 m0,h.frozen B 1 m1,h.frozen B 2 m2,h.frozen B 3 m3⟩
theorem Held.frozens7 {w W:World} {fs:List Fact} (h:Held w fs W) (B:Nat) (m0:Fact.free B 0∈fs:=by exact zm) (m1:Fact.free B 1∈fs:=by exact zm) (m2:Fact.free B 2∈fs:=by exact zm) (m3:Fact.free B 3∈fs:=by exact zm) (m4:Fact.free B 4∈fs:=by exact zm) (m5:Fact.free B 5∈fs:=by exact zm) (m6:Fact.free B 6∈fs:=by exact zm):W.frozen? ⟨B,0,none⟩=false∧W.frozen? ⟨B,1,none⟩=false∧W.frozen? ⟨B,2,none⟩=false∧W.frozen? ⟨B,3,none⟩=false∧W.frozen? ⟨B,4,none⟩=false∧W.frozen? ⟨B,5,none⟩=false∧W.frozen? ⟨B,6,none⟩=false:=
 ⟨h.frozen B 0 m0,h.frozen B 1 m1,h.frozen B 2 m2,h.frozen B 3 m3,h.frozen B 4 m4,h.frozen B 5 m5,h.frozen B 6 m6⟩
theorem zT {P:Program} {ops:Array Oper} {Q:Exit→Act→World→Prop} {md:Region.Mode} {S:World→Prop} {oi:Oper} {v:Value} {fuel:Nat} {l:Array Bool} {a:Act} {w:World} (i:Nat)
  (h:wpAnyH P md ops Q S fuel (l.setIfInBounds i true) (a.put oi.dst v) w) (hi:ops[i]?=some oi:=by rfl) (hs:Region.noSelect ops=true:=by kernel_rfl) (hf:Region.free md ops l i=true:=by kernel_rfl) (hr:(Region.ready md ops l).contains i=true:=by kernel_rfl)
  (hQ:∀c a w,Q (.panic c) (a.put oi.dst v) w→Q (.panic c) a w:=by exact fun _ _ _ h=>h) (hw:Region.wanted oi (yielded ops a.tmps)=true:=by rfl)
  (hv:∀w,S w→(execOp a.eval oi).run P w=.ok (.value v) w:=by intro w hSw;(try dsimp only at hSw);go_simp;try with_reducible rfl) (hS:S w:=by assumption):wpAnyH P md ops Q S (fuel+1) l a w:=wpAnyH_take hi hs hf hr hQ (Or.inl ⟨hw,hv⟩) hS h
theorem zP {P:Program} {ops:Array Oper} {Q:Exit→Act→World→Prop} {md:Region.Mode} {S:World→Prop} {oi:Oper} {fuel:Nat} {l:Array Bool} {a:Act} {w:World} (i:Nat) (v:Value)
  (h:wpAnyH P md ops Q S fuel (l.setIfInBounds i true) (a.put oi.dst v) w) (hi:ops[i]?=some oi:=by rfl) (hs:Region.noSelect ops=true:=by kernel_rfl) (hf:Region.free md ops l i=true:=by kernel_rfl) (hr:(Region.ready md ops l).contains i=true:=by kernel_rfl)
  (hQ:∀c a w,Q (.panic c) (a.put oi.dst v) w→Q (.panic c) a w:=by exact fun _ _ _ h=>h) (hw:Region.wanted oi (yielded ops a.tmps)=true:=by rfl)
  (hv:∀w,S w→(execOp a.eval oi).run P w=.ok (.value v) w:=by intro w hSw;(try dsimp only at hSw);go_simp;(try rw[if_pos (by omega)]);(try with_reducible rfl);(try omega)) (hS:S w:=by assumption):wpAnyH P md ops Q S (fuel+1) l a w:=wpAnyH_take hi hs hf hr hQ (Or.inl ⟨hw,hv⟩) hS h
theorem zN {P:Program} {ops:Array Oper} {Q:Exit→Act→World→Prop} {md:Region.Mode} {S:World→Prop} {oi:Oper} {fuel:Nat} {l:Array Bool} {a:Act} {w:World} (i:Nat)
  (h:wpAnyH P md ops Q S fuel (l.setIfInBounds i true) (a.put oi.dst undef) w) (hi:ops[i]?=some oi:=by rfl) (hs:Region.noSelect ops=true:=by kernel_rfl) (hf:Region.free md ops l i=true:=by kernel_rfl) (hr:(Region.ready md ops l).contains i=true:=by kernel_rfl)
  (hQ:∀c a w,Q (.panic c) (a.put oi.dst undef) w→Q (.panic c) a w:=by exact fun _ _ _ h=>h) (hw:Region.wanted oi (yielded ops a.tmps)=false:=by rfl) (hS:S w:=by assumption):wpAnyH P md ops Q S (fuel+1) l a w:=wpAnyH_take hi hs hf hr hQ (Or.inr ⟨hw,rfl⟩) hS h
theorem Held.size {w W:World} {fs:List Fact} (h:Held w fs W):w.heap.size≤W.heap.size:=h.old.size
theorem Held.drewN {w W:World} {fs:List Fact} (h:Held w fs W) (n:Nat):Held w fs (W.drewN n):=
 h.below (zA7 (Below.refl _ _) n)
theorem Held.is {w W:World} {fs:List Fact} (h:Held w fs W) (b o:Nat) (v:Value) (hm:Fact.cell b o v∈fs:=by exact zm):Held w (.is b o::fs) W:=
 h.add (f:=.is b o) (Option.isSome_iff_exists.2 ⟨v,h.cell b o v hm⟩)
def Fact.off (B:Nat):Fact→Prop
 | .cell b _ _=>b≠B
 | .free _ _=>True
 | .is _ _=>True
 | .that P _=>∀(W:World) (o:Nat) (u:Value),P W→P (W.setCell ⟨B,o,none⟩ u)
theorem zqgcx {P:Prop} (h:P:=by
 obtain⟨v,hv⟩:=Option.isSome_iff_exists.1 a
 obtain⟨v',hv'⟩:=cell?_setCell_some (p:=⟨B,o,none⟩) (x:=u) hv
 exact Option.isSome_iff_exists.2 ⟨v',hv'⟩):P:=h
theorem Held.set {w W:World} {fs:List Fact} (h:Held w fs W) (B o:Nat) (u:Value) (hB:w.heap.size≤B) (hoff:∀f∈fs,f.off B):Held w fs (W.setCell ⟨B,o,none⟩ u):=by
 refine⟨h.old.setCell hB _,fun f hf=>?_⟩
 have a:=h.all f hf
 have k:=hoff f hf
 cases f with
 | cell b i v=>exact (World.cell?_setCell_far W ⟨B,o,none⟩ ⟨b,i,none⟩ u (Ne.symm k)).trans a
 | free b i=>exact⟨by simpa using a.1,by simpa [go_sem] using a.2⟩
 | is b i=>
  exact zqgcx
 | that P h=>exact k W o u a
theorem Held.some {w W:World} {fs:List Fact} (h:Held w fs W) (b o:Nat) (hm:Fact.is b o∈fs:=by exact zm):(W.cell? ⟨b,o,none⟩).isSome=true:=h.all _ hm
end Go.Proofs.YtpfgdfpaoldhcaaGreatDoor
