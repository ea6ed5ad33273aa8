/- Several texts in one: Right. -/
import Derived.Test.YtpfgdfpaoldhcaaGreatDoorSuAC
import Derived.Test.YtpfgdfpaoldhcaaGreatDoorSuAE
set_option maxHeartbeats 8000000
set_option maxRecDepth 100000
set_option linter.unusedVariables false
set_option linter.unusedSimpArgs false
namespace Go.Proofs.YtpfgdfpaoldhcaaGreatDoor
open Go.RowKit
theorem zqn2q {P:Prop} (h:P:=by
 have t1:decide (n<0)=false:=zx
 have t2:decide (4611686018427387904<n)=false:=zx
 have t3:decide (d<1)=false:=zx
 have t4:decide (4611686018427387904<d)=false:=zx
 have w1:IntKind.u64.wrap n=n:=IntWalk.u64_in _ zo
 have w2:IntKind.u64.wrap d=d:=IntWalk.u64_in _ zo
 clear hg
 go_enter Tryz.func184,Tryz.ntmps184
 go_wp2_with fail
 replace H:=(H.pair w n d 48 rfl)
 with_reducible refine (zEn n d _ zo zo zo zo).mono ?_
 rw[HG.out]
 rintro e w1 ⟨rfl,hb⟩
 replace H:=H.below hb
 clear hb
 go_wp2
 go_ret
 exact⟨rfl,H.old⟩):P:=h
theorem right_y (n d:Int) (w:World) (a:0≤n) (b:n≤4611686018427387904) (c:1≤d) (e:d≤4611686018427387904) (hg:gi n d=1) :
  Calls Tryz.prog 184 #[.agg #[n,d]] w fun e w'=>e=.returned true∧Below w w w':=by
 have H:=Held.start w
 obtain⟨g,HG⟩:∃g,Hid (gi n d=g):=⟨_,zh rfl⟩
 rw[HG.out] at hg
 have tg:(g==1)=true:=beq_iff_eq.2 hg
 exact zqn2q
theorem right_n (n d:Int) (w:World) (a:0≤n) (b:n≤4611686018427387904) (c:1≤d) (e:d≤4611686018427387904) (hg:gi n d≠1) :
  Calls Tryz.prog 184 #[.agg #[n,d]] w fun e w'=>e=.returned false∧Below w w w':=by
 have H:=Held.start w
 obtain⟨g,HG⟩:∃g,Hid (gi n d=g):=⟨_,zh rfl⟩
 rw[HG.out] at hg
 have tg:(g==1)=false:=beq_eq_false_iff_ne.2 hg
 exact zqn2q
theorem right_n1 (n d:Int) (w:World) (a:n<0) :
  Calls Tryz.prog 184 #[.agg #[n,d]] w fun e w'=>e=.returned false∧Below w w w':=by
 have H:=Held.start w
 have t1:decide (n<0)=true:=zx
 go_enter Tryz.func184,Tryz.ntmps184
 exact zqwgq
theorem right_n2 (n d:Int) (w:World) (a:0≤n) (b:4611686018427387904<n) :
  Calls Tryz.prog 184 #[.agg #[n,d]] w fun e w'=>e=.returned false∧Below w w w':=by
 have H:=Held.start w
 have t1:decide (n<0)=false:=zx
 have t2:decide (4611686018427387904<n)=true:=zx
 go_enter Tryz.func184,Tryz.ntmps184
 exact zqwgq
theorem right_n3 (n d:Int) (w:World) (a:0≤n) (b:n≤4611686018427387904) (c:d<1) :
  Calls Tryz.prog 184 #[.agg #[n,d]] w fun e w'=>e=.returned false∧Below w w w':=by
 have H:=Held.start w
 have t1:decide (n<0)=false:=zx
 have t2:decide (4611686018427387904<n)=false:=zx
 have t3:decide (d<1)=true:=zx
 go_enter Tryz.func184,Tryz.ntmps184
 exact zqwgq
theorem right_n4 (n d:Int) (w:World) (a:0≤n) (b:n≤4611686018427387904) (c:1≤d) (e:4611686018427387904<d) :
  Calls Tryz.prog 184 #[.agg #[n,d]] w fun e w'=>e=.returned false∧Below w w w':=by
 have H:=Held.start w
 have t1:decide (n<0)=false:=zx
 have t2:decide (4611686018427387904<n)=false:=zx
 have t3:decide (d<1)=false:=zx
 have t4:decide (4611686018427387904<d)=true:=zx
 go_enter Tryz.func184,Tryz.ntmps184
 exact zqwgq
theorem zK3 (n d:Int) (w:World) :
  Calls Tryz.prog 184 #[.agg #[n,d]] w fun e w'=>e=.returned (zAi n d)∧Below w w w':=by
 have no:¬(0≤n∧n≤4611686018427387904∧1≤d∧d≤4611686018427387904∧gi n d=1)→zAi n d=false:=fun h=>by unfold zAi;exact decide_eq_false h
 by_cases a:n<0
 ·rw[no zo];exact right_n1 n d w a
 by_cases b:4611686018427387904<n
 ·rw[no zo];exact right_n2 n d w zo b
 by_cases c:d<1
 ·rw[no zo];exact right_n3 n d w zo zo c
 by_cases e:4611686018427387904<d
 ·rw[no zo];exact right_n4 n d w zo zo zo e
 by_cases g:gi n d=1
 ·rw[(zBb n d).2 ⟨zo,zo,zo,zo,g⟩];exact right_y n d w zo zo zo zo g
 ·rw[no zo];exact right_n n d w zo zo zo zo g
theorem zK4 (n d:Int) (w:World) (h:zAi n d=true) :
  Calls Tryz.prog 184 #[.agg #[n,d]] w fun e w'=>e=.returned true∧Below w w w':=by
 have:=zK3 n d w;rwa [h] at this
end Go.Proofs.YtpfgdfpaoldhcaaGreatDoor
