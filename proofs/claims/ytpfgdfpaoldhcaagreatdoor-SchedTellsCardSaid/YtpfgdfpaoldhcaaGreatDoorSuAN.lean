/- Several texts in one: RShown. -/
import Derived.Test.YtpfgdfpaoldhcaaGreatDoorSuAJ
import Derived.Test.YtpfgdfpaoldhcaaGreatDoorSuAM
set_option maxHeartbeats 8000000
set_option maxRecDepth 100000
set_option linter.unusedVariables false
set_option linter.unusedSimpArgs false
namespace Go.Proofs.YtpfgdfpaoldhcaaGreatDoor
open Go.RowKit
theorem zIs (n d:Int) (c:Bool) (w:World) (h:zAi n d=c) :
  Calls Tryz.prog 184 #[.agg #[n,d]] w fun e w'=>e=.returned c∧Below w w w':=by
 subst h;exact zK3 n d w
theorem zN6 (n d p q c:Int) (w:World) (n0:0≤n) (n1:n<9223372036854775808) (d0:0<d) (d1:d<9223372036854775808) (h:rN n d=p∧rD n d=q∧rE n d=c) :
  Calls Tryz.prog 158 #[n,d] w fun e w'=>e=.returned (.tuple #[.agg #[p,q],c])∧Below w w w':=by
 obtain⟨rfl,rfl,rfl⟩:=h;exact zGs n d w n0 n1 d0 d1
theorem zSi (an ad bn bd p q c:Int) (w:World) (ha:zAi an ad=true) (hb:zAi bn bd=true) (h:rN (an*bd+bn*ad) (ad*bd)=p∧rD (an*bd+bn*ad) (ad*bd)=q∧rE (an*bd+bn*ad) (ad*bd)=c) :
  Calls Tryz.prog 159 #[.agg #[an,ad],.agg #[bn,bd]] w fun e w'=>e=.returned (.tuple #[.agg #[p,q],c])∧Below w w w':=by
 obtain⟨rfl,rfl,rfl⟩:=h;exact radd_any an ad bn bd w ha hb
end Go.Proofs.YtpfgdfpaoldhcaaGreatDoor
