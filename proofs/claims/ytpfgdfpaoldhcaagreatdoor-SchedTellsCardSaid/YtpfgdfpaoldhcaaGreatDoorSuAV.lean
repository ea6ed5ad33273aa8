/- Several texts in one: RoFacts, CoNm, CoShown, CoTab, CoWays, DaMem, DaSmall. -/
import Derived.Test.YtpfgdfpaoldhcaaGreatDoorSuAR
import Derived.Test.YtpfgdfpaoldhcaaGreatDoorSuAS
import Derived.Test.YtpfgdfpaoldhcaaGreatDoorSuAK
import Derived.Test.YtpfgdfpaoldhcaaGreatDoorSuAQ
import Derived.Lib.AppendZeros
import Derived.Lib.OwnBridge
import Derived.Maps.AppendAt
set_option maxHeartbeats 8000000
set_option maxRecDepth 100000
set_option linter.unusedVariables false
set_option linter.unusedSimpArgs false
namespace Go.Proofs.YtpfgdfpaoldhcaaGreatDoor
open Go.RowKit
def Names (w:World):Prop:=∀i:Nat,i<5→w.cell? ⟨6,i,none⟩=some (.string (rn i))
def FactsW (w:World):Prop:=Lens w∧Names w
theorem FactsW.below {W W':World} (h:FactsW W) (hb:Below W W W'):FactsW W':=⟨Lens.below h.1 hb,fun i hi=>keep hb (zA0 (h.2 i hi)) (h.2 i hi)⟩
def zAk:Fact:=.that FactsW (fun _ _ hb h=>h.below hb)
theorem Held.factsW {w W:World} {fs:List Fact} (h:Held w fs W) (hm:zAk∈fs:=by exact zm):FactsW W:=h.all _ hm
theorem Held.factsWu {w W:World} {fs:List Fact} (h:Held w fs W) (hm:zAk∈fs:=by exact zm):FactsU W:=(h.factsW hm).1
theorem Held.factsWl {w W:World} {fs:List Fact} (h:Held w fs W) (hm:zAk∈fs:=by exact zm):Lens W:=(h.factsW hm).1
theorem zQ9 (n:Int) (b:Bool) (w:World) (h:decide (1≤n∧n≤3652059)=b):Calls Tryz.prog 161 #[n] w fun e w'=>e=.returned b∧w=w':=by
 have HB:=zh h
 clear h
 go_enter Tryz.func161,Tryz.ntmps161
 exact zq8dv
theorem Held.calR {w W:World} {fs:List Fact} {c:Ca} {aR:Option Addr} {cR:Nat} {aD:Option Addr} {cD:Nat} (h:Held w fs W) (hm:calF c aR cR aD cD∈fs:=by exact zm):RulesAt W aR c.R c.nr cR:=(h.cal hm).1
theorem Held.calD {w W:World} {fs:List Fact} {c:Ca} {aR:Option Addr} {cR:Nat} {aD:Option Addr} {cD:Nat} (h:Held w fs W) (hm:calF c aR cR aD cD∈fs:=by exact zm):DaysAt W aD c.X c.nd cD:=(h.cal hm).2
def zTe (ao:Option Addr) (R:Nat→Ru) (n cap:Nat):Fact:=.that (fun W=>RulesAt W ao R n cap) (fun _ _ hb h=>h.below hb)
theorem Held.rules {w W:World} {fs:List Fact} {ao:Option Addr} {R:Nat→Ru} {n cap:Nat} (h:Held w fs W) (hm:zTe ao R n cap∈fs:=by exact zm):RulesAt W ao R n cap:=h.all _ hm
def Ca.Few (c:Ca):Prop:=c.nr≤12∧c.nd≤60
theorem Ca.Few.small {c:Ca} (h:c.Few):c.Small:=⟨Nat.le_trans h.1 zd,Nat.le_trans h.2 zd⟩
def nm (k:Int):ByteArray:=if k=0 then ⟨#[51,48,47,51,54,48]⟩ else if k=1 then ⟨#[51,48,101,47,51,54,48]⟩ else if k=2 then ⟨#[51,48,101,47,51,54,48,105,115,100,97]⟩ else if k=3 then ⟨#[97,99,116,47,51,54,48]⟩ else if k=4 then ⟨#[97,99,116,47,51,54,53,102]⟩ else if k=5 then ⟨#[97,99,116,47,97,99,116]⟩ else if k=6 then ⟨#[97,99,116,47,97,99,116,105,99,109,97]⟩ else ⟨#[]⟩
def kd (s:ByteArray):Int × Int:=if ((nm 0).toList==s.toList)=true then (0,0) else if ((nm 1).toList==s.toList)=true then (1,0) else if ((nm 2).toList==s.toList)=true then (2,0) else if ((nm 3).toList==s.toList)=true then (3,0) else if ((nm 4).toList==s.toList)=true then (4,0) else if ((nm 5).toList==s.toList)=true then (5,0) else if ((nm 6).toList==s.toList)=true then (6,0) else (0,10)
theorem nm_out (k:Int) (h:k<0∨6<k):nm k=⟨#[]⟩:=by
 unfold nm
 rw[if_neg zo,if_neg zo,if_neg zo,if_neg zo,if_neg zo,if_neg zo,if_neg zo]
theorem of7 (k:Int) (h:0≤k∧k≤6):k=0∨k=1∨k=2∨k=3∨k=4∨k=5∨k=6:=zo
def FactsC (w:World):Prop:=Lens w∧Errs_ac w∧Errs w
theorem FactsC.below {W W':World} (h:FactsC W) (hb:Below W W W'):FactsC W':=⟨h.1.below hb,h.2.1.below hb,h.2.2.below hb⟩
def zBj:Fact:=.that FactsC (fun _ _ hb h=>h.below hb)
theorem Held.factsC {w W:World} {fs:List Fact} (h:Held w fs W) (hm:zBj∈fs:=by exact zm):FactsC W:=h.all _ hm
structure TabAt (B b1 b3 b4 b5:Nat) (W:World):Prop where
 n0:W.cell? ⟨B,0,none⟩=some (.string (nm 0))
 p0:W.cell? ⟨B,1,none⟩=some (.func (.func 127) #[] #[])
 n1:W.cell? ⟨B,2,none⟩=some (.string (nm 1))
 p1:W.cell? ⟨B,3,none⟩=some (.func (.func 149) #[] #[.pointer (some ⟨b1,0,none⟩)])
 n2:W.cell? ⟨B,4,none⟩=some (.string (nm 2))
 p2:W.cell? ⟨B,5,none⟩=some (.func (.func 130) #[] #[])
 n3:W.cell? ⟨B,6,none⟩=some (.string (nm 3))
 p3:W.cell? ⟨B,7,none⟩=some (.func (.func 149) #[] #[.pointer (some ⟨b3,0,none⟩)])
 n4:W.cell? ⟨B,8,none⟩=some (.string (nm 4))
 p4:W.cell? ⟨B,9,none⟩=some (.func (.func 149) #[] #[.pointer (some ⟨b4,0,none⟩)])
 n5:W.cell? ⟨B,10,none⟩=some (.string (nm 5))
 p5:W.cell? ⟨B,11,none⟩=some (.func (.func 149) #[] #[.pointer (some ⟨b5,0,none⟩)])
 n6:W.cell? ⟨B,12,none⟩=some (.string (nm 6))
 p6:W.cell? ⟨B,13,none⟩=some (.func (.func 134) #[] #[])
 i1:W.cell? ⟨b1,0,none⟩=some (.func (.func 129) #[] #[])
 i3:W.cell? ⟨b3,0,none⟩=some (.func (.func 131) #[] #[])
 i4:W.cell? ⟨b4,0,none⟩=some (.func (.func 132) #[] #[])
 i5:W.cell? ⟨b5,0,none⟩=some (.func (.func 133) #[] #[])
theorem TabAt.below {B b1 b3 b4 b5:Nat} {W W':World} (h:TabAt B b1 b3 b4 b5 W) (hb:Below W W W'):TabAt B b1 b3 b4 b5 W':=
 ⟨keep hb (zA0 h.n0) h.n0,keep hb (zA0 h.p0) h.p0,keep hb (zA0 h.n1) h.n1,keep hb (zA0 h.p1) h.p1,keep hb (zA0 h.n2) h.n2,keep hb (zA0 h.p2) h.p2,keep hb (zA0 h.n3) h.n3,keep hb (zA0 h.p3) h.p3,keep hb (zA0 h.n4) h.n4,keep hb (zA0 h.p4) h.p4,keep hb (zA0 h.n5) h.n5,keep hb (zA0 h.p5) h.p5,keep hb (zA0 h.n6) h.n6,keep hb (zA0 h.p6) h.p6,keep hb (zA0 h.i1) h.i1,keep hb (zA0 h.i3) h.i3,keep hb (zA0 h.i4) h.i4,keep hb (zA0 h.i5) h.i5⟩
theorem zEi (f:FuncId) (w:World):Calls Tryz.prog 128 #[.func (.func f) #[] #[]] w fun e w'=>e=.returned (.func (.func 149) #[] #[.pointer (some ⟨w,0,none⟩)])∧w'=w.alloc (.cells #[.func (.func f) #[] #[]] 159):=by
 have hmf:=zHM
 go_enter Tryz.func128,Tryz.ntmps128
 go_wp2_with fail
 go_ret
 exact⟨rfl,rfl⟩
theorem zAq {W:World} {B:Nat} (hB:W.heap.size=B) {cs:Array Value} {T:TypeId} {j:Nat} {v:Value} (h:cs[j]?=some v):(W.alloc (.cells cs T)).cell? ⟨B,j,none⟩=some v:=by
 subst hB
 simp[World.cell?_alloc_new,h]
theorem nm_0:nm 0=⟨#[51,48,47,51,54,48]⟩:=by simp[nm]
theorem nm_1:nm 1=⟨#[51,48,101,47,51,54,48]⟩:=by simp[nm]
theorem nm_2:nm 2=⟨#[51,48,101,47,51,54,48,105,115,100,97]⟩:=by simp[nm]
theorem nm_3:nm 3=⟨#[97,99,116,47,51,54,48]⟩:=by simp[nm]
theorem nm_4:nm 4=⟨#[97,99,116,47,51,54,53,102]⟩:=by simp[nm]
theorem nm_5:nm 5=⟨#[97,99,116,47,97,99,116]⟩:=by simp[nm]
theorem nm_6:nm 6=⟨#[97,99,116,47,97,99,116,105,99,109,97]⟩:=by simp[nm]
theorem zCj (w:World):Calls Tryz.prog 111 #[] w fun e w'=>∃B b1 b3 b4 b5,e=.returned (.slice (some ⟨B,0,none⟩) 7 7)∧TabAt B b1 b3 b4 b5 w'∧Below w w w':=by
 have H:=Held.start w
 go_enter Tryz.func111,Tryz.ntmps111
 go_wp2_with fail
 with_reducible refine (zEi 129 w).mono ?_
 rintro e w1 ⟨rfl,rfl⟩
 replace H:=H.lone w (.func (.func 129) #[] #[]) 159 zs
 go_wp2_with fail
 with_reducible refine (zEi 131 _).mono ?_
 rintro e w3 ⟨rfl,rfl⟩
 replace H:=H.lone (w+1) (.func (.func 131) #[] #[]) 159 zs
 go_wp2_with fail
 with_reducible refine (zEi 132 _).mono ?_
 rintro e w4 ⟨rfl,rfl⟩
 replace H:=H.lone (w.heap.size+1+1) (.func (.func 132) #[] #[]) 159 zs
 go_wp2_with fail
 with_reducible refine (zEi 133 _).mono ?_
 rintro e w5 ⟨rfl,rfl⟩
 replace H:=H.lone (w.heap.size+1+1+1) (.func (.func 133) #[] #[]) 159 zs
 go_wp2_with fail
 go_ret
 have M:=H.alloc (.cells #[.string ⟨#[51,48,47,51,54,48]⟩,.func (.func 127) #[] #[],.string ⟨#[51,48,101,47,51,54,48]⟩,.func (.func 149) #[] #[.pointer (some ⟨w,0,none⟩)],.string ⟨#[51,48,101,47,51,54,48,105,115,100,97]⟩,.func (.func 130) #[] #[],.string ⟨#[97,99,116,47,51,54,48]⟩,.func (.func 149) #[] #[.pointer (some ⟨w+1,0,none⟩)],.string ⟨#[97,99,116,47,51,54,53,102]⟩,.func (.func 149) #[] #[.pointer (some ⟨w.heap.size+1+1,0,none⟩)],.string ⟨#[97,99,116,47,97,99,116]⟩,.func (.func 149) #[] #[.pointer (some ⟨w.heap.size+1+1+1,0,none⟩)],.string ⟨#[97,99,116,47,97,99,116,105,99,109,97]⟩,.func (.func 134) #[] #[]] 130)
 refine⟨w.heap.size+1+1+1+1,w.heap.size,w.heap.size+1,w.heap.size+1+1,w.heap.size+1+1+1,rfl,⟨by rw[nm_0];exact zAq zs rfl,zAq zs rfl,by rw[nm_1];exact zAq zs rfl,zAq zs rfl,by rw[nm_2];exact zAq zs rfl,zAq zs rfl,by rw[nm_3];exact zAq zs rfl,zAq zs rfl,by rw[nm_4];exact zAq zs rfl,zAq zs rfl,by rw[nm_5];exact zAq zs rfl,zAq zs rfl,by rw[nm_6];exact zAq zs rfl,zAq zs rfl,M.c,M.c,M.c,M.c⟩,M.old⟩
theorem find_0 (w:World):Calls Tryz.prog 97 #[(0:Int)] w fun e w'=>e=.returned (.tuple #[.agg #[.string (nm 0),.func (.func 127) #[] #[]],true])∧Below w w w':=by
 have sf:=zSF
 have H:=Held.start w
 go_enter Tryz.func97,Tryz.ntmps97
 go_wp2_with fail
 replace H:=H.pair w (.string ⟨#[]⟩) .nilFunc 130 rfl
 with_reducible refine (zCj _).mono ?_
 rintro e w1 ⟨B,b1,b3,b4,b5,rfl,T,hb⟩
 replace H:=H.below hb
 clear hb
 obtain⟨cz0,cz1⟩:=H.cells2 w
 have lz:=zA0 cz0
 obtain⟨fz0,fz1⟩:=H.frozens2 w
 have cn:=T.n0
 have cp:=T.p0
 have lB:=zA0 cn
 clear T
 have HK:=H.old
 clear H
 go_wp2_with fail
 exact bodyPost_ret (v:=.tuple #[.agg #[.string (nm 0),.func (.func 127) #[] #[]],true]) (by simp[results,Tryz.results97,go_sem,cz0,cz1,lz]) rfl ⟨rfl,(by repeat (first | exact HK | refine Below.drew ?_ | refine Below.setCell ?_ zw _ | refine Below.alloc ?_ zw _))⟩
theorem find_1 (w:World):Calls Tryz.prog 97 #[(1:Int)] w fun e w'=>∃b1,e=.returned (.tuple #[.agg #[.string (nm 1),.func (.func 149) #[] #[.pointer (some ⟨b1,0,none⟩)]],true])∧w'.cell? ⟨b1,0,none⟩=some (.func (.func 129) #[] #[])∧Below w w w':=by
 have sf:=zSF
 have H:=Held.start w
 go_enter Tryz.func97,Tryz.ntmps97
 go_wp2_with fail
 replace H:=H.pair w (.string ⟨#[]⟩) .nilFunc 130 rfl
 with_reducible refine (zCj _).mono ?_
 rintro e w1 ⟨B,b1,b3,b4,b5,rfl,T,hb⟩
 replace H:=H.below hb
 clear hb
 obtain⟨cz0,cz1⟩:=H.cells2 w
 have lz:=zA0 cz0
 obtain⟨fz0,fz1⟩:=H.frozens2 w
 have cn:=T.n1
 have cp:=T.p1
 have lB:=zA0 cn
 have ci:=T.i1
 have li:=zA0 ci
 have nb:b1≠w.heap.size:=by
  rintro rfl
  rw[ci] at cz0
  cases cz0
 clear T
 have HK:=H.old
 clear H
 go_wp2_with fail
 refine bodyPost_ret (v:=.tuple #[.agg #[.string (nm 1),.func (.func 149) #[] #[.pointer (some ⟨b1,0,none⟩)]],true]) (by simp[results,Tryz.results97,go_sem,cz0,cz1,lz]) rfl ⟨_,rfl,?_,(by repeat (first | exact HK | refine Below.drew ?_ | refine Below.setCell ?_ zw _ | refine Below.alloc ?_ zw _))⟩
 rw[World.cell?_setCell_far _ _ ⟨b1,0,none⟩ _ (Ne.symm nb),World.cell?_setCell_far _ _ ⟨b1,0,none⟩ _ (Ne.symm nb)]
 exact ci
theorem find_2 (w:World):Calls Tryz.prog 97 #[(2:Int)] w fun e w'=>e=.returned (.tuple #[.agg #[.string (nm 2),.func (.func 130) #[] #[]],true])∧Below w w w':=by
 have sf:=zSF
 have H:=Held.start w
 go_enter Tryz.func97,Tryz.ntmps97
 go_wp2_with fail
 replace H:=H.pair w (.string ⟨#[]⟩) .nilFunc 130 rfl
 with_reducible refine (zCj _).mono ?_
 rintro e w1 ⟨B,b1,b3,b4,b5,rfl,T,hb⟩
 replace H:=H.below hb
 clear hb
 obtain⟨cz0,cz1⟩:=H.cells2 w
 have lz:=zA0 cz0
 obtain⟨fz0,fz1⟩:=H.frozens2 w
 have cn:=T.n2
 have cp:=T.p2
 have lB:=zA0 cn
 clear T
 have HK:=H.old
 clear H
 go_wp2_with fail
 exact bodyPost_ret (v:=.tuple #[.agg #[.string (nm 2),.func (.func 130) #[] #[]],true]) (by simp[results,Tryz.results97,go_sem,cz0,cz1,lz]) rfl ⟨rfl,(by repeat (first | exact HK | refine Below.drew ?_ | refine Below.setCell ?_ zw _ | refine Below.alloc ?_ zw _))⟩
theorem find_3 (w:World):Calls Tryz.prog 97 #[(3:Int)] w fun e w'=>∃b3,e=.returned (.tuple #[.agg #[.string (nm 3),.func (.func 149) #[] #[.pointer (some ⟨b3,0,none⟩)]],true])∧w'.cell? ⟨b3,0,none⟩=some (.func (.func 131) #[] #[])∧Below w w w':=by
 have sf:=zSF
 have H:=Held.start w
 go_enter Tryz.func97,Tryz.ntmps97
 go_wp2_with fail
 replace H:=H.pair w (.string ⟨#[]⟩) .nilFunc 130 rfl
 with_reducible refine (zCj _).mono ?_
 rintro e w1 ⟨B,b1,b3,b4,b5,rfl,T,hb⟩
 replace H:=H.below hb
 clear hb
 obtain⟨cz0,cz1⟩:=H.cells2 w
 have lz:=zA0 cz0
 obtain⟨fz0,fz1⟩:=H.frozens2 w
 have cn:=T.n3
 have cp:=T.p3
 have lB:=zA0 cn
 have ci:=T.i3
 have li:=zA0 ci
 have nb:b3≠w.heap.size:=by
  rintro rfl
  rw[ci] at cz0
  cases cz0
 clear T
 have HK:=H.old
 clear H
 go_wp2_with fail
 refine bodyPost_ret (v:=.tuple #[.agg #[.string (nm 3),.func (.func 149) #[] #[.pointer (some ⟨b3,0,none⟩)]],true]) (by simp[results,Tryz.results97,go_sem,cz0,cz1,lz]) rfl ⟨_,rfl,?_,(by repeat (first | exact HK | refine Below.drew ?_ | refine Below.setCell ?_ zw _ | refine Below.alloc ?_ zw _))⟩
 rw[World.cell?_setCell_far _ _ ⟨b3,0,none⟩ _ (Ne.symm nb),World.cell?_setCell_far _ _ ⟨b3,0,none⟩ _ (Ne.symm nb)]
 exact ci
theorem find_4 (w:World):Calls Tryz.prog 97 #[(4:Int)] w fun e w'=>∃b4,e=.returned (.tuple #[.agg #[.string (nm 4),.func (.func 149) #[] #[.pointer (some ⟨b4,0,none⟩)]],true])∧w'.cell? ⟨b4,0,none⟩=some (.func (.func 132) #[] #[])∧Below w w w':=by
 have sf:=zSF
 have H:=Held.start w
 go_enter Tryz.func97,Tryz.ntmps97
 go_wp2_with fail
 replace H:=H.pair w (.string ⟨#[]⟩) .nilFunc 130 rfl
 with_reducible refine (zCj _).mono ?_
 rintro e w1 ⟨B,b1,b3,b4,b5,rfl,T,hb⟩
 replace H:=H.below hb
 clear hb
 obtain⟨cz0,cz1⟩:=H.cells2 w
 have lz:=zA0 cz0
 obtain⟨fz0,fz1⟩:=H.frozens2 w
 have cn:=T.n4
 have cp:=T.p4
 have lB:=zA0 cn
 have ci:=T.i4
 have li:=zA0 ci
 have nb:b4≠w.heap.size:=by
  rintro rfl
  rw[ci] at cz0
  cases cz0
 clear T
 have HK:=H.old
 clear H
 go_wp2_with fail
 refine bodyPost_ret (v:=.tuple #[.agg #[.string (nm 4),.func (.func 149) #[] #[.pointer (some ⟨b4,0,none⟩)]],true]) (by simp[results,Tryz.results97,go_sem,cz0,cz1,lz]) rfl ⟨_,rfl,?_,(by repeat (first | exact HK | refine Below.drew ?_ | refine Below.setCell ?_ zw _ | refine Below.alloc ?_ zw _))⟩
 rw[World.cell?_setCell_far _ _ ⟨b4,0,none⟩ _ (Ne.symm nb),World.cell?_setCell_far _ _ ⟨b4,0,none⟩ _ (Ne.symm nb)]
 exact ci
theorem find_5 (w:World):Calls Tryz.prog 97 #[(5:Int)] w fun e w'=>∃b5,e=.returned (.tuple #[.agg #[.string (nm 5),.func (.func 149) #[] #[.pointer (some ⟨b5,0,none⟩)]],true])∧w'.cell? ⟨b5,0,none⟩=some (.func (.func 133) #[] #[])∧Below w w w':=by
 have sf:=zSF
 have H:=Held.start w
 go_enter Tryz.func97,Tryz.ntmps97
 go_wp2_with fail
 replace H:=H.pair w (.string ⟨#[]⟩) .nilFunc 130 rfl
 with_reducible refine (zCj _).mono ?_
 rintro e w1 ⟨B,b1,b3,b4,b5,rfl,T,hb⟩
 replace H:=H.below hb
 clear hb
 obtain⟨cz0,cz1⟩:=H.cells2 w
 have lz:=zA0 cz0
 obtain⟨fz0,fz1⟩:=H.frozens2 w
 have cn:=T.n5
 have cp:=T.p5
 have lB:=zA0 cn
 have ci:=T.i5
 have li:=zA0 ci
 have nb:b5≠w.heap.size:=by
  rintro rfl
  rw[ci] at cz0
  cases cz0
 clear T
 have HK:=H.old
 clear H
 go_wp2_with fail
 refine bodyPost_ret (v:=.tuple #[.agg #[.string (nm 5),.func (.func 149) #[] #[.pointer (some ⟨b5,0,none⟩)]],true]) (by simp[results,Tryz.results97,go_sem,cz0,cz1,lz]) rfl ⟨_,rfl,?_,(by repeat (first | exact HK | refine Below.drew ?_ | refine Below.setCell ?_ zw _ | refine Below.alloc ?_ zw _))⟩
 rw[World.cell?_setCell_far _ _ ⟨b5,0,none⟩ _ (Ne.symm nb),World.cell?_setCell_far _ _ ⟨b5,0,none⟩ _ (Ne.symm nb)]
 exact ci
theorem find_6 (w:World):Calls Tryz.prog 97 #[(6:Int)] w fun e w'=>e=.returned (.tuple #[.agg #[.string (nm 6),.func (.func 134) #[] #[]],true])∧Below w w w':=by
 have sf:=zSF
 have H:=Held.start w
 go_enter Tryz.func97,Tryz.ntmps97
 go_wp2_with fail
 replace H:=H.pair w (.string ⟨#[]⟩) .nilFunc 130 rfl
 with_reducible refine (zCj _).mono ?_
 rintro e w1 ⟨B,b1,b3,b4,b5,rfl,T,hb⟩
 replace H:=H.below hb
 clear hb
 obtain⟨cz0,cz1⟩:=H.cells2 w
 have lz:=zA0 cz0
 obtain⟨fz0,fz1⟩:=H.frozens2 w
 have cn:=T.n6
 have cp:=T.p6
 have lB:=zA0 cn
 clear T
 have HK:=H.old
 clear H
 go_wp2_with fail
 exact bodyPost_ret (v:=.tuple #[.agg #[.string (nm 6),.func (.func 134) #[] #[]],true]) (by simp[results,Tryz.results97,go_sem,cz0,cz1,lz]) rfl ⟨rfl,(by repeat (first | exact HK | refine Below.drew ?_ | refine Below.setCell ?_ zw _ | refine Below.alloc ?_ zw _))⟩
theorem zq5yt {P:Prop} (h:P:=by
 go_wp2_with fail
 exact bodyPost_ret (v:=.tuple #[.agg #[.string ⟨#[]⟩,.nilFunc],false]) (by simp[results,Tryz.results97,go_sem,cz0,cz1,lz]) rfl ⟨rfl,(by repeat (first | exact HK | refine Below.drew ?_ | refine Below.setCell ?_ zw _ | refine Below.alloc ?_ zw _))⟩):P:=h
theorem zMs (k:Int) (w:World) (hk:k<0∨6<k):Calls Tryz.prog 97 #[k] w fun e w'=>e=.returned (.tuple #[.agg #[.string ⟨#[]⟩,.nilFunc],false])∧Below w w w':=by
 have sf:∀(a:Addr) (W:World),(store a .nilFunc).run Tryz.prog W=stored Tryz.prog W a .nilFunc .plain:=fun a W=>run_store _ W a _ _ rfl
 have H:=Held.start w
 go_enter Tryz.func97,Tryz.ntmps97
 go_wp2_with fail
 replace H:=H.pair w (.string ⟨#[]⟩) .nilFunc 130 rfl
 with_reducible refine (zCj _).mono ?_
 rintro e w1 ⟨B,b1,b3,b4,b5,rfl,T,hb⟩
 replace H:=H.below hb
 clear hb
 obtain⟨cz0,cz1⟩:=H.cells2 w
 have lz:=zA0 cz0
 obtain⟨fz0,fz1⟩:=H.frozens2 w
 clear T
 have HK:=H.old
 clear H
 by_cases h:k<0
 ·have t1:decide (k<0)=true:=zx
  exact zq5yt
 ·have t1:decide (k<0)=false:=zx
  have t2:decide (k≥7)=true:=zx
  exact zq5yt
theorem cname_0 (w:World):Calls Tryz.prog 120 #[(0:Int)] w fun e w'=>e=.returned (.string (nm 0))∧Below w w w':=by
 have sf:=zSF
 have H:=Held.start w
 go_enter Tryz.func120,Tryz.ntmps120
 go_wp2_with fail
 revert H
 with_reducible refine zG (fun _=>find_0 _) ?_
 intro w1 H
 go_wp2_with fail
 go_ret
 exact⟨rfl,(H.alloc _).old⟩
theorem zqxpo {P:Prop} (h:P:=by
 rintro e w1 ⟨b,rfl,-,hb⟩
 replace H:=H.below hb
 clear hb
 go_wp2_with fail
 go_ret
 exact⟨rfl,(H.alloc _).old⟩):P:=h
theorem cname_1 (w:World):Calls Tryz.prog 120 #[(1:Int)] w fun e w'=>e=.returned (.string (nm 1))∧Below w w w':=by
 have sf:=zSF
 have H:=Held.start w
 go_enter Tryz.func120,Tryz.ntmps120
 go_wp2_with fail
 with_reducible refine (find_1 _).mono ?_
 exact zqxpo
theorem cname_2 (w:World):Calls Tryz.prog 120 #[(2:Int)] w fun e w'=>e=.returned (.string (nm 2))∧Below w w w':=by
 have sf:=zSF
 have H:=Held.start w
 go_enter Tryz.func120,Tryz.ntmps120
 go_wp2_with fail
 revert H
 with_reducible refine zG (fun _=>find_2 _) ?_
 intro w1 H
 go_wp2_with fail
 go_ret
 exact⟨rfl,(H.alloc _).old⟩
theorem cname_3 (w:World):Calls Tryz.prog 120 #[(3:Int)] w fun e w'=>e=.returned (.string (nm 3))∧Below w w w':=by
 have sf:=zSF
 have H:=Held.start w
 go_enter Tryz.func120,Tryz.ntmps120
 go_wp2_with fail
 with_reducible refine (find_3 _).mono ?_
 exact zqxpo
theorem cname_4 (w:World):Calls Tryz.prog 120 #[(4:Int)] w fun e w'=>e=.returned (.string (nm 4))∧Below w w w':=by
 have sf:=zSF
 have H:=Held.start w
 go_enter Tryz.func120,Tryz.ntmps120
 go_wp2_with fail
 with_reducible refine (find_4 _).mono ?_
 exact zqxpo
theorem cname_5 (w:World):Calls Tryz.prog 120 #[(5:Int)] w fun e w'=>e=.returned (.string (nm 5))∧Below w w w':=by
 have sf:=zSF
 have H:=Held.start w
 go_enter Tryz.func120,Tryz.ntmps120
 go_wp2_with fail
 with_reducible refine (find_5 _).mono ?_
 exact zqxpo
theorem cname_6 (w:World):Calls Tryz.prog 120 #[(6:Int)] w fun e w'=>e=.returned (.string (nm 6))∧Below w w w':=by
 have sf:=zSF
 have H:=Held.start w
 go_enter Tryz.func120,Tryz.ntmps120
 go_wp2_with fail
 revert H
 with_reducible refine zG (fun _=>find_6 _) ?_
 intro w1 H
 go_wp2_with fail
 go_ret
 exact⟨rfl,(H.alloc _).old⟩
theorem zQk (k:Int) (w:World) (hk:k<0∨6<k):Calls Tryz.prog 120 #[k] w fun e w'=>e=.returned (.string (nm k))∧Below w w w':=by
 rw[nm_out k hk]
 have sf:∀(a:Addr) (W:World),(store a .nilFunc).run Tryz.prog W=stored Tryz.prog W a .nilFunc .plain:=fun a W=>run_store _ W a _ _ rfl
 have H:=Held.start w
 go_enter Tryz.func120,Tryz.ntmps120
 go_wp2_with fail
 revert H
 with_reducible refine zG (fun _=>zMs k _ hk) ?_
 intro w1 H
 go_wp2_with fail
 go_ret
 exact⟨rfl,(H.alloc _).old⟩
theorem zQj (k:Int) (w:World):Calls Tryz.prog 120 #[k] w fun e w'=>e=.returned (.string (nm k))∧Below w w w':=by
 by_cases h:k<0∨6<k
 ·exact zQk k w h
 ·rcases of7 k zo with rfl | rfl | rfl | rfl | rfl | rfl | rfl
  ·exact cname_0 w
  ·exact cname_1 w
  ·exact cname_2 w
  ·exact cname_3 w
  ·exact cname_4 w
  ·exact cname_5 w
  ·exact cname_6 w
theorem FactsC.lens {W:World} (h:FactsC W):Lens W:=h.1
theorem FactsC.facts_ac {W:World} (h:FactsC W):Facts_ac W:=⟨h.1,h.2.1⟩
theorem FactsC.facts {W:World} (h:FactsC W):Facts W:=⟨h.1,h.2.2⟩
theorem tell_0 (a b:Int) (t:Bool) (en f:Int) (ao:Option Addr) (n cap:Nat) (X:Nat→Int) (p q c:Int) (w:World) (hF:FactsC w) (h:zBd (uX t) a b p q c):Calls Tryz.prog 127 #[a,b,.agg #[t,en,f,.slice ao n cap]] w fun e w'=>e=.returned (.tuple #[.agg #[p,q],c])∧Below w w w':=by
 have C:=zh (fun (v:World) (hv:Lens v)=>zMf.us a b p q c t v hv h)
 have H:=(Held.start w).add (f:=zBj) hF
 clear hF h
 go_enter Tryz.func127,Tryz.ntmps127
 go_wp2_with fail
 replace H:=H.quad w t en f (.slice ao n cap) 33 rfl
 replace H:=H.pair (w+1) (0:Int) (0:Int) 48 zs
 revert H
 with_reducible refine zG (fun H=>C.out _ (H.factsC).lens) ?_
 intro w1 H
 obtain⟨cz0,cz1⟩:=H.cells2 (w+1)
 have lz:=zA0 cz0
 obtain⟨fz0,fz1⟩:=H.frozens2 (w+1)
 have HK:=H.old
 clear H
 go_wp2_with fail
 exact bodyPost_ret (v:=.tuple #[.agg #[p,q],c]) (by simp[results,Tryz.results127,go_sem,cz0,cz1,lz]) rfl ⟨rfl,by repeat (first | exact HK | refine Below.drew ?_ | refine Below.setCell ?_ zw _ | refine Below.alloc ?_ zw _)⟩
theorem zq5fq {P:Prop} (h:P:=by
 intro w1 H
 obtain⟨cz0,cz1⟩:=H.cells2 (w+1)
 have lz:=zA0 cz0
 obtain⟨fz0,fz1⟩:=H.frozens2 (w+1)
 have HK:=H.old
 clear H
 go_wp2_with fail
 exact bodyPost_ret (v:=.tuple #[.agg #[p,q],c]) (by simp[results,Tryz.results149,go_sem,cz0,cz1,lz]) rfl ⟨rfl,by repeat (first | exact HK | refine Below.drew ?_ | refine Below.setCell ?_ zw _ | refine Below.alloc ?_ zw _)⟩):P:=h
theorem tell_1 (B:Nat) (a b:Int) (t:Bool) (en f:Int) (ao:Option Addr) (n cap:Nat) (X:Nat→Int) (p q c:Int) (w:World) (hF:FactsC w) (hB:w.cell? ⟨B,0,none⟩=some (.func (.func 129) #[] #[])) (h:zBd eX a b p q c):Calls Tryz.prog 149 #[a,b,.agg #[t,en,f,.slice ao n cap],.pointer (some ⟨B,0,none⟩)] w fun e w'=>e=.returned (.tuple #[.agg #[p,q],c])∧Below w w w':=by
 have C:=zh (fun (v:World) (hv:Lens v)=>zMf.e a b p q c v hv h)
 have H:=((Held.start w).add (f:=zBj) hF).add (f:=.cell B 0 (.func (.func 129) #[] #[])) hB
 clear hF h
 have lB:=zA0 hB
 go_enter Tryz.func149,Tryz.ntmps149
 go_wp2_with fail
 replace H:=H.quad w t en f (.slice ao n cap) 33 rfl
 replace H:=H.pair (w+1) (0:Int) (0:Int) 48 zs
 clear hB lB
 revert H
 with_reducible refine zG (fun H=>C.out _ (H.factsC).lens) ?_
 exact zq5fq
theorem tell_2 (a b:Int) (t:Bool) (en f:Int) (ao:Option Addr) (n cap:Nat) (X:Nat→Int) (p q c:Int) (w:World) (hF:FactsC w) (h:zBd (iX (decide (b=en))) a b p q c):Calls Tryz.prog 130 #[a,b,.agg #[t,en,f,.slice ao n cap]] w fun e w'=>e=.returned (.tuple #[.agg #[p,q],c])∧Below w w w':=by
 have C:=zh (fun (v:World) (hv:Lens v)=>zMf.isda a b en p q c v hv h)
 have H:=(Held.start w).add (f:=zBj) hF
 clear hF h
 go_enter Tryz.func130,Tryz.ntmps130
 go_wp2_with fail
 replace H:=H.quad w t en f (.slice ao n cap) 33 rfl
 replace H:=H.pair (w+1) (0:Int) (0:Int) 48 zs
 revert H
 with_reducible refine zG (fun H=>C.out _ (H.factsC).lens) ?_
 intro w1 H
 obtain⟨cz0,cz1⟩:=H.cells2 (w+1)
 have lz:=zA0 cz0
 obtain⟨fz0,fz1⟩:=H.frozens2 (w+1)
 have HK:=H.old
 clear H
 go_wp2_with fail
 exact bodyPost_ret (v:=.tuple #[.agg #[p,q],c]) (by simp[results,Tryz.results130,go_sem,cz0,cz1,lz]) rfl ⟨rfl,by repeat (first | exact HK | refine Below.drew ?_ | refine Below.setCell ?_ zw _ | refine Below.alloc ?_ zw _)⟩
theorem zq3yn {P:Prop} (h:P:=by
 clear hF h
 have lB:=zA0 hB
 go_enter Tryz.func149,Tryz.ntmps149
 go_wp2_with fail
 replace H:=H.quad w t en f (.slice ao n cap) 33 rfl
 replace H:=H.pair (w+1) (0:Int) (0:Int) 48 zs
 clear hB lB
 revert H
 with_reducible refine zG (fun H=>C.out _ (H.factsC).facts_ac) ?_
 exact zq5fq):P:=h
theorem tell_3 (B:Nat) (a b:Int) (t:Bool) (en f:Int) (ao:Option Addr) (n cap:Nat) (X:Nat→Int) (p q c:Int) (w:World) (hF:FactsC w) (hB:w.cell? ⟨B,0,none⟩=some (.func (.func 131) #[] #[])) (h:AcIs aX 360 a b p q c):Calls Tryz.prog 149 #[a,b,.agg #[t,en,f,.slice ao n cap],.pointer (some ⟨B,0,none⟩)] w fun e w'=>e=.returned (.tuple #[.agg #[p,q],c])∧Below w w w':=by
 have C:=zh (fun (v:World) (hv:Facts_ac v)=>zMe.by360 a b p q c v hv h)
 have H:=((Held.start w).add (f:=zBj) hF).add (f:=.cell B 0 (.func (.func 131) #[] #[])) hB
 exact zq3yn
theorem tell_4 (B:Nat) (a b:Int) (t:Bool) (en f:Int) (ao:Option Addr) (n cap:Nat) (X:Nat→Int) (p q c:Int) (w:World) (hF:FactsC w) (hB:w.cell? ⟨B,0,none⟩=some (.func (.func 132) #[] #[])) (h:AcIs aX 365 a b p q c):Calls Tryz.prog 149 #[a,b,.agg #[t,en,f,.slice ao n cap],.pointer (some ⟨B,0,none⟩)] w fun e w'=>e=.returned (.tuple #[.agg #[p,q],c])∧Below w w w':=by
 have C:=zh (fun (v:World) (hv:Facts_ac v)=>zMe.by365 a b p q c v hv h)
 have H:=((Held.start w).add (f:=zBj) hF).add (f:=.cell B 0 (.func (.func 132) #[] #[])) hB
 exact zq3yn
theorem tell_5 (B:Nat) (a b:Int) (t:Bool) (en f:Int) (ao:Option Addr) (n cap:Nat) (X:Nat→Int) (p q c:Int) (w:World) (hF:FactsC w) (hB:w.cell? ⟨B,0,none⟩=some (.func (.func 133) #[] #[])) (h:AcIs yX 133590 a b p q c):Calls Tryz.prog 149 #[a,b,.agg #[t,en,f,.slice ao n cap],.pointer (some ⟨B,0,none⟩)] w fun e w'=>e=.returned (.tuple #[.agg #[p,q],c])∧Below w w w':=by
 have C:=zh (fun (v:World) (hv:Facts_ac v)=>zMe.byyears a b p q c v hv h)
 have H:=((Held.start w).add (f:=zBj) hF).add (f:=.cell B 0 (.func (.func 133) #[] #[])) hB
 exact zq3yn
theorem tell_6 (a b:Int) (t:Bool) (en f:Int) (ao:Option Addr) (n cap:Nat) (X:Nat→Int) (p q c:Int) (w:World) (hF:FactsC w) (hn:n≤100) (hR:RowAt w ao X n cap) (h:IcIs X n f a b p q c):Calls Tryz.prog 134 #[a,b,.agg #[t,en,f,.slice ao n cap]] w fun e w'=>e=.returned (.tuple #[.agg #[p,q],c])∧Below w w w':=by
 have C:=zh (fun v hv hr=>ipart_is a b ao n cap X f p q c v hv hn hr h)
 have H:=((Held.start w).add (f:=zBj) hF).add (f:=rowF ao X n cap) hR
 clear hF hR h
 go_enter Tryz.func134,Tryz.ntmps134
 go_wp2_with fail
 replace H:=H.quad w t en f (.slice ao n cap) 33 rfl
 replace H:=H.pair (w+1) (0:Int) (0:Int) 48 zs
 revert H
 with_reducible refine zG (fun H=>C.out _ (H.factsC).facts (H.row (ao:=ao) (X:=X) (n:=n) (cap:=cap))) ?_
 intro w1 H
 obtain⟨cz0,cz1⟩:=H.cells2 (w+1)
 have lz:=zA0 cz0
 obtain⟨fz0,fz1⟩:=H.frozens2 (w+1)
 have HK:=H.old
 clear H
 go_wp2_with fail
 exact bodyPost_ret (v:=.tuple #[.agg #[p,q],c]) (by simp[results,Tryz.results134,go_sem,cz0,cz1,lz]) rfl ⟨rfl,by repeat (first | exact HK | refine Below.drew ?_ | refine Below.setCell ?_ zw _ | refine Below.alloc ?_ zw _)⟩
theorem zqq58 {P:Prop} (h:P:=by
 intro w2 H
 obtain⟨cz0,cz1⟩:=H.cells2 (w+1)
 have lz:=zA0 cz0
 obtain⟨fz0,fz1⟩:=H.frozens2 (w+1)
 have HK:=H.old
 clear H
 go_wp2_with fail
 exact bodyPost_ret (v:=.tuple #[.agg #[p,q],c]) (by simp[results,Tryz.results89,go_sem,cz0,cz1,lz]) rfl ⟨rfl,by repeat (first | exact HK | refine Below.drew ?_ | refine Below.setCell ?_ zw _ | refine Below.alloc ?_ zw _)⟩):P:=h
theorem cpart_0 (a b:Int) (t:Bool) (en f:Int) (ao:Option Addr) (n cap:Nat) (X:Nat→Int) (p q c:Int) (w:World) (hF:FactsC w) (h:zBd (uX t) a b p q c):Calls Tryz.prog 89 #[(0:Int),.int .i64 a,b,.agg #[t,en,.int .i64 f,.slice ao n cap]] w fun e w'=>e=.returned (.tuple #[.agg #[p,q],c])∧Below w w w':=by
 have sf:=zSF
 have H:=(Held.start w).add (f:=zBj) hF
 clear hF
 go_enter Tryz.func89,Tryz.ntmps89
 go_wp2_with fail
 replace H:=H.quad w t en (.int .i64 f) (.slice ao n cap) 33 rfl
 replace H:=H.pair (w+1) (0:Int) (0:Int) 48 zs
 revert H
 with_reducible refine zG (fun _=>find_0 _) ?_
 intro w1 H
 obtain⟨cs0,cs1,cs2,cs3⟩:=H.cells4 w
 have ls:=zA0 cs0
 go_wp2_with fail
 clear cs0 cs1 cs2 cs3 ls
 replace H:=H.alloc (.cells #[.string (nm 0),.func (.func 127) #[] #[]] 130)
 revert H
 with_reducible refine zG (fun H=>tell_0 a b t en f ao n cap X p q c _ (H.factsC) h) ?_
 exact zqq58
theorem cpart_1 (a b:Int) (t:Bool) (en f:Int) (ao:Option Addr) (n cap:Nat) (X:Nat→Int) (p q c:Int) (w:World) (hF:FactsC w) (h:zBd eX a b p q c):Calls Tryz.prog 89 #[(1:Int),.int .i64 a,b,.agg #[t,en,.int .i64 f,.slice ao n cap]] w fun e w'=>e=.returned (.tuple #[.agg #[p,q],c])∧Below w w w':=by
 have sf:=zSF
 have H:=(Held.start w).add (f:=zBj) hF
 clear hF
 go_enter Tryz.func89,Tryz.ntmps89
 go_wp2_with fail
 replace H:=H.quad w t en (.int .i64 f) (.slice ao n cap) 33 rfl
 replace H:=H.pair (w+1) (0:Int) (0:Int) 48 zs
 with_reducible refine (find_1 _).mono ?_
 rintro e w1 ⟨B,rfl,hc,hb⟩
 replace H:=(H.below hb).add (f:=.cell B 0 (.func (.func 129) #[] #[])) hc
 clear hc hb
 obtain⟨cs0,cs1,cs2,cs3⟩:=H.cells4 w
 have ls:=zA0 cs0
 go_wp2_with fail
 clear cs0 cs1 cs2 cs3 ls
 replace H:=H.alloc (.cells #[.string (nm 1),.func (.func 149) #[] #[.pointer (some ⟨B,0,none⟩)]] 130)
 revert H
 with_reducible refine zG (fun H=>tell_1 B a b t en f ao n cap X p q c _ (H.factsC) (H.cell B 0 _) h) ?_
 exact zqq58
theorem cpart_2 (a b:Int) (t:Bool) (en f:Int) (ao:Option Addr) (n cap:Nat) (X:Nat→Int) (p q c:Int) (w:World) (hF:FactsC w) (h:zBd (iX (decide (b=en))) a b p q c):Calls Tryz.prog 89 #[(2:Int),.int .i64 a,b,.agg #[t,en,.int .i64 f,.slice ao n cap]] w fun e w'=>e=.returned (.tuple #[.agg #[p,q],c])∧Below w w w':=by
 have sf:=zSF
 have H:=(Held.start w).add (f:=zBj) hF
 clear hF
 go_enter Tryz.func89,Tryz.ntmps89
 go_wp2_with fail
 replace H:=H.quad w t en (.int .i64 f) (.slice ao n cap) 33 rfl
 replace H:=H.pair (w+1) (0:Int) (0:Int) 48 zs
 revert H
 with_reducible refine zG (fun _=>find_2 _) ?_
 intro w1 H
 obtain⟨cs0,cs1,cs2,cs3⟩:=H.cells4 w
 have ls:=zA0 cs0
 go_wp2_with fail
 clear cs0 cs1 cs2 cs3 ls
 replace H:=H.alloc (.cells #[.string (nm 2),.func (.func 130) #[] #[]] 130)
 revert H
 with_reducible refine zG (fun H=>tell_2 a b t en f ao n cap X p q c _ (H.factsC) h) ?_
 exact zqq58
theorem cpart_3 (a b:Int) (t:Bool) (en f:Int) (ao:Option Addr) (n cap:Nat) (X:Nat→Int) (p q c:Int) (w:World) (hF:FactsC w) (h:AcIs aX 360 a b p q c):Calls Tryz.prog 89 #[(3:Int),.int .i64 a,b,.agg #[t,en,.int .i64 f,.slice ao n cap]] w fun e w'=>e=.returned (.tuple #[.agg #[p,q],c])∧Below w w w':=by
 have sf:=zSF
 have H:=(Held.start w).add (f:=zBj) hF
 clear hF
 go_enter Tryz.func89,Tryz.ntmps89
 go_wp2_with fail
 replace H:=H.quad w t en (.int .i64 f) (.slice ao n cap) 33 rfl
 replace H:=H.pair (w+1) (0:Int) (0:Int) 48 zs
 with_reducible refine (find_3 _).mono ?_
 rintro e w1 ⟨B,rfl,hc,hb⟩
 replace H:=(H.below hb).add (f:=.cell B 0 (.func (.func 131) #[] #[])) hc
 clear hc hb
 obtain⟨cs0,cs1,cs2,cs3⟩:=H.cells4 w
 have ls:=zA0 cs0
 go_wp2_with fail
 clear cs0 cs1 cs2 cs3 ls
 replace H:=H.alloc (.cells #[.string (nm 3),.func (.func 149) #[] #[.pointer (some ⟨B,0,none⟩)]] 130)
 revert H
 with_reducible refine zG (fun H=>tell_3 B a b t en f ao n cap X p q c _ (H.factsC) (H.cell B 0 _) h) ?_
 exact zqq58
theorem cpart_4 (a b:Int) (t:Bool) (en f:Int) (ao:Option Addr) (n cap:Nat) (X:Nat→Int) (p q c:Int) (w:World) (hF:FactsC w) (h:AcIs aX 365 a b p q c):Calls Tryz.prog 89 #[(4:Int),.int .i64 a,b,.agg #[t,en,.int .i64 f,.slice ao n cap]] w fun e w'=>e=.returned (.tuple #[.agg #[p,q],c])∧Below w w w':=by
 have sf:=zSF
 have H:=(Held.start w).add (f:=zBj) hF
 clear hF
 go_enter Tryz.func89,Tryz.ntmps89
 go_wp2_with fail
 replace H:=H.quad w t en (.int .i64 f) (.slice ao n cap) 33 rfl
 replace H:=H.pair (w+1) (0:Int) (0:Int) 48 zs
 with_reducible refine (find_4 _).mono ?_
 rintro e w1 ⟨B,rfl,hc,hb⟩
 replace H:=(H.below hb).add (f:=.cell B 0 (.func (.func 132) #[] #[])) hc
 clear hc hb
 obtain⟨cs0,cs1,cs2,cs3⟩:=H.cells4 w
 have ls:=zA0 cs0
 go_wp2_with fail
 clear cs0 cs1 cs2 cs3 ls
 replace H:=H.alloc (.cells #[.string (nm 4),.func (.func 149) #[] #[.pointer (some ⟨B,0,none⟩)]] 130)
 revert H
 with_reducible refine zG (fun H=>tell_4 B a b t en f ao n cap X p q c _ (H.factsC) (H.cell B 0 _) h) ?_
 exact zqq58
theorem cpart_5 (a b:Int) (t:Bool) (en f:Int) (ao:Option Addr) (n cap:Nat) (X:Nat→Int) (p q c:Int) (w:World) (hF:FactsC w) (h:AcIs yX 133590 a b p q c):Calls Tryz.prog 89 #[(5:Int),.int .i64 a,b,.agg #[t,en,.int .i64 f,.slice ao n cap]] w fun e w'=>e=.returned (.tuple #[.agg #[p,q],c])∧Below w w w':=by
 have sf:=zSF
 have H:=(Held.start w).add (f:=zBj) hF
 clear hF
 go_enter Tryz.func89,Tryz.ntmps89
 go_wp2_with fail
 replace H:=H.quad w t en (.int .i64 f) (.slice ao n cap) 33 rfl
 replace H:=H.pair (w+1) (0:Int) (0:Int) 48 zs
 with_reducible refine (find_5 _).mono ?_
 rintro e w1 ⟨B,rfl,hc,hb⟩
 replace H:=(H.below hb).add (f:=.cell B 0 (.func (.func 133) #[] #[])) hc
 clear hc hb
 obtain⟨cs0,cs1,cs2,cs3⟩:=H.cells4 w
 have ls:=zA0 cs0
 go_wp2_with fail
 clear cs0 cs1 cs2 cs3 ls
 replace H:=H.alloc (.cells #[.string (nm 5),.func (.func 149) #[] #[.pointer (some ⟨B,0,none⟩)]] 130)
 revert H
 with_reducible refine zG (fun H=>tell_5 B a b t en f ao n cap X p q c _ (H.factsC) (H.cell B 0 _) h) ?_
 exact zqq58
theorem cpart_6 (a b:Int) (t:Bool) (en f:Int) (ao:Option Addr) (n cap:Nat) (X:Nat→Int) (p q c:Int) (w:World) (hF:FactsC w) (hn:n≤100) (hR:RowAt w ao X n cap) (h:IcIs X n f a b p q c):Calls Tryz.prog 89 #[(6:Int),.int .i64 a,b,.agg #[t,en,.int .i64 f,.slice ao n cap]] w fun e w'=>e=.returned (.tuple #[.agg #[p,q],c])∧Below w w w':=by
 have sf:=zSF
 have H:=((Held.start w).add (f:=zBj) hF).add (f:=rowF ao X n cap) hR
 clear hF hR
 go_enter Tryz.func89,Tryz.ntmps89
 go_wp2_with fail
 replace H:=H.quad w t en (.int .i64 f) (.slice ao n cap) 33 rfl
 replace H:=H.pair (w+1) (0:Int) (0:Int) 48 zs
 revert H
 with_reducible refine zG (fun _=>find_6 _) ?_
 intro w1 H
 obtain⟨cs0,cs1,cs2,cs3⟩:=H.cells4 w
 have ls:=zA0 cs0
 go_wp2_with fail
 clear cs0 cs1 cs2 cs3 ls
 replace H:=H.alloc (.cells #[.string (nm 6),.func (.func 134) #[] #[]] 130)
 revert H
 with_reducible refine zG (fun H=>tell_6 a b t en f ao n cap X p q c _ (H.factsC) hn (H.row (ao:=ao) (X:=X) (n:=n) (cap:=cap)) h) ?_
 exact zqq58
theorem zQo (k a b:Int) (t:Bool) (en f:Int) (ao:Option Addr) (n cap:Nat) (w:World) (hk:k<0∨6<k):Calls Tryz.prog 89 #[k,.int .i64 a,b,.agg #[t,en,f,.slice ao n cap]] w fun e w'=>e=.returned (.tuple #[.agg #[(0:Int),(0:Int)],(1:Int)])∧Below w w w':=by
 have sf:∀(a:Addr) (W:World),(store a .nilFunc).run Tryz.prog W=stored Tryz.prog W a .nilFunc .plain:=fun a W=>run_store _ W a _ _ rfl
 have H:=Held.start w
 go_enter Tryz.func89,Tryz.ntmps89
 go_wp2_with fail
 replace H:=H.quad w t en f (.slice ao n cap) 33 rfl
 replace H:=H.pair (w+1) (0:Int) (0:Int) 48 zs
 revert H
 with_reducible refine zG (fun _=>zMs k _ hk) ?_
 intro w1 H
 obtain⟨cz0,cz1⟩:=H.cells2 (w+1)
 have lz:=zA0 cz0
 obtain⟨fz0,fz1⟩:=H.frozens2 (w+1)
 have HK:=H.old
 clear H
 go_wp2_with fail
 exact bodyPost_ret (v:=.tuple #[.agg #[(0:Int),(0:Int)],(1:Int)]) (by simp[results,Tryz.results89,go_sem,cz0,cz1,lz]) rfl ⟨rfl,by repeat (first | exact HK | refine Below.drew ?_ | refine Below.setCell ?_ zw _ | refine Below.alloc ?_ zw _)⟩
def zAb (ao:Option Addr) (X:Nat→Int) (n cap:Nat):Fact:=.that (fun W=>DaysAt W ao X n cap) (fun _ _ hb h=>h.below hb)
theorem Held.days {w W:World} {fs:List Fact} {ao:Option Addr} {X:Nat→Int} {n cap:Nat} (h:Held w fs W) (hm:zAb ao X n cap∈fs:=by exact zm):DaysAt W ao X n cap:=h.all _ hm
theorem DaysAt.ext {W:World} {ao:Option Addr} {X Y:Nat→Int} {n cap:Nat} (h:DaysAt W ao X n cap) (e:∀i,i<n→X i=Y i):DaysAt W ao Y n cap:=
 ⟨h.1,fun hn=>by obtain⟨b,off,e0,hc⟩:=h.2 hn;exact⟨b,off,e0,fun j hj=>by rw[←e j hj];exact hc j hj⟩⟩
theorem DaysAt.none (W:World) (X:Nat→Int) (cap:Nat):DaysAt W .none X 0 cap:=⟨Nat.zero_le _,fun h=>absurd h zo⟩
theorem zAp {W W':World} {base:Nat} {e:TypeId} {size n:Nat} {v:Value} {xs:List Value} (h:W.ownsRow base e size v n xs) (hb:Below W W W'):W'.ownsRow base e size v n xs:=by
 exact zqewq
theorem zAo:(Tryz.prog.info? 3).map (fun i=>(i.zero,i.size,i.bytes))=some (some (.int .i64 0),1,8):=zk
def il (l:List Int):List Value:=l.map (Value.int .i64)
theorem il_len (l:List Int):(il l).length=l.length:=by simp[il]
theorem zCv {W:World} {base n:Nat} {v:Value} {l:List Int} (hn:l.length=n) (h:W.ownsRow base 3 1 v n (il l)):∃ao cap,v=.slice ao n cap∧DaysAt W ao (ld l) n cap:=by
 have h0:=h
 subst hn
 rcases h.2 with⟨rfl,e⟩ | ⟨g,cap,cur,rfl,_,_,hc,_⟩
 ·refine⟨none,0,by rw[e],zo,fun k=>absurd k zo⟩
 ·refine⟨_,_,rfl,hc,fun _=>⟨g,0,rfl,fun j hj=>?_⟩⟩
  have:=World.ownsRow.cellAt h0 j zo
  rw[Nat.zero_add,this]
  simp[il,ld,hj]
theorem grown13 {wr w1:World} {base:Nat} {e:TypeId} {size n:Nat} {v:Value} {xs:List Value} {o:Obj} (hsz:base≤wr.heap.size) (hown:wr.ownsRow base e size v n xs) {k:Nat} (hg:((wr.alloc o).drewN k).grownBy w1 v.ownBlock):Below base wr w1:=
 (zA7 ((Below.refl base wr).alloc hsz o) k).grown hg zx (fun k hk=>(World.ownsRow.lt hown k hk).1)
theorem one_news (W:World) (x:Value) (t:TypeId) (k:Nat):∀j u,[x][j]?=some u→((W.alloc (.cells #[x] t)).drewN k).cell? ((⟨W,0,none⟩:Addr).add j)=some u:=by
 intro j u hu
 match j,hu with
 | 0,hu=>
  obtain rfl:x=u:=by simpa using hu
  rw[zA9]
  simp[go_sem,World.cell?_alloc_new]
 | j+1,hu=>simp at hu
theorem zR9 (l:List Int) (x:Int):il l++[.int .i64 x]=il (l++[x]):=by simp[il]
def Row13 (W:World) (size:Nat) (ao:Option Addr) (n:Nat) (l:List Value):Prop:=l.length=n*size∧(∀u∈l,u.oneCell'=true)∧(0<n→∃b off,ao=some ⟨b,off,none⟩∧∀j u,l[j]?=some u→W.cell? ((⟨b,off,none⟩:Addr).add j)=some u)
theorem Row13.below {W W':World} {size n:Nat} {ao:Option Addr} {l:List Value} (h:Row13 W size ao n l) (hb:Below W W W'):Row13 W' size ao n l:=
 ⟨h.1,h.2.1,fun hn=>by
  obtain⟨b,off,e,hc⟩:=h.2.2 hn
  refine⟨b,off,e,fun j u hu=>?_⟩
  have:=hc j u hu
  rw[zA9] at this ⊢
  exact keep hb (zA0 this) this⟩
theorem row_days {W:World} {ao:Option Addr} {X:Nat→Int} {n cap:Nat} (h:DaysAt W ao X n cap):Row13 W 1 ao n (il (dl X n)):=
 ⟨by rw[il_len,zB7,Nat.mul_one],fun u hu=>by simp[il] at hu;obtain⟨a,_,rfl⟩:=hu;rfl,fun hn=>by
  obtain⟨b,off,e,hc⟩:=h.2 hn
  refine⟨b,off,e,fun j u hu=>?_⟩
  have hj:j<n:=by
   rcases Nat.lt_or_ge j n with k | k
   ·exact k
   ·rw[List.getElem?_eq_none (by rw[il_len,zB7];exact k)] at hu;cases hu
  rw[zA9,hc j hj]
  simpa [il,dl,hj] using hu⟩
theorem app_none {P:Program} {w:World} (base:Nat) (t ty e:TypeId) (i:TypeInfo) (size:Nat) (ht:P.underlying t=some (.slice e)) (hi:P.info? e=some i)
  (v:Value) (n:Nat) (xs:List Value) (hown:w.ownsRow base e size v n xs) (c:Nat):(Builtin.append_ #[t,t] ty #[v,.slice none 0 c]).run P w=.ok v w:=by
 rcases hown.2 with⟨rfl,rfl⟩ | ⟨g,cap,cur,rfl,_,_,hnc,_⟩
 ·simp[Builtin.append_,run_underlying ht,sizeOf,typeInfo,hi,Builtin.lenOf,Builtin.firstCells]
 ·simp[Builtin.append_,run_underlying ht,sizeOf,typeInfo,hi,Builtin.lenOf,Builtin.firstCells,hnc,storeCells]
theorem app13 {P:Program} {w:World} (base:Nat) (t ty e:TypeId) (i:TypeInfo) (z:Value) (size bytes:Nat) (ht:P.underlying t=some (.slice e)) (hi:P.info? e=some i) (hz:i.zero=some z)
  (hsize:i.size=size) (hby:i.bytes=bytes) (hzs:z.cells.size=size) (hsz:0<size)
  (v:Value) (n:Nat) (xs:List Value) (hown:w.ownsRow base e size v n xs) (ao:Option Addr) (m c:Nat) (l:List Value) (hl:Row13 w size ao m l)
  (h63:n+m≤100000) (hb:bytes≤1000) (hbase:base≤w.heap.size) :
  ∃v' w',(Builtin.append_ #[t,t] ty #[v,.slice ao m c]).run P w=.ok v' w'∧w'.ownsRow base e size v' (n+m) (xs++l)∧w.grownBy w' v.ownBlock:=by
 have hbytes:(n+m)*bytes≤140737488355328:=Nat.le_trans (Nat.mul_le_mul h63 hb) zd
 have h63':n+m≤maxLen:=by unfold maxLen;omega
 rcases Nat.eq_zero_or_pos m with rfl | hm
 ·have e0:l=[]:=List.length_eq_zero_iff.1 (by simpa using hl.1)
  subst e0
  cases ao with
  | none=>exact⟨v,w,app_none base t ty e i size ht hi v n xs hown c,by simpa using hown,rfl,rfl,rfl,Nat.le_refl _,fun _ _ _=>rfl⟩
  | some ad=>
   obtain⟨v',w',h1,h2,h3,_⟩:=run_append_own w base t ty e i z size bytes ht hi hz hsize hby hzs hsz v n xs hown ad 0 c [] zs (fun j u hu=>by simp at hu) (fun u hu=>by cases hu) h63' hbytes hbase
   exact⟨v',w',h1,h2,h3⟩
 ·obtain⟨b,off,rfl,hc⟩:=hl.2.2 hm
  obtain⟨v',w',h1,h2,h3,_⟩:=run_append_own w base t ty e i z size bytes ht hi hz hsize hby hzs hsz v n xs hown ⟨b,off,none⟩ m c l hl.1 hc hl.2.1 h63' hbytes hbase
  exact⟨v',w',h1,h2,h3⟩
theorem zGm {wr w1:World} {base:Nat} {e:TypeId} {size n:Nat} {v:Value} {xs:List Value} (hsz:base≤wr.heap.size) (hown:wr.ownsRow base e size v n xs) (hg:wr.grownBy w1 v.ownBlock):Below base wr w1:=
 (Below.refl base wr).grown hg hsz (fun k hk=>(World.ownsRow.lt hown k hk).1)
theorem Row13.grown {W W':World} {size n:Nat} {g:Nat} {l:List Value} {row:Option Nat} (h:Row13 W size (some ⟨g,0,none⟩) n l) (hg:W.grownBy W' row) (hn:some g≠row):Row13 W' size (some ⟨g,0,none⟩) n l:=
 ⟨h.1,h.2.1,fun hp=>by
  obtain⟨b,off,e,hc⟩:=h.2.2 hp
  injection e with e
  injection e with e1 e2 _
  subst e1 e2
  refine⟨g,0,rfl,fun j u hu=>?_⟩
  have:=hc j u hu
  rw[zA9] at this ⊢
  exact hg.cell this hn⟩
theorem Row13.alloc {W:World} {size n:Nat} {ao:Option Addr} {l:List Value} (h:Row13 W size ao n l) (o:Obj):Row13 (W.alloc o) size ao n l:=h.below ((Below.refl _ _).alloc (Nat.le_refl _) o)
theorem il_app (l m:List Int):il l++il m=il (l++m):=by simp[il]
theorem zT7 (W:World) (x:Int):Row13 (W.alloc (.cells #[x] 3)) 1 (some ⟨W,0,none⟩) 1 [x]:=
  ⟨rfl,fun u hu=>by simp at hu;subst hu;rfl,fun _=>⟨W,0,rfl,fun j u hu=>by
    match j,hu with
    | 0, hu => obtain rfl:Value.int .i64 x=u:=by simpa using hu
               simp[go_sem,World.cell?_alloc_new,Addr.add]
    | j+1,hu=>simp at hu⟩⟩
theorem DaysAt.drop {W:World} {X:Nat→Int} {n cap k:Nat} {b off:Nat} (h:DaysAt W (some ⟨b,off,.none⟩) X n cap) (hk:k≤n):DaysAt W (some ⟨b,off+k,.none⟩) (fun i=>X (k+i)) (n-k) (cap-k):=
 ⟨by have:=h.1;omega,fun hn=>by
  obtain⟨b',off',e,hc⟩:=h.2 zo
  injection e with e
  injection e with e1 e2 _
  subst e1 e2
  exact⟨b,off+k,rfl,fun j hj=>by rw[Nat.add_assoc];exact hc (k+j) zo⟩⟩
theorem DaysAt.take {W:World} {ao:Option Addr} {X:Nat→Int} {n cap k:Nat} (h:DaysAt W ao X n cap) (hk:k≤n):DaysAt W ao X k cap:=
 ⟨by have:=h.1;omega,fun hn=>by
  obtain⟨b,off,e,hc⟩:=h.2 zo
  exact⟨b,off,e,fun j hj=>hc j zo⟩⟩
theorem cgrow_d (n:Nat) (m:Int) (w:World) (hm:m=n) (hn:n≤4000):Calls Tryz.prog 102 #[.slice none 0 0,m] w fun e w'=>∃v,e=.returned v∧w'.ownsRow w.heap.size 3 1 v 0 []∧Below w w w':=by
 obtain⟨i0,hi,hz0,hz1,hz2⟩:=info_parts zAo
 subst hm
 rcases Nat.eq_zero_or_pos n with rfl | hp
 ·go_enter Tryz.func102,Tryz.ntmps102
  go_wp2
  go_ret
  exact⟨_,rfl,World.ownsRow_nil _ _ _ _,Below.refl _ _⟩
 ·have hr:∀ty v,(Builtin.append_ #[26,3] ty #[.slice none 0 0,(n:Int)]).run Tryz.prog v=_:=fun ty v=>Lib.run_append_nil_zeros v 26 3 ty 3 i0 (0:Int) .i64 .i64 Tryz.underlying26 Tryz.underlying3 hi hz0 n hp (by rw[hz1];decide) zo (by rw[hz2];omega)
  have HR:=zh hr
  clear hr
  go_enter Tryz.func102,Tryz.ntmps102
  go_wp2_with (first
   | (at_builtin;refine Lib.wpList_append_run _ rfl _ _ _ _ rfl _ _ rfl rfl _ _ (HR.out _ _) ?_)
   | go_in)
  go_ret
  have g1:=grownCap_ge w n 0 3
  have g2:=grownCap_le_maxLen w n 0 3 (by unfold maxLen;omega)
  refine⟨_,rfl,World.ownsRow_made w.drew _ _ (Nat.le_refl _) g2 ?_,?_⟩
  ·rw[Array.size_append,size_zeroCells,size_zeroCells]
   show n*1+(grownCap w n 0 3-n)*1=_
   rw[←Nat.add_mul]
   congr 1
   omega
  ·exact (zBi 1).alloc (Nat.le_refl _) _
def zLe {α:Type} (a b c d:α):Nat→α
 | 0=>a
 | 1=>b
 | 2=>c
 | _=>d
theorem zIq {α:Type} (a b c d:α):zLe a b c d 0=a:=rfl
theorem zLf {α:Type} (a b c d:α):zLe a b c d 1=b:=rfl
theorem zLg {α:Type} (a b c d:α):zLe a b c d 2=c:=rfl
theorem zS5 {α:Type} (a b c d:α):zLe a b c d 3=d:=rfl
theorem ccat_3 (B:Nat) (a1:Option Addr) (n1 c1:Nat) (l1:List Value) (a2:Option Addr) (n2 c2:Nat) (l2:List Value) (a3:Option Addr) (n3 c3:Nat) (l3:List Value) (w:World) (h1:w.cell? ⟨B,0,none⟩=some (.slice a1 n1 c1)) (h2:w.cell? ⟨B,1,none⟩=some (.slice a2 n2 c2)) (h3:w.cell? ⟨B,2,none⟩=some (.slice a3 n3 c3))
  (r1:Row13 w 1 a1 n1 l1) (r2:Row13 w 1 a2 n2 l2) (r3:Row13 w 1 a3 n3 l3) (b1:n1≤1300) (b2:n2≤1300) (b3:n3≤1300) :
  Calls Tryz.prog 92 #[.slice (some ⟨B,0,none⟩) 3 3] w fun e w'=>∃v,e=.returned v∧w'.ownsRow w.heap.size 3 1 v (n1+n2+n3) (l1++l2++l3)∧Below w w w':=by
 obtain⟨i0,hi,hz0,hz1,hz2⟩:=info_parts zAo
 have R1:=zh r1
 have R2:=zh r2
 have R3:=zh r3
 have C:=zh (fun v=>cgrow_d (n1+n2+n3) ((n1:Int)+(n2:Int)+(n3:Int)) v zo zo)
 clear r1 r2 r3
 go_enter Tryz.func92,Tryz.ntmps92
 go_wp2_with fail
 go_loop [11,3] (fun i u=>∃j:Nat,j≤3∧i=.int .i64 j∧u=.int .i64 ((zLe 0 n1 (n1+n2) (n1+n2+n3) j:Nat):Int)) (fun i _=>3-(intOf i).toNat)
 case atStart=>exact⟨0,zo,rfl,rfl⟩
 case round=>
  obtain⟨j,j2,rfl,rfl⟩:=hrel
  match j,j2 with
  | 0,_=>
   rw[zIq]
   go_wp2
   go_round
   case rel=>exact⟨1,zo,rfl,by rw[zLf];try simp⟩
   case measure=>simp[intOf]
  | 1,_=>
   rw[zLf]
   go_wp2
   go_round
   case rel=>exact⟨2,zo,rfl,by rw[zLg];try simp⟩
   case measure=>simp[intOf]
  | 2,_=>
   rw[zLg]
   go_wp2
   go_round
   case rel=>exact⟨3,zo,rfl,by rw[zS5];try simp⟩
   case measure=>simp[intOf]
  | 3,_=>
   rw[zS5]
   go_wp2_with fail
   with_reducible refine (C.out _).mono ?_
   rintro e w1 ⟨v1,rfl,hown,hB⟩
   have HO:=zh hown
   clear hown C
   go_wp2_with fail
   go_loopw [27,6] (fun i v W'=>∃j:Nat,j≤3∧i=.int .i64 j∧W'.ownsRow w.heap.size 3 1 v (zLe 0 n1 (n1+n2) (n1+n2+n3) j) (zLe [] l1 (l1++l2) (l1++l2++l3) j)∧Below w w W') (fun i _ _=>3-(intOf i).toNat)
   case atStart=>exact⟨0,zo,rfl,HO.out,hB⟩
   case round=>
    clear hB
    obtain⟨j,j2,rfl,hown,hB⟩:=hrel
    have hsz:w.heap.size≤wr.heap.size:=hB.size
    have HO:=zh hown
    clear hown
    match j,j2 with
    | 0,_=>
     have k1:=keep hB (zA0 h1) h1
     obtain⟨v',w',hr,ho,hg⟩:=app13 w.heap.size 26 26 3 i0 (0:Int) 1 8 Tryz.underlying26 hi hz0 hz1 hz2 rfl zd _ _ _ HO.out a1 n1 c1 l1 (R1.out.below hB) (by rw[zIq];omega) zd hsz
     have hB2:=hB.trans (zGm hsz HO.out hg)
     have HR:=zh hr
     have HN:=zh ho
     clear hr ho hg
     go_wp2_with (first
      | (at_builtin;refine Lib.wpList_append_run _ rfl _ _ _ _ rfl _ _ rfl rfl _ _ HR.out ?_)
      | go_in)
     go_roundw
     case rel=>exact⟨1,zo,rfl,by have:=HN.out;rw[zIq,zIq,Nat.zero_add,List.nil_append] at this;exact this,hB2⟩
     case measure=>simp[intOf]
    | 1,_=>
     have k1:=keep hB (zA0 h2) h2
     obtain⟨v',w',hr,ho,hg⟩:=app13 w.heap.size 26 26 3 i0 (0:Int) 1 8 Tryz.underlying26 hi hz0 hz1 hz2 rfl zd _ _ _ HO.out a2 n2 c2 l2 (R2.out.below hB) (by rw[zLf];omega) zd hsz
     have hB2:=hB.trans (zGm hsz HO.out hg)
     have HR:=zh hr
     have HN:=zh ho
     clear hr ho hg
     go_wp2_with (first
      | (at_builtin;refine Lib.wpList_append_run _ rfl _ _ _ _ rfl _ _ rfl rfl _ _ HR.out ?_)
      | go_in)
     go_roundw
     case rel=>exact⟨2,zo,rfl,HN.out,hB2⟩
     case measure=>simp[intOf]
    | 2,_=>
     have k1:=keep hB (zA0 h3) h3
     obtain⟨v',w',hr,ho,hg⟩:=app13 w.heap.size 26 26 3 i0 (0:Int) 1 8 Tryz.underlying26 hi hz0 hz1 hz2 rfl zd _ _ _ HO.out a3 n3 c3 l3 (R3.out.below hB) (by rw[zLg];omega) zd hsz
     have hB2:=hB.trans (zGm hsz HO.out hg)
     have HR:=zh hr
     have HN:=zh ho
     clear hr ho hg
     go_wp2_with (first
      | (at_builtin;refine Lib.wpList_append_run _ rfl _ _ _ _ rfl _ _ rfl rfl _ _ HR.out ?_)
      | go_in)
     go_roundw
     case rel=>exact⟨3,zo,rfl,HN.out,hB2⟩
     case measure=>simp[intOf]
    | 3,_=>
     go_wp2
     go_ret
     exact⟨_,rfl,HO.out,hB⟩
theorem zql2n {P:Prop} (h:P:=by
 have HB:=zh e1
 clear e1 h
 go_enter Tryz.func99,Tryz.ntmps99
 go_wp2_with fail
 replace H:=H.box_11 w mo ra ki co st en ms bk lg eo ro 23 rfl
 go_ret
 exact⟨retB HB.out,H.old⟩):P:=h
theorem zGb (mo ra ki co st en ms:Int) (bk lg eo:Bool) (ro:Int) (n:Int) (b:Bool) (w:World) (h:(Tm.mk mo ra ki co st en ms bk lg eo ro).btw n=b) :
  Calls Tryz.prog 99 #[.agg #[mo,ra,ki,co,st,en,ms,bk,lg,eo,ro],n] w fun e w'=>e=.returned b∧Below w w w':=by
 have H:=Held.start w
 have e1:(decide (st<n)&&decide (n<en))=b:=h
 by_cases h1:st<n
 ·have t1:decide (st<n)=true:=decide_eq_true h1
  rw[t1,Bool.true_and] at e1
  exact zql2n
 ·have t1:decide (st<n)=false:=decide_eq_false h1
  rw[t1,Bool.false_and] at e1
  exact zql2n
theorem zQx (mo ra ki co st en ms:Int) (lg eo:Bool) (ro:Int) (w:World) (hm : -100≤ms∧ms≤100) :
  Calls Tryz.prog 100 #[.agg #[mo,ra,ki,co,st,en,ms,true,lg,eo,ro]] w fun e w'=>e=.returned (.tuple #[en,st,(-ms:Int)])∧Below w w w':=by
 have H:=Held.start w
 go_enter Tryz.func100,Tryz.ntmps100
 go_wp2_with fail
 go_quiet (fail)
 go_wp2_with fail
 replace H:=H.box_11 w mo ra ki co st en ms true lg eo ro 23 rfl
 go_ret3
 exact⟨rfl,(H.drewN _).old⟩
theorem zO3 (mo ra ki co st en ms:Int) (lg eo:Bool) (ro:Int) (w:World) (hm : -100≤ms∧ms≤100) :
  Calls Tryz.prog 100 #[.agg #[mo,ra,ki,co,st,en,ms,false,lg,eo,ro]] w fun e w'=>e=.returned (.tuple #[st,en,ms])∧Below w w w':=by
 have H:=Held.start w
 go_enter Tryz.func100,Tryz.ntmps100
 go_wp2_with fail
 go_quiet (fail)
 go_wp2_with fail
 replace H:=H.box_11 w mo ra ki co st en ms false lg eo ro 23 rfl
 go_ret3
 exact⟨rfl,(H.drewN _).old⟩
theorem zMq (mo ra ki co st en ms:Int) (bk lg eo:Bool) (ro:Int) (w:World) (hm : -100≤ms∧ms≤100) :
  Calls Tryz.prog 100 #[.agg #[mo,ra,ki,co,st,en,ms,bk,lg,eo,ro]] w fun e w'=>e=.returned (.tuple #[.int .i64 (Tm.mk mo ra ki co st en ms bk lg eo ro).an,.int .i64 (Tm.mk mo ra ki co st en ms bk lg eo ro).ot,.int .i64 (Tm.mk mo ra ki co st en ms bk lg eo ro).ap])∧Below w w w':=by
 cases bk
 ·exact zO3 mo ra ki co st en ms lg eo ro w hm
 ·exact zQx mo ra ki co st en ms lg eo ro w hm
end Go.Proofs.YtpfgdfpaoldhcaaGreatDoor
