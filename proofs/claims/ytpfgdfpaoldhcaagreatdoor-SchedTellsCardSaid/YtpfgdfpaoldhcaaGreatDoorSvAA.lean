/- Several texts in one: RuNum, RoNum, GAc, RuRef, RoFacts, DaSmall, DaDays, ScRef, ScShown. -/
import Derived.Test.YtpfgdfpaoldhcaaGreatDoorSuBL
set_option maxHeartbeats 8000000
set_option maxRecDepth 100000
set_option linter.unusedVariables false
set_option linter.unusedSimpArgs false
namespace Go.Proofs.YtpfgdfpaoldhcaaGreatDoor
theorem ru_no {r:Ru} (h:¬r.May):r.mb=false:=decide_eq_false h
end Go.Proofs.YtpfgdfpaoldhcaaGreatDoor
namespace Go.Proofs.YtpfgdfpaoldhcaaGreatDoor
theorem StepIs.stay {c:Ca} {s n:Int} (h:c.Is n):StepIs c s n n 0:=
 Or.inr (Or.inl ⟨h.1,0,zo,by rw[show ((0:Nat):Int)=0 from rfl,Int.mul_zero,Int.add_zero],h,fun l hl=>absurd hl (Nat.not_lt_zero _),rfl⟩)
theorem zTx {n:Int} (h:dy n):zBs n n:=by
 obtain⟨y,m,d,h1,h2⟩:=zBk n h.1 h.2
 exact⟨y,m,d,d,⟨h1,h2⟩,h1,h2⟩
theorem ModIs.stay {c:Ca} {s t n:Int} (h:c.Is n):ModIs c s t n n 0:=⟨n,0,.stay h,Or.inl ⟨Or.inr (zTx h.1),rfl,rfl⟩⟩
theorem ToIs.stay {c:Ca} {n k:Int} (h:c.Is n) (k0:0≤k) (k4:k≤4):ToIs c n k n 0:=by
 rcases (show k=0∨k=1∨k=2∨k=3∨k=4 by omega) with rfl | rfl | rfl | rfl | rfl
 ·exact Or.inl ⟨rfl,Or.inl ⟨h.1,rfl,rfl⟩⟩
 ·exact Or.inr (Or.inl ⟨rfl,.stay h⟩)
 ·exact Or.inr (Or.inr (Or.inl ⟨rfl,.stay h⟩))
 ·exact Or.inr (Or.inr (Or.inr (Or.inl ⟨rfl,.stay h⟩)))
 ·exact Or.inr (Or.inr (Or.inr (Or.inr (Or.inl ⟨rfl,.stay h⟩))))
end Go.Proofs.YtpfgdfpaoldhcaaGreatDoor
namespace Go.Proofs.YtpfgdfpaoldhcaaGreatDoor
end Go.Proofs.YtpfgdfpaoldhcaaGreatDoor
namespace Go.Proofs.YtpfgdfpaoldhcaaGreatDoor
open Go.RowKit
end Go.Proofs.YtpfgdfpaoldhcaaGreatDoor
namespace Go.Proofs.YtpfgdfpaoldhcaaGreatDoor
open Go.RowKit
end Go.Proofs.YtpfgdfpaoldhcaaGreatDoor
namespace Go.Proofs.YtpfgdfpaoldhcaaGreatDoor
open Go.RowKit
theorem ac_in {X:Int→Int→Int→Int→Int→Int→Int} {k a b p q:Int} (y1 m1 d1 y2 m2 d2:Int) (h1:may y1 m1 d1) (ha:nb y1 m1 d1=a) (h2:may y2 m2 d2) (hb:nb y2 m2 d2=b) (h:a≤b) (hp:rN (X y1 m1 d1 y2 m2 d2) k=p) (hq:rD (X y1 m1 d1 y2 m2 d2) k=q):AcIs X k a b p q 0:=
 Or.inl ⟨y1,m1,d1,y2,m2,d2,h1,ha,h2,hb,h,hp,hq,rfl⟩
end Go.Proofs.YtpfgdfpaoldhcaaGreatDoor
namespace Go.Proofs.YtpfgdfpaoldhcaaGreatDoor
open Go.RowKit Go.Extern.Stop Go.Stop Go.Extern
end Go.Proofs.YtpfgdfpaoldhcaaGreatDoor
namespace Go.Proofs.YtpfgdfpaoldhcaaGreatDoor
open Go.RowKit
end Go.Proofs.YtpfgdfpaoldhcaaGreatDoor
namespace Go.Proofs.YtpfgdfpaoldhcaaGreatDoor
open Go.RowKit
end Go.Proofs.YtpfgdfpaoldhcaaGreatDoor
namespace Go.Proofs.YtpfgdfpaoldhcaaGreatDoor
open Go.RowKit
end Go.Proofs.YtpfgdfpaoldhcaaGreatDoor
namespace Go.Proofs.YtpfgdfpaoldhcaaGreatDoor
open Go.RowKit
end Go.Proofs.YtpfgdfpaoldhcaaGreatDoor
namespace Go.Proofs.YtpfgdfpaoldhcaaGreatDoor
open Go.RowKit
theorem zT1 (n lo hi:Int) (w:World):Calls Tryz.prog 76 #[n,lo,hi] w fun e w'=>e=.returned (.bool (decide (lo≤n∧n≤hi)))∧w=w':=by
 go_enter Tryz.func76,Tryz.ntmps76
 go_wp2
 all_goals (go_ret;refine⟨retB ?_,rfl⟩;rw[Bool.eq_iff_iff];(try simp only[ge_iff_le,Bool.and_eq_true,decide_eq_true_eq,Bool.false_eq_true,false_iff,true_iff]);omega)
theorem zT2 (n lo hi:Int) (b:Bool) (w:World) (h:decide (lo≤n∧n≤hi)=b):Calls Tryz.prog 76 #[n,lo,hi] w fun e w'=>e=.returned b∧Below w w w':=by
 subst h;exact Calls.same (zT1 n lo hi w)
theorem rin_eq (n lo hi:Int) (b:Bool) (w:World) (h:decide (lo≤n∧n≤hi)=b):Calls Tryz.prog 76 #[n,lo,hi] w fun e w'=>e=.returned b∧w=w':=by
 subst h;exact zT1 n lo hi w
theorem rlen_eq (y m l:Int) (w:World) (h:ln y m=l):Calls Tryz.prog 75 #[y,m] w fun e w'=>e=.returned l∧w=w':=by
 subst h;exact zBu y m w
theorem zpihq {P:Prop} (h:P:=by
 go_enter Tryz.func52,Tryz.ntmps52
 go_wp2
 all_goals first | (exfalso;omega) | skip
 all_goals (go_ret;exact⟨rfl,D _⟩)):P:=h
theorem rumay_a (k m d q o s f t:Int) (b:Bool) (w:World) (h:¬((0≤k∧k≤3)∧(0≤s∧s≤2)∧(1≤f∧f≤t∧t≤9999))):Calls Tryz.prog 52 #[.agg #[k,m,d,q,o,s,f,t]] w fun e w'=>e=.returned false∧Below w w w':=by
 have D:∀w:World,Below w w (w.alloc (.cells #[k,m,d,q,o,s,f,t] 76)):=fun w=>(Below.refl _ _).alloc (Nat.le_refl _) _
 exact zpihq
theorem rumay_b (k m d q o s f t:Int) (b:Bool) (w:World) (h:(0≤k∧k≤3)∧(0≤s∧s≤2)∧(1≤f∧f≤t∧t≤9999)) (hk:k=3) (hb:decide (-100≤o∧o≤250)=b):Calls Tryz.prog 52 #[.agg #[k,m,d,q,o,s,f,t]] w fun e w'=>e=.returned b∧Below w w w':=by
 have H:=Held.start w
 have C:=zh (fun v=>zT2 o (-100) 250 b v hb)
 obtain⟨⟨a1,a2⟩,⟨a3,a4⟩,a5,a6,a7⟩:=h
 subst hk
 clear hb
 go_enter Tryz.func52,Tryz.ntmps52
 replace H:=H.oct w (3:Int) m d q o s f t 76 rfl
 go_wp2_with fail
 with_reducible refine (C.out _).mono ?_
 rintro e w1 ⟨rfl,hb1⟩
 replace H:=H.below hb1
 clear hb1
 go_wp2
 go_ret
 exact⟨rfl,H.old⟩
theorem rumay_c (k m d q o s f t:Int) (b:Bool) (w:World) (h:(0≤k∧k≤3)∧(0≤s∧s≤2)∧(1≤f∧f≤t∧t≤9999)) (hk:k≠3) (hm:¬(1≤m∧m≤12)):Calls Tryz.prog 52 #[.agg #[k,m,d,q,o,s,f,t]] w fun e w'=>e=.returned false∧Below w w w':=by
 have D:∀w:World,Below w w (w.alloc (.cells #[k,m,d,q,o,s,f,t] 76)):=fun w=>(Below.refl _ _).alloc (Nat.le_refl _) _
 have hk2:(k==3)=false:=by simpa using hk
 exact zpihq
theorem rumay_d (k m d q o s f t:Int) (b:Bool) (w:World) (h:(0≤k∧k≤3)∧(0≤s∧s≤2)∧(1≤f∧f≤t∧t≤9999)) (hk:k=0) (hm:1≤m∧m≤12) (hb:decide (1≤d∧d≤ln 2000 m)=b):Calls Tryz.prog 52 #[.agg #[k,m,d,q,o,s,f,t]] w fun e w'=>e=.returned b∧Below w w w':=by
 have H:=Held.start w
 obtain⟨l,HB⟩:∃l,Hid (ln 2000 m=l):=⟨_,zh rfl⟩
 rw[HB.out] at hb
 have C1:=zh (fun v=>rlen_eq 2000 m l v HB.out)
 have C2:=zh (fun v=>rin_eq d 1 l b v hb)
 obtain⟨⟨a1,a2⟩,⟨a3,a4⟩,a5,a6,a7⟩:=h
 obtain⟨m1,m2⟩:=hm
 subst hk
 clear hb
 go_enter Tryz.func52,Tryz.ntmps52
 replace H:=H.oct w (0:Int) m d q o s f t 76 rfl
 obtain⟨c0,c1,c2,c3,c4,c5,c6,c7⟩:=H.cells8 w
 have lc:=H.lt w 0 (0:Int) i0_
 have HK:=H.old
 clear H
 go_wp2_with fail
 go_quiet (first | (go_at_call 75;with_reducible exact zAt (C1.out _)) | (go_at_call 76;with_reducible exact zAt (C2.out _)))
 go_wp2
 go_ret
 exact⟨rfl,zA7 HK _⟩
theorem rumay_e (k m d q o s f t:Int) (b:Bool) (w:World) (h:(0≤k∧k≤3)∧(0≤s∧s≤2)∧(1≤f∧f≤t∧t≤9999)) (hk:k=1∨k=2) (hm:1≤m∧m≤12) (d2:Bool) (hd:decide (0≤d∧d≤6)=d2) (q2:Bool) (hq:decide (1≤q∧q≤5)=q2):Calls Tryz.prog 52 #[.agg #[k,m,d,q,o,s,f,t]] w fun e w'=>e=.returned (.bool (d2&&(k==2||q2)))∧Below w w w':=by
 have H:=Held.start w
 have C1:=zh (fun v=>zT2 d 0 6 d2 v hd)
 have C2:=zh (fun v=>zT2 q 1 5 q2 v hq)
 obtain⟨⟨a1,a2⟩,⟨a3,a4⟩,a5,a6,a7⟩:=h
 obtain⟨m1,m2⟩:=hm
 clear hd hq
 go_enter Tryz.func52,Tryz.ntmps52
 replace H:=H.oct w k m d q o s f t 76 rfl
 go_wp2_with fail
 with_reducible refine (C1.out _).mono ?_
 rintro e w1 ⟨rfl,hb1⟩
 replace H:=H.below hb1
 clear hb1
 obtain⟨c0,c1,c2,c3,c4,c5,c6,c7⟩:=H.cells8 w
 cases d2
 ·go_wp2
  go_ret
  exact⟨rfl,H.old⟩
 ·rcases hk with rfl | rfl
  ·go_wp2_with fail
   with_reducible refine (C2.out _).mono ?_
   rintro e w2 ⟨rfl,hb1⟩
   replace H:=H.below hb1
   clear hb1
   go_wp2
   go_ret
   exact⟨rfl,H.old⟩
  ·go_wp2
   go_ret
   exact⟨rfl,H.old⟩
theorem zTf (k m d q o s f t:Int) (b:Bool) (w:World) (hb:Ru.mb ⟨k,m,d,q,o,s,f,t⟩=b):Calls Tryz.prog 52 #[.agg #[k,m,d,q,o,s,f,t]] w fun e w'=>e=.returned b∧Below w w w':=by
 by_cases h:(0≤k∧k≤3)∧(0≤s∧s≤2)∧(1≤f∧f≤t∧t≤9999)
 ·by_cases h3:k=3
  ·have e:decide (-100≤o∧o≤250)=b:=by
    rw[←hb];unfold Ru.mb;rw[decide_eq_decide]
    refine⟨fun a=>⟨h.1,h.2.1,h.2.2,fun _=>a,fun c=>absurd h3 c,fun c=>?_,fun c=>?_,fun c=>?_⟩,fun a=>a.2.2.2.1 h3⟩ <;> (simp only at c;omega)
   exact rumay_b _ _ _ _ _ _ _ _ _ w h h3 e
  ·by_cases hm:1≤m∧m≤12
   ·by_cases h0:k=0
    ·have e:decide (1≤d∧d≤ln 2000 m)=b:=by
      rw[←hb];unfold Ru.mb;rw[decide_eq_decide]
      refine⟨fun a=>⟨h.1,h.2.1,h.2.2,fun c=>absurd c h3,fun _=>hm,fun _=>a,fun c=>?_,fun c=>?_⟩,fun a=>a.2.2.2.2.2.1 h0⟩ <;> (simp only at c;omega)
     exact rumay_d _ _ _ _ _ _ _ _ _ w h h0 hm e
    ·have h12:k=1∨k=2:=zo
     have e:(decide (0≤d∧d≤6)&&(k==2||decide (1≤q∧q≤5)))=b:=by
      rw[←hb,Bool.eq_iff_iff]
      unfold Ru.mb
      simp only[Bool.and_eq_true,Bool.or_eq_true,decide_eq_true_eq,beq_iff_eq]
      refine⟨fun a=>⟨h.1,h.2.1,h.2.2,fun c=>absurd c h3,fun _=>hm,fun c=>absurd c h0,fun _=>a.1,fun c=>?_⟩,fun a=>⟨a.2.2.2.2.2.2.1 h12,?_⟩⟩
      ·simp only at c;rcases a.2 with x | x
       ·omega
       ·exact x
      ·rcases h12 with x | x
       ·exact Or.inr (a.2.2.2.2.2.2.2 x)
       ·exact Or.inl x
     rw[←e]
     exact rumay_e _ _ _ _ _ _ _ _ true w h h12 hm _ rfl _ rfl
   ·have e:Ru.mb ⟨k,m,d,q,o,s,f,t⟩=false:=ru_no (fun a=>hm (a.2.2.2.2.1 h3))
    rw[←hb,e]
    exact rumay_c _ _ _ _ _ _ _ _ true w h h3 hm
 ·have e:Ru.mb ⟨k,m,d,q,o,s,f,t⟩=false:=ru_no (fun a=>h ⟨a.1,a.2.1,a.2.2.1⟩)
  rw[←hb,e]
  exact rumay_a _ _ _ _ _ _ _ _ true w h
end Go.Proofs.YtpfgdfpaoldhcaaGreatDoor
namespace Go.Proofs.YtpfgdfpaoldhcaaGreatDoor
open Go.RowKit
theorem zMj (W:World) (o:Nat→Bool) (R:Nat→Ru) (X:Nat→Int):CalAt W ⟨o,0,R,0,X⟩ none 0 none 0:=⟨⟨Nat.le_refl _,fun k=>absurd k (Nat.lt_irrefl _)⟩,Nat.le_refl _,fun k=>absurd k (Nat.lt_irrefl _)⟩
def wcal (o:Nat→Bool):Ca:=⟨o,0,fun _=>⟨0,0,0,0,0,0,0,0⟩,0,fun _=>0⟩
theorem wcal_may (o:Nat→Bool):(wcal o).May↔∃i,i<7∧o i=false:=
 ⟨fun h=>h.1,fun h=>⟨h,Nat.zero_le _,Nat.zero_le _,fun j hj=>absurd hj (Nat.not_lt_zero j),fun j hj=>absurd hj (Nat.not_lt_zero j),fun j hj=>absurd hj (Nat.not_lt_zero _)⟩⟩
theorem zUu (o:Nat→Bool) (n:Int):(wcal o).Is n↔dy n∧o (wk n).toNat=false:=
 ⟨fun h=>⟨h.1,h.2.1⟩,fun h=>⟨h.1,h.2,fun j hj=>absurd hj (Nat.not_lt_zero j),fun j hj=>absurd hj (Nat.not_lt_zero j)⟩⟩
def oc:Nat→Bool:=fun i=>decide (5≤i)
def oz:Nat→Bool:=fun _=>false
theorem oc_may:(wcal oc).May:=(wcal_may oc).2 ⟨0,zd,zd⟩
end Go.Proofs.YtpfgdfpaoldhcaaGreatDoor
namespace Go.Proofs.YtpfgdfpaoldhcaaGreatDoor
open Go.RowKit
theorem zpxa6 {P:Prop} (h:P:=by
 go_enter Tryz.func25,Tryz.ntmps25
 go_wp2_with fail
 replace H:=H.box_11 w mo ra ki co st en ms bk lg eo ro 23 rfl
 go_ret
 exact⟨rfl,H.old⟩):P:=h
theorem zTy (mo ra ki co st en ms:Int) (bk lg eo:Bool) (ro:Int) (k:Int) (b:Bool) (w:World) (hs:1≤st∧st≤3652059) (he:1≤en∧en≤3652059) (ho:st<en) (hk:0≤k∧k≤1000) (h:decide (en-st≤31*k)=b) :
  Calls Tryz.prog 25 #[.agg #[mo,ra,ki,co,st,en,ms,bk,lg,eo,ro],k] w fun e w'=>e=.returned b∧Below w w w':=by
 have H:=Held.start w
 cases b
 ·exact zpxa6
 ·have h2:decide (st≤en)=true:=decide_eq_true zo
  exact zpxa6
theorem zNg (aO:Option Addr) (n ca:Nat) (X:Nat→Int) (bO:Option Addr) (cb:Nat) (Y:Nat→Int) (w:World) (hn:n≤2000) (hA:DaysAt w aO X n ca) (hB:DaysAt w bO Y n cb) (h:∀i,i<n→X i=Y i) :
  Calls Tryz.prog 20 #[.slice aO n ca,.slice bO n cb] w fun e w'=>e=.returned true∧Below w w w':=by
 have KA:=zh hA
 have KB:=zh hB
 have KE:=zh h
 clear hA hB h
 go_enter Tryz.func20,Tryz.ntmps20
 go_wp2_with fail
 go_loopw [5] (fun i wr=>∃k:Nat,k≤n∧i=.int .i64 (k:Int)∧Below w w wr) (fun i _=>n-(intOf i).toNat)
 case atStart=>exact⟨0,zo,rfl,Below.refl _ _⟩
 case round=>
  obtain⟨k,hk,rfl,hB⟩:=hrel
  have HB:=zh hB
  by_cases hlt:k<n
  ·obtain⟨bA,oA,rfl,da⟩:=(KA.out.below hB).2 zo
   obtain⟨bB,oB,rfl,db⟩:=(KB.out.below hB).2 zo
   have ka:=da k hlt
   have kb:=db k hlt
   rw[←KE.out k hlt] at kb
   obtain⟨x,hx⟩:∃x,X k=x:=⟨_,rfl⟩
   rw[hx] at ka kb
   have n1:=KA.out.1
   have n2:=KB.out.1
   clear da db hB hx
   go_wp2_with fail
   go_quiet (fail)
   go_wp2
   go_roundw
   case rel=>exact⟨k+1,zo,by go_num,zA7 HB.out _⟩
   case measure=>simp[intOf];omega
  ·obtain rfl:k=n:=zo
   clear hB
   go_wp2
   go_ret
   exact⟨rfl,HB.out⟩
end Go.Proofs.YtpfgdfpaoldhcaaGreatDoor
namespace Go.Proofs.YtpfgdfpaoldhcaaGreatDoor
open Go.RowKit
theorem Tm.Walk.long {t s:Tm} {X E:Nat→Int} {m:Nat} (h:t.Walk X E m) (h1:s.st=t.st) (h2:s.en=t.en) (h3:s.ms=t.ms) (h4:s.bk=t.bk) (h5:s.eo=t.eo):s.Walk X E m:=by
 have ea:s.an=t.an:=by unfold Tm.an;rw[h1,h2,h4]
 have ep:s.ap=t.ap:=by unfold Tm.ap;rw[h3,h4]
 refine⟨fun k=>?_,h.x0.trans ea.symm,h.e0,h.one,h.top,fun k a b=>?_,h.code,fun e=>?_,h.day,fun b=>h.up (h4▸b),fun b=>h.down (h4▸b)⟩
 ·rw[ea,ep,h5];exact h.mv k
 ·rw[h1,h2];exact h.mid k a b
 ·rw[h1,h2];exact h.last e
end Go.Proofs.YtpfgdfpaoldhcaaGreatDoor
namespace Go.Proofs.YtpfgdfpaoldhcaaGreatDoor
open Go.RowKit
theorem zLo (c:Ca) (aR:Option Addr) (cR:Nat) (aD:Option Addr) (cD:Nat) (b:Bool) (w:World) (hC:CalAt w c aR cR aD cD) (h:b=true↔c.May):Calls Tryz.prog 24 #[.agg #[(c.o 0),(c.o 1),(c.o 2),(c.o 3),(c.o 4),(c.o 5),(c.o 6),.slice aR c.nr cR,.slice aD c.nd cD]] w fun e w'=>e=.returned b∧Below w w w':=by
 have H:=(Held.start w).add (f:=calF c aR cR aD cD) hC
 have HB:=zh h
 clear h hC
 go_enter Tryz.func24,Tryz.ntmps24
 replace H:=H.box_9 w (c.o 0) (c.o 1) (c.o 2) (c.o 3) (c.o 4) (c.o 5) (c.o 6) (.slice aR c.nr cR) (.slice aD c.nd cD) 28 rfl
 obtain⟨k0,k1,k2,k3,k4,k5,k6,k7,k8⟩:=H.cells9 w
 go_wp2_with fail
 go_loopw [3,4] (fun u i W'=>∃(j:Nat) (x:Bool),j≤7∧i=.int .i64 j∧u=.bool x∧(x=true↔∃l,l<j∧c.o l=false)∧Held w (.cell w 0 (c.o 0)::.cell w 1 (c.o 1)::.cell w 2 (c.o 2)::.cell w 3 (c.o 3)::.cell w 4 (c.o 4)::.cell w 5 (c.o 5)::.cell w 6 (c.o 6)::.cell w 7 (.slice aR c.nr cR)::.cell w 8 (.slice aD c.nd cD)::.free w 0::.free w 1::.free w 2::.free w 3::.free w 4::.free w 5::.free w 6::.free w 7::.free w 8::calF c aR cR aD cD::[]) W') (fun _ i _=>7-(intOf i).toNat)
 case atStart=>exact⟨0,false,zo,rfl,rfl,⟨fun g=>absurd g zd,fun⟨l,g,_⟩=>absurd g zo⟩,H⟩
 case round=>
  clear H k0 k1 k2 k3 k4 k5 k6 k7 k8
  obtain⟨j,x,j1,rfl,rfl,hx,H⟩:=hrel
  have HX:=zh hx
  clear hx
  obtain⟨k0,k1,k2,k3,k4,k5,k6,k7,k8⟩:=H.cells9 w
  have lk:=H.lt w 0 (c.o 0) (i0_)
  by_cases hj:j<7
  ·have kv:=zRz hj k0 k1 k2 k3 k4 k5 k6
   obtain⟨y,hy⟩:∃y,c.o j=y:=⟨_,rfl⟩
   rw[hy] at kv
   have HY:=zh hy
   clear hy
   have NX:Hid ((x||!y)=true↔∃l,l<j+1∧c.o l=false):=zh (by
    rw[Bool.or_eq_true,Bool.not_eq_true',HX.out]
    constructor
    ·rintro (⟨l,g1,g2⟩ | g)
     ·exact⟨l,zo,g2⟩
     ·exact⟨j,zo,by rw[HY.out];exact g⟩
    ·rintro⟨l,g1,g2⟩
     by_cases e:l=j
     ·subst e;right;rw[←HY.out];exact g2
     ·left;exact⟨l,zo,g2⟩)
   cases x
   ·go_wp2
    go_roundw
    case rel=>exact⟨j+1,_,zo,by go_num,rfl,NX.out,H⟩
    case measure=>simp[intOf];omega
   ·go_wp2
    go_roundw
    case rel=>exact⟨j+1,_,zo,by go_num,rfl,NX.out,H⟩
    case measure=>simp[intOf];omega
  ·obtain rfl:j=7:=zo
   cases x with
   | false=>
    have e:b=false:=zB3 HB.out (fun g=>absurd (HX.out.2 g.1) zd)
    subst e
    go_wp2
    go_ret
    exact⟨rfl,H.old⟩
   | true=>
    by_cases hr:c.nr≤100
    ·by_cases hd:c.nd≤1000
     ·go_wp2_with fail
      clear k0 k1 k2 k3 k4 k5 k6 k7 k8 lk
      go_loopw [5] (fun i W'=>∃j:Nat,j≤c.nr∧i=.int .i64 j∧(∀l,l<j→(c.R l).May)∧Held w (.cell w 0 (c.o 0)::.cell w 1 (c.o 1)::.cell w 2 (c.o 2)::.cell w 3 (c.o 3)::.cell w 4 (c.o 4)::.cell w 5 (c.o 5)::.cell w 6 (c.o 6)::.cell w 7 (.slice aR c.nr cR)::.cell w 8 (.slice aD c.nd cD)::.free w 0::.free w 1::.free w 2::.free w 3::.free w 4::.free w 5::.free w 6::.free w 7::.free w 8::calF c aR cR aD cD::[]) W') (fun i _=>c.nr-(intOf i).toNat)
      case atStart=>exact⟨0,zo,rfl,fun l g=>by omega,H⟩
      case round=>
       clear H
       obtain⟨j,j1,rfl,hR,H⟩:=hrel
       have HR:=zh hR
       clear hR
       obtain⟨k0,k1,k2,k3,k4,k5,k6,k7,k8⟩:=H.cells9 w
       by_cases hj:j<c.nr
       ·obtain⟨bR,oR,rfl,hr⟩:=(H.cal (i18_)).1.2 zo
        obtain⟨q0,q1,q2,q3,q4,q5,q6,q7⟩:=hr j hj
        clear hr
        obtain⟨x,hx⟩:∃x,Ru.mb (c.R j)=x:=⟨_,rfl⟩
        have Q:=zh (fun v=>zTf (c.R j).k (c.R j).m (c.R j).d (c.R j).q (c.R j).o (c.R j).s (c.R j).f (c.R j).t x v hx)
        have HM:=zh hx
        clear hx
        go_wp2_with fail
        with_reducible refine (Q.out _).mono ?_
        clear q0 q1 q2 q3 q4 q5 q6 q7 k0 k1 k2 k3 k4 k5 k6 k7 k8 Q
        rintro e w3 ⟨rfl,hb⟩
        replace H:=H.below hb
        clear hb
        obtain⟨k0,k1,k2,k3,k4,k5,k6,k7,k8⟩:=H.cells9 w
        cases x with
        | false=>
         have e:b=false:=zB3 HB.out (fun g=>by
          have:=ru_yes (g.2.2.2.1 j hj)
          rw[HM.out] at this
          cases this)
         subst e
         go_wp2
         go_ret
         exact⟨rfl,H.old⟩
        | true=>
         go_wp2
         go_roundw
         case rel=>exact⟨j+1,zo,by go_num,fun l g=>by
          by_cases e:l=j
          ·subst e;exact of_decide_eq_true HM.out
          ·exact HR.out l zo,H⟩
         case measure=>simp[intOf];omega
       ·obtain rfl:j=c.nr:=zo
        go_wp2_with fail
        clear k0 k1 k2 k3 k4 k5 k6 k7 k8
        go_loopw [7] (fun i W'=>∃j:Nat,j≤c.nd∧i=.int .i64 j∧(∀l,l<j→1≤c.X l∧c.X l≤3652059)∧(∀l,l+1<j→c.X l<c.X (l+1))∧Held w (.cell w 0 (c.o 0)::.cell w 1 (c.o 1)::.cell w 2 (c.o 2)::.cell w 3 (c.o 3)::.cell w 4 (c.o 4)::.cell w 5 (c.o 5)::.cell w 6 (c.o 6)::.cell w 7 (.slice aR c.nr cR)::.cell w 8 (.slice aD c.nd cD)::.free w 0::.free w 1::.free w 2::.free w 3::.free w 4::.free w 5::.free w 6::.free w 7::.free w 8::calF c aR cR aD cD::[]) W') (fun i _=>c.nd-(intOf i).toNat)
        case atStart=>exact⟨0,zo,rfl,fun l g=>by omega,fun l g=>by omega,H⟩
        case round=>
         clear H
         obtain⟨j,j1,rfl,hA,hB,H⟩:=hrel
         have HA:=zh hA
         have HC:=zh hB
         clear hA hB
         obtain⟨k0,k1,k2,k3,k4,k5,k6,k7,k8⟩:=H.cells9 w
         by_cases hj:j<c.nd
         ·obtain⟨bD,oD,rfl,hd⟩:=(H.cal (i18_)).2.2 zo
          have kd:=hd j hj
          obtain⟨x,hx⟩:∃x,decide (1≤c.X j∧c.X j≤3652059)=x:=⟨_,rfl⟩
          have Q:=zh (fun v=>zAv (c.X j) x v hx)
          have HM:=zh hx
          clear hx
          go_wp2_with fail
          with_reducible refine (Q.out _).mono ?_
          clear Q
          rintro e w3 ⟨rfl,rfl⟩
          cases x with
          | false=>
           have e:b=false:=zB3 HB.out (fun g=>of_decide_eq_false HM.out (g.2.2.2.2.1 j hj))
           subst e
           go_wp2_with fail
           go_quiet (fail)
           go_wp2
           go_ret
           exact⟨rfl,H.old.trans ((zBi _).mono H.old.size)⟩
          | true=>
           rcases j with _ | i
           ·
            rw[Nat.add_zero] at kd
            go_wp2_with fail
            go_quiet (fail)
            go_wp2
            go_roundw
            case rel=>exact⟨1,zo,by go_num,fun l g=>by
             by_cases e:l=0
             ·subst e;exact of_decide_eq_true HM.out
             ·exact HA.out l zo,fun l g=>by omega,H.drewN _⟩
            case measure=>simp[intOf];omega
           ·
            have ki:=hd i zo
            by_cases hl:c.X (i+1)≤c.X i
            ·have t1:decide (c.X (i+1)≤c.X i)=true:=by simpa using hl
             have e:b=false:=zB3 HB.out (fun g=>by have:=g.2.2.2.2.2 i hj;omega)
             subst e
             go_wp2_with fail
             go_quiet (fail)
             go_wp2
             go_ret
             exact⟨rfl,H.old.trans ((zBi _).mono H.old.size)⟩
            ·have t1:decide (c.X (i+1)≤c.X i)=false:=by simpa using hl
             go_wp2_with fail
             go_quiet (fail)
             go_wp2
             go_roundw
             case rel=>exact⟨i+2,zo,by go_num,fun l g=>by
              by_cases e:l=i+1
              ·subst e;exact of_decide_eq_true HM.out
              ·exact HA.out l zo,fun l g=>by
              by_cases e:l=i
              ·subst e;omega
              ·exact HC.out l zo,H.drewN _⟩
             case measure=>simp[intOf];omega
         ·obtain rfl:j=c.nd:=zo
          have e:b=true:=HB.out.2 ⟨by simpa using HX.out,zo,zo,HR.out,HA.out,HC.out⟩
          subst e
          go_wp2
          go_ret
          exact⟨rfl,H.old⟩
     ·have e:b=false:=zB3 HB.out (fun g=>hd g.2.2.1)
      subst e
      go_wp2
      all_goals first | (exfalso;omega) | skip
      all_goals (go_ret;exact⟨rfl,H.old⟩)
    ·have e:b=false:=zB3 HB.out (fun g=>hr g.2.1)
     subst e
     go_wp2
     all_goals first | (exfalso;omega) | skip
     all_goals (go_ret;exact⟨rfl,H.old⟩)
theorem zpblt {P:Prop} (h:P:=by
 clear hC hM hF
 go_enter Tryz.func10,Tryz.ntmps10
 go_wp2_with fail
 replace H:=H.box_11 w t.mo t.ra t.ki t.co t.st t.en t.ms t.bk t.lg t.eo t.ro 23 rfl
 replace H:=H.box_9 (w+1) (c.o 0) (c.o 1) (c.o 2) (c.o 3) (c.o 4) (c.o 5) (c.o 6) (.slice aR c.nr cR) (.slice aD c.nd cD) 28 zs
 revert H
 with_reducible refine zG (fun _=>RF.out _) ?_
 intro w1 H
 obtain⟨cc0,cc1,cc2,cc3,cc4,cc5,cc6,cc7,cc8⟩:=H.cells9 (w+1)
 have lc:=zA0 cc0
 go_wp2_with fail
 clear cc0 cc1 cc2 cc3 cc4 cc5 cc6 cc7 cc8 lc
 revert H
 with_reducible refine zG (fun H=>RM.out _ (H.cal (c:=c) (aR:=aR) (cR:=cR) (aD:=aD) (cD:=cD))) ?_
 intro w2 H
 go_wp2
 go_ret
 exact⟨rfl,H.old⟩):P:=h
theorem zM3 (t:Tm) (c:Ca) (aR:Option Addr) (cR:Nat) (aD:Option Addr) (cD:Nat) (bM:Bool) (k:Int) (b:Bool) (w:World) (hC:CalAt w c aR cR aD cD) (hF:decide (c.nr≤12∧c.nd≤60)=false) (hM:bM=true↔c.May):Calls Tryz.prog 10 #[.agg #[t.mo,t.ra,t.ki,t.co,t.st,t.en,t.ms,t.bk,t.lg,t.eo,t.ro],.agg #[(c.o 0),(c.o 1),(c.o 2),(c.o 3),(c.o 4),(c.o 5),(c.o 6),.slice aR c.nr cR,.slice aD c.nd cD],k] w fun e w'=>e=.returned false∧Below w w w':=by
 have H:=(Held.start w).add (f:=calF c aR cR aD cD) hC
 have RM:=zh (fun v h=>zLo c aR cR aD cD bM v h hM)
 have RF:=zh (fun v=>zKy c aR cR aD cD false v hF)
 exact zpblt
theorem zM4 (t:Tm) (c:Ca) (aR:Option Addr) (cR:Nat) (aD:Option Addr) (cD:Nat) (k:Int) (b:Bool) (w:World) (hC:CalAt w c aR cR aD cD) (hF:decide (c.nr≤12∧c.nd≤60)=true) (hM:false=true↔c.May):Calls Tryz.prog 10 #[.agg #[t.mo,t.ra,t.ki,t.co,t.st,t.en,t.ms,t.bk,t.lg,t.eo,t.ro],.agg #[(c.o 0),(c.o 1),(c.o 2),(c.o 3),(c.o 4),(c.o 5),(c.o 6),.slice aR c.nr cR,.slice aD c.nd cD],k] w fun e w'=>e=.returned false∧Below w w w':=by
 have H:=(Held.start w).add (f:=calF c aR cR aD cD) hC
 have RM:=zh (fun v h=>zLo c aR cR aD cD false v h hM)
 have RF:=zh (fun v=>zKy c aR cR aD cD true v hF)
 exact zpblt
theorem zM5 (t:Tm) (c:Ca) (aR:Option Addr) (cR:Nat) (aD:Option Addr) (cD:Nat) (k:Int) (b:Bool) (w:World) (hC:CalAt w c aR cR aD cD) (hF:decide (c.nr≤12∧c.nd≤60)=true) (hM:true=true↔c.May) (hc:t.code=0) (hk:0≤k∧k≤1000) (hb:decide (t.en-t.st≤31*k)=b):Calls Tryz.prog 10 #[.agg #[t.mo,t.ra,t.ki,t.co,t.st,t.en,t.ms,t.bk,t.lg,t.eo,t.ro],.agg #[(c.o 0),(c.o 1),(c.o 2),(c.o 3),(c.o 4),(c.o 5),(c.o 6),.slice aR c.nr cR,.slice aD c.nd cD],k] w fun e w'=>e=.returned b∧Below w w w':=by
 have H:=(Held.start w).add (f:=calF c aR cR aD cD) hC
 have RM:=zh (fun v h=>zLo c aR cR aD cD true v h hM)
 have RF:=zh (fun v=>zKy c aR cR aD cD true v hF)
 obtain⟨hf9,hd9,ho9,-,-⟩:=t.of_zero hc
 have RC:=zh (fun v=>zEv t.mo t.ra t.ki t.co t.st t.en t.ms t.bk t.lg t.eo t.ro 0 v hc)
 have RS:=zh (fun v=>zTy t.mo t.ra t.ki t.co t.st t.en t.ms t.bk t.lg t.eo t.ro k b v hd9.1 hd9.2 ho9 hk hb)
 clear hc hf9 hd9 ho9 hb hk
 clear hC hM hF
 go_enter Tryz.func10,Tryz.ntmps10
 go_wp2_with fail
 replace H:=H.box_11 w t.mo t.ra t.ki t.co t.st t.en t.ms t.bk t.lg t.eo t.ro 23 rfl
 replace H:=H.box_9 (w+1) (c.o 0) (c.o 1) (c.o 2) (c.o 3) (c.o 4) (c.o 5) (c.o 6) (.slice aR c.nr cR) (.slice aD c.nd cD) 28 zs
 revert H
 with_reducible refine zG (fun _=>RF.out _) ?_
 intro w1 H
 obtain⟨cc0,cc1,cc2,cc3,cc4,cc5,cc6,cc7,cc8⟩:=H.cells9 (w+1)
 have lc:=zA0 cc0
 go_wp2_with fail
 clear cc0 cc1 cc2 cc3 cc4 cc5 cc6 cc7 cc8 lc
 revert H
 with_reducible refine zG (fun H=>RM.out _ (H.cal (c:=c) (aR:=aR) (cR:=cR) (aD:=aD) (cD:=cD))) ?_
 intro w2 H
 obtain⟨ct0,ct1,ct2,ct3,ct4,ct5,ct6,ct7,ct8,ct9,ct10⟩:=H.cells11 w
 have lt:=zA0 ct0
 go_wp2_with fail
 clear ct0 ct1 ct2 ct3 ct4 ct5 ct6 ct7 ct8 ct9 ct10 lt
 revert H
 with_reducible refine zG (fun _=>RC.out _) ?_
 intro w3 H
 obtain⟨ct0,ct1,ct2,ct3,ct4,ct5,ct6,ct7,ct8,ct9,ct10⟩:=H.cells11 w
 have lt:=zA0 ct0
 go_wp2_with fail
 clear ct0 ct1 ct2 ct3 ct4 ct5 ct6 ct7 ct8 ct9 ct10 lt
 revert H
 with_reducible refine zG (fun _=>RS.out _) ?_
 intro w4 H
 go_wp2
 go_ret
 exact⟨rfl,H.old⟩
theorem zQ3 (P:Prop):∃b:Bool,b=true↔P:=by
 by_cases h:P
 ·exact⟨true,fun _=>h,fun _=>rfl⟩
 ·exact⟨false,fun g=>(by cases g),fun g=>absurd g h⟩
theorem zEe (t:Tm) (c:Ca) (aR:Option Addr) (cR:Nat) (aD:Option Addr) (cD:Nat) (k:Int) (b:Bool) (w:World) (hC:CalAt w c aR cR aD cD) (hc:t.code=0) (hk:0≤k∧k≤1000) (hb:b=true↔(c.Few∧c.May∧t.en-t.st≤31*k)):Calls Tryz.prog 10 #[.agg #[t.mo,t.ra,t.ki,t.co,t.st,t.en,t.ms,t.bk,t.lg,t.eo,t.ro],.agg #[(c.o 0),(c.o 1),(c.o 2),(c.o 3),(c.o 4),(c.o 5),(c.o 6),.slice aR c.nr cR,.slice aD c.nd cD],k] w fun e w'=>e=.returned b∧Below w w w':=by
 obtain⟨bM,hM⟩:=zQ3 c.May
 by_cases hF:c.nr≤12∧c.nd≤60
 ·cases bM
  ·have e:b=false:=by
    cases b with
    | false=>rfl
    | true=>exact absurd (hM.2 (hb.1 rfl).2.1) zd
   subst e
   exact zM4 t c aR cR aD cD k false w hC (decide_eq_true hF) hM
  ·refine zM5 t c aR cR aD cD k b w hC (decide_eq_true hF) hM hc hk ?_
   rw[Bool.eq_iff_iff,decide_eq_true_eq,hb]
   exact⟨fun h=>⟨hF,hM.1 rfl,h⟩,fun h=>h.2.2⟩
 ·have e:b=false:=by
   cases b with
   | false=>rfl
   | true=>exact absurd (hb.1 rfl).1 hF
  subst e
  exact zM3 t c aR cR aD cD bM k false w hC (decide_eq_false hF) hM
theorem zS4 (aO:Option Addr) (n ca:Nat) (P Q:Nat→Int) (bO:Option Addr) (cb:Nat) (P' Q':Nat→Int) (w:World) (hn:n≤2000) (hA:RatAt w aO P Q n ca) (hB:RatAt w bO P' Q' n cb) (h:∀i,i<n→P i=P' i∧Q i=Q' i) :
  Calls Tryz.prog 22 #[.slice aO n ca,.slice bO n cb] w fun e w'=>e=.returned true∧Below w w w':=by
 have KA:=zh hA
 have KB:=zh hB
 have KH:=zh h
 have ca':=hA.1
 have cb':=hB.1
 clear hA hB h
 go_enter Tryz.func22,Tryz.ntmps22
 go_wp2_with fail
 go_loopw [5] (fun i wr=>∃k:Nat,k≤n∧i=.int .i64 (k:Int)∧Below w w wr) (fun i _=>n-(intOf i).toNat)
 case atStart=>exact⟨0,zo,rfl,Below.refl _ _⟩
 case round=>
  obtain⟨k,hk,rfl,hB⟩:=hrel
  have HB:=zh hB
  by_cases hlt:k<n
  ·obtain⟨b1,o1,rfl,h1⟩:=(KA.out.below hB).2 zo
   obtain⟨b2,o2,rfl,h2⟩:=(KB.out.below hB).2 zo
   obtain⟨x0,x1⟩:=h1 k hlt
   obtain⟨y0,y1⟩:=h2 k hlt
   obtain⟨e0,e1⟩:=KH.out k hlt
   rw[←e0] at y0
   rw[←e1] at y1
   rw[Nat.mul_comm 2 k] at x0 x1 y0 y1
   clear h1 h2 e0 e1 hB
   go_wp2_with fail
   go_quiet (fail)
   clear x0 x1 y0 y1
   go_wp2
   go_roundw
   case rel=>exact⟨k+1,zo,by go_num,zA7 HB.out nq⟩
   case measure=>simp[intOf];omega
  ·obtain rfl:k=n:=zo
   clear hB
   go_wp2
   go_ret
   exact⟨rfl,HB.out⟩
theorem same_yes (a0 a1 a2 a3 b0 b1 b2 b3:Option Addr) (n m r p0 p1 p2 p3 q0 q1 q2 q3:Nat) (eo:Bool) (en f:Int) (A B G P Q A' B' G' P' Q':Nat→Int) (w:World) (hn:n≤2000) (hm:m≤2000) (hr:r≤2000)
  (h0:DaysAt w a0 A n p0) (h1:DaysAt w a1 B n p1) (h2:RatAt w a2 P Q m p2) (h3:DaysAt w a3 G r p3) (k0:DaysAt w b0 A' n q0) (k1:DaysAt w b1 B' n q1) (k2:RatAt w b2 P' Q' m q2) (k3:DaysAt w b3 G' r q3)
  (e0:∀i,i<n→A i=A' i) (e1:∀i,i<n→B i=B' i) (e2:∀i,i<m→P i=P' i∧Q i=Q' i) (e3:∀i,i<r→G i=G' i) :
  Calls Tryz.prog 13 #[.agg #[.slice a0 n p0,.slice a1 n p1,.slice a2 m p2,eo,en,f,.slice a3 r p3],.agg #[.slice b0 n q0,.slice b1 n q1,.slice b2 m q2,eo,en,f,.slice b3 r q3]] w fun e w'=>e=.returned true∧Below w w w':=by
 have H:=(((((((((Held.start w).add (f:=zAb a0 A n p0) h0).add (f:=zAb a1 B n p1) h1).add (f:=ratF a2 P Q m p2) h2).add (f:=zAb a3 G r p3) h3).add (f:=zAb b0 A' n q0) k0).add (f:=zAb b1 B' n q1) k1).add (f:=ratF b2 P' Q' m q2) k2).add (f:=zAb b3 G' r q3) k3)
 clear h0 h1 h2 h3 k0 k1 k2 k3
 have E0:=zh e0
 have E1:=zh e1
 have E2:=zh e2
 have E3:=zh e3
 clear e0 e1 e2 e3
 go_enter Tryz.func13,Tryz.ntmps13
 go_wp2_with fail
 replace H:=H.box_7 w (.slice a0 n p0) (.slice a1 n p1) (.slice a2 m p2) eo en f (.slice a3 r p3) 35 rfl
 replace H:=H.box_7 (w+1) (.slice b0 n q0) (.slice b1 n q1) (.slice b2 m q2) eo en f (.slice b3 r q3) 35 zs
 obtain⟨cx0,cx1,cx2,cx3,cx4,cx5,cx6⟩:=H.cells7 w
 have lx:=zA0 cx0
 obtain⟨cy0,cy1,cy2,cy3,cy4,cy5,cy6⟩:=H.cells7 (w+1)
 have ly:=zA0 cy0
 go_wp2_with fail
 clear cx0 cx1 cx2 cx3 cx4 cx5 cx6 lx cy0 cy1 cy2 cy3 cy4 cy5 cy6 ly
 revert H
 with_reducible refine zG (fun H=>zNg a0 n p0 A b0 q0 A' _ hn (H.days (ao:=a0) (X:=A) (n:=n) (cap:=p0)) (H.days (ao:=b0) (X:=A') (n:=n) (cap:=q0)) E0.out) ?_
 intro w1 H
 obtain⟨cx0,cx1,cx2,cx3,cx4,cx5,cx6⟩:=H.cells7 w
 have lx:=zA0 cx0
 obtain⟨cy0,cy1,cy2,cy3,cy4,cy5,cy6⟩:=H.cells7 (w+1)
 have ly:=zA0 cy0
 go_wp2_with fail
 clear cx0 cx1 cx2 cx3 cx4 cx5 cx6 lx cy0 cy1 cy2 cy3 cy4 cy5 cy6 ly
 revert H
 with_reducible refine zG (fun H=>zNg a1 n p1 B b1 q1 B' _ hn (H.days (ao:=a1) (X:=B) (n:=n) (cap:=p1)) (H.days (ao:=b1) (X:=B') (n:=n) (cap:=q1)) E1.out) ?_
 intro w2 H
 obtain⟨cx0,cx1,cx2,cx3,cx4,cx5,cx6⟩:=H.cells7 w
 have lx:=zA0 cx0
 obtain⟨cy0,cy1,cy2,cy3,cy4,cy5,cy6⟩:=H.cells7 (w+1)
 have ly:=zA0 cy0
 go_wp2_with fail
 clear cx0 cx1 cx2 cx3 cx4 cx5 cx6 lx cy0 cy1 cy2 cy3 cy4 cy5 cy6 ly
 revert H
 with_reducible refine zG (fun H=>zNg a3 r p3 G b3 q3 G' _ hr (H.days (ao:=a3) (X:=G) (n:=r) (cap:=p3)) (H.days (ao:=b3) (X:=G') (n:=r) (cap:=q3)) E3.out) ?_
 intro w3 H
 obtain⟨cx0,cx1,cx2,cx3,cx4,cx5,cx6⟩:=H.cells7 w
 have lx:=zA0 cx0
 obtain⟨cy0,cy1,cy2,cy3,cy4,cy5,cy6⟩:=H.cells7 (w+1)
 have ly:=zA0 cy0
 go_wp2_with fail
 clear cx0 cx1 cx2 cx3 cx4 cx5 cx6 lx cy0 cy1 cy2 cy3 cy4 cy5 cy6 ly
 revert H
 with_reducible refine zG (fun H=>zS4 a2 m p2 P Q b2 q2 P' Q' _ hm (H.rat (ao:=a2) (P:=P) (Q:=Q) (n:=m) (cap:=p2)) (H.rat (ao:=b2) (P:=P') (Q:=Q') (n:=m) (cap:=q2)) E2.out) ?_
 intro w4 H
 obtain⟨cx0,cx1,cx2,cx3,cx4,cx5,cx6⟩:=H.cells7 w
 have lx:=zA0 cx0
 obtain⟨cy0,cy1,cy2,cy3,cy4,cy5,cy6⟩:=H.cells7 (w+1)
 have ly:=zA0 cy0
 go_wp2
 clear cx0 cx1 cx2 cx3 cx4 cx5 cx6 lx cy0 cy1 cy2 cy3 cy4 cy5 cy6 ly
 go_ret
 exact⟨rfl,H.old⟩
end Go.Proofs.YtpfgdfpaoldhcaaGreatDoor
namespace Go.Proofs.YtpfgdfpaoldhcaaGreatDoor
open Go.RowKit
theorem zCu (y m d n:Int) (w:World) (h:nN y m d=n):Calls Tryz.prog 21 #[y,m,d] w fun e w'=>e=.returned n∧Below w w w':=by
 obtain⟨c,hc⟩:∃c,nE y m d=c:=⟨_,rfl⟩
 have C:=zh (fun v=>zB9 y m d n c v ⟨h,hc⟩)
 clear h hc
 go_enter Tryz.func21,Tryz.ntmps21
 go_wp2_with fail
 with_reducible refine (C.out _).mono ?_
 rintro e w1 ⟨rfl,hb⟩
 go_wp2
 go_ret
 exact⟨rfl,hb⟩
def ex17:Tm:=Tm.mk 1 0 0 3 738900 739082 3 false false false 1
def ex17X (k:Nat):Int:=sx false 2024 1 15 (24288+(k:Int)*3)
def ex17E (k:Nat):Int:=se (24288+(k:Int)*3)
def zCl (i:Nat):Int:=if i=0 then 738900 else if i=1 then 738991 else 739082
def zCk:Pl:=⟨ex17X,ex17E,2,1,zCl,fun _=>0,zCl,fun _=>0,fun _=>91,fun _=>360,fun _=>0⟩
theorem zQz:ex17.code=0:=ze
theorem zR1:ex17.Walk ex17X ex17E 2:=by
 refine zKj ex17 zQz 2024 1 15 24288 (by unfold may;decide +kernel) ze zd 2 zd zd ?_ ?_
 ·intro k h1 h2
  obtain rfl:k=1:=zo
  decide +kernel
 ·intro _
  decide +kernel
theorem zF8 (n:Int) (h:(1≤n∧n≤3652059)∧oc (wk n).toNat=false):ToIs (wcal oc) n 1 n 0:=ToIs.stay ((zUu oc n).2 h) zd zd
theorem zR0:PlanIs ex17 (wcal oc) zCk where
 walk _:=zR1
 q _:=ze
 roll i hi:=by
  have:i=0∨i=1∨i=2:=by have:i<1+2:=hi;omega
  rcases this with rfl | rfl | rfl
  ·rw[show ex17.dd zCk.X zCk.q 0=738900 by decide +kernel];exact zF8 738900 ze
  ·rw[show ex17.dd zCk.X zCk.q 1=738991 by decide +kernel];exact zF8 738991 ze
  ·rw[show ex17.dd zCk.X zCk.q 2=739082 by decide +kernel];exact zF8 739082 ze
 grid i hi:=by
  have hk:zCk.K=3:=ze
  have:i=0∨i=1∨i=2:=zo
  rcases this with rfl | rfl | rfl
  ·rw[show zCk.G ex17 0=738900 by decide +kernel];exact zF8 738900 ze
  ·rw[show zCk.G ex17 1=738991 by decide +kernel];exact zF8 738991 ze
  ·rw[show zCk.G ex17 2=739082 by decide +kernel];exact zF8 739082 ze
 part i hi:=by
  have:i=0∨i=1:=by have:i<1+1:=hi;omega
  rcases this with rfl | rfl
  ·exact Or.inr (Or.inr (Or.inr (Or.inl ⟨rfl,ac_in 2024 1 15 2024 4 15 (by unfold may;decide +kernel) ze (by unfold may;decide +kernel) ze ze ze ze⟩)))
  ·exact Or.inr (Or.inr (Or.inr (Or.inl ⟨rfl,ac_in 2024 4 15 2024 7 15 (by unfold may;decide +kernel) ze (by unfold may;decide +kernel) ze ze ze ze⟩)))
def zFu:Tm:=Tm.mk 0 0 0 3 738900 739082 3 false false false 1
theorem zCr:zFu.code=2:=ze
theorem ex17_out {n0:Nat} {e:Ending} {W:World} (h:PlanOut zCk ex17 n0 e W):∃a0 a1 a2 a3 c0 c1 c2 c3,e=.returned (.tuple #[.agg #[.slice a0 3 c0,.slice a1 3 c1,.slice a2 2 c2,false,(739082:Int),(4:Int),.slice a3 0 c3],(0:Int)])∧DaysAt W a0 zCl 3 c0∧DaysAt W a1 zCl 3 c1∧RatAt W a2 (fun _=>91) (fun _=>360) 2 c2:=by
 obtain⟨a0,a1,a2,a3,c0,c1,c2,c3,rfl,h0,h1,h2,-,-⟩:=h
 have e1:zCk.n ex17=3:=ze
 have e2:zCk.np ex17=2:=ze
 have e3:zCk.ng ex17=0:=ze
 have e4:zCk.eo ex17=false:=ze
 have e5:zCk.en ex17=739082:=ze
 have e6:zCk.f ex17=4:=ze
 have e7:zCk.code ex17=0:=ze
 rw[e1] at h0 h1
 rw[e2] at h2
 refine⟨a0,a1,a2,a3,c0,c1,c2,c3,by rw[e1,e2,e3,e4,e5,e6,e7],h0.ext (fun i hi=>?_),h1,h2⟩
 have:i=0∨i=1∨i=2:=zo
 rcases this with rfl | rfl | rfl <;> decide +kernel
theorem zQy {x:Pl} {n0:Nat} {e:Ending} {W:World} (h:PlanOut x zFu n0 e W):∃a0 a1 a2 a3 c0 c1 c2 c3,e=.returned (.tuple #[.agg #[.slice a0 0 c0,.slice a1 0 c1,.slice a2 0 c2,false,(0:Int),(0:Int),.slice a3 0 c3],(2:Int)]):=by
 obtain⟨a0,a1,a2,a3,c0,c1,c2,c3,rfl,-,-,-,-,-⟩:=h
 have hx:x.code zFu=2:=by unfold Pl.code;rw[if_pos (by rw[zCr];decide)];exact zCr
 have hn:x.n zFu=0:=by unfold Pl.n;rw[if_neg zo]
 have hp:x.np zFu=0:=by unfold Pl.np;rw[if_neg zo]
 have hg:x.ng zFu=0:=by unfold Pl.ng;rw[if_neg zo]
 have h1:x.eo zFu=false:=by unfold Pl.eo;rw[if_neg zo]
 have h2:x.en zFu=0:=by unfold Pl.en;rw[if_neg zo]
 have h3:x.f zFu=0:=by unfold Pl.f;rw[if_neg zo]
 exact⟨a0,a1,a2,a3,c0,c1,c2,c3,by rw[hn,hp,hg,h1,h2,h3,hx]⟩
theorem zMr (j:Nat):(1:Int)≠zCl j:=by unfold zCl;split <;> (try split) <;> decide
theorem zPg (W:World):DaysAt (W.alloc (.cells #[(738900:Int),(738991:Int),(739082:Int)] 3)) (some ⟨W,0,none⟩) zCl 3 3:=
 ⟨Nat.le_refl _,fun _=>⟨W,0,rfl,fun j hj=>by
  have:j=0∨j=1∨j=2:=zo
  rcases this with rfl | rfl | rfl <;> simp[World.cell?_alloc_new,zCl]⟩⟩
theorem two_at17 (W:World):RatAt (W.alloc (.cells #[(91:Int),(360:Int),(91:Int),(360:Int)] 48)) (some ⟨W,0,none⟩) (fun _=>91) (fun _=>360) 2 2:=
 ⟨Nat.le_refl _,fun _=>⟨W,0,rfl,fun j hj=>by
  have:j=0∨j=1:=zo
  rcases this with rfl | rfl <;> simp[World.cell?_alloc_new]⟩⟩
theorem zpkct {P:Prop} (h:P:=by
 intro w hSw;(try dsimp only at hSw);go_simp;try with_reducible rfl):P:=h
theorem setr17 {W:World} {ao:Option Addr} {P Q:Nat→Int} {n cap B o:Nat} {old:Value} (h:RatAt W ao P Q n cap) (ho:W.cell? ⟨B,o,none⟩=some old) (h1:∀j,j<n→old≠.int .i64 (P j)) (h2:∀j,j<n→old≠.int .i64 (Q j)) (u:Value):RatAt (W.setCell ⟨B,o,none⟩ u) ao P Q n cap:=
 ⟨h.1,fun hn=>by
  obtain⟨b,off,e,hc⟩:=h.2 hn
  exact⟨b,off,e,fun j hj=>⟨zA3 (hc j hj).1 (zBy (hc j hj).1 ho (fun e=>h1 j hj e.symm)) u,zA3 (hc j hj).2 (zBy (hc j hj).2 ho (fun e=>h2 j hj e.symm)) u⟩⟩⟩
theorem zD0 (w:World) (hL:FactsS w):Calls Tryz.prog 9 #[] w fun e w'=>e=.returned true∧Below w w w':=by
 have H:=(Held.start w).add (f:=zAg) hL
 have HF:=zh hL
 obtain⟨xn,hxn,-⟩:=zLh zFu (wcal oc) (fun _=>0) (fun _=>0) 0 0 (fun g=>by rw[zCr] at g;cases g) (fun g=>by rw[zCr] at g;cases g)
 have O1:Hid (∀v,FactsS v→Calls Tryz.prog 11 #[.agg #[(1:Int),(0:Int),(0:Int),(3:Int),(738900:Int),(739082:Int),(3:Int),false,false,false,(1:Int)],.agg #[false,false,false,false,false,true,true,.slice none 0 0,.slice none 0 0]] v fun e w'=>PlanOut zCk ex17 v.heap.size e w'∧Below v v w'):=zh (fun v h=>zIv ex17 (wcal oc) none 0 none 0 zCk v h (zMj _ _ _ _) oc_may zR0 (fun _=>⟨zd,zd⟩))
 have O2:Hid (∀v,FactsS v→Calls Tryz.prog 11 #[.agg #[(0:Int),(0:Int),(0:Int),(3:Int),(738900:Int),(739082:Int),(3:Int),false,false,false,(1:Int)],.agg #[false,false,false,false,false,true,true,.slice none 0 0,.slice none 0 0]] v fun e w'=>PlanOut xn zFu v.heap.size e w'∧Below v v w'):=zh (fun v h=>zIv zFu (wcal oc) none 0 none 0 xn v h (zMj _ _ _ _) oc_may hxn (fun g=>by rw[zCr] at g;cases g))
 clear hL hxn
 go_enter Tryz.func9,Tryz.ntmps9
 go_wp2_with fail
 revert H
 with_reducible refine zG (fun _=>zCu 2024 1 15 738900 _ ze) ?_
 intro w1 H
 go_wp2_with fail
 revert H
 with_reducible refine zG (fun _=>zCu 2024 7 15 739082 _ ze) ?_
 intro w2 H
 go_wp2_with fail
 have HTW:Hid (w.heap.size≤w2.heap.size):=zh H.size
 replace H:=H.box_11 w2 (1:Int) (0:Int) (0:Int) (3:Int) (738900:Int) (739082:Int) (3:Int) false false false (1:Int) 23 rfl
 replace H:=H.box_9 (w2+1) false false false false false true true (.slice none 0 0) (.slice none 0 0) 28 zs
 with_reducible refine (O1.out _ (H.factsS)).mono ?_
 rintro e w3 ⟨hp,hb⟩
 obtain⟨a0,a1,a2,a3,c0,c1,c2,c3,rfl,hd0,hd1,hd2⟩:=ex17_out hp
 replace H:=(((H.below hb).add (f:=zAb a0 zCl 3 c0) hd0).add (f:=zAb a1 zCl 3 c1) hd1).add (f:=ratF a2 (fun _=>91) (fun _=>360) 2 c2) hd2
 clear hb hp hd0 hd1 hd2
 obtain⟨ct0,ct1,ct2,ct3,ct4,ct5,ct6,ct7,ct8,ct9,ct10⟩:=H.cells11 w2
 have lt:=zA0 ct0
 obtain⟨cc0,cc1,cc2,cc3,cc4,cc5,cc6,cc7,cc8⟩:=H.cells9 (w2+1)
 have lc:=zA0 cc0
 go_upto_region 4 with fail
 clear ct0 ct1 ct2 ct3 ct4 ct5 ct6 ct7 ct8 ct9 ct10 lt cc0 cc1 cc2 cc3 cc4 cc5 cc6 cc7 cc8 lc
 replace H:=H.box_7 w3 (.slice a0 3 c0) (.slice a1 3 c1) (.slice a2 2 c2) false (739082:Int) (4:Int) (.slice a3 0 c3) 35 rfl
 replace H:Held w [.cell w2 0 (1:Int),.cell w2 1 (0:Int),.cell w2 2 (0:Int),.cell w2 3 (3:Int),.cell w2 4 (738900:Int),.cell w2 5 (739082:Int),.cell w2 6 (3:Int),.cell w2 7 false,.cell w2 8 false,.cell w2 9 false,.cell w2 10 (1:Int),.cell (w2+1) 0 false,.cell (w2+1) 1 false,.cell (w2+1) 2 false,.cell (w2+1) 3 false,.cell (w2+1) 4 false,.cell (w2+1) 5 true,.cell (w2+1) 6 true,.cell (w2+1) 7 (.slice none 0 0),.cell (w2+1) 8 (.slice none 0 0),.cell w3 0 (.slice a0 3 c0),.cell w3 1 (.slice a1 3 c1),.cell w3 2 (.slice a2 2 c2),.cell w3 3 false,.cell w3 4 (739082:Int),.cell w3 5 (4:Int),.cell w3 6 (.slice a3 0 c3),.free w2 0,zAb a0 zCl 3 c0,zAb a1 zCl 3 c1,ratF a2 (fun _=>91) (fun _=>360) 2 c2,zAg] _:=H.sub (fun f hf=>by
  simp only[List.mem_cons,List.not_mem_nil,or_false] at hf
  rcases hf with rfl | rfl | rfl | rfl | rfl | rfl | rfl | rfl | rfl | rfl | rfl | rfl | rfl | rfl | rfl | rfl | rfl | rfl | rfl | rfl | rfl | rfl | rfl | rfl | rfl | rfl | rfl | rfl | rfl | rfl | rfl | rfl
  all_goals (repeat (first | with_reducible exact List.mem_cons_self | with_reducible apply List.mem_cons_of_mem)))
 revert H
 generalize World.alloc _ _=W4
 intro H
 have kt:=H.cell w2 0 _
 have ft:=H.frozen w2 0
 have lt:=zA0 kt
 have nec:=zBy (H.cell (w2+1) 0 false) kt (by intro e;cases e)
 have nep:=zBy (H.cell w3 0 (.slice a0 3 c0)) kt (by intro e;cases e)
 have htw:w.heap.size≤w2.heap.size:=HTW.out
 go_upto_region 5 with fail
 clear kt ft lt
 replace H:=Held.put17 H (0:Int) htw (zA1 (Or.inr zd) (zA1 (Or.inr zd) (zA1 (Or.inr zd) (zA1 (Or.inr zd) (zA1 (Or.inr zd) (zA1 (Or.inr zd) (zA1 (Or.inr zd) (zA1 (Or.inr zd) (zA1 (Or.inr zd) (zA1 (Or.inr zd) (zA1 nec (zA1 (Or.inr zd) (zA1 (Or.inr zd) (zA1 (Or.inr zd) (zA1 (Or.inr zd) (zA1 (Or.inr zd) (zA1 (Or.inr zd) (zA1 (Or.inr zd) (zA1 (Or.inr zd) (zA1 nep (zA1 (Or.inr zd) (zA1 (Or.inr zd) (zA1 (Or.inr zd) (zA1 (Or.inr zd) (zA1 (Or.inr zd) (zA1 (Or.inr zd) (zA1 trivial (zA1 (Or.inr (fun W u ho h=>zA8 h ho (fun j hj e=>by injection e with _ e;exact zMr j e) u)) (zA1 (Or.inr (fun W u ho h=>zA8 h ho (fun j hj e=>by injection e with _ e;exact zMr j e) u)) (zA1 (Or.inr (fun W u ho h=>setr17 h ho (fun j hj e=>by injection e with _ e;revert e;decide) (fun j hj e=>by injection e with _ e;revert e;decide) u)) (zA1 (Or.inl HF.out) (fun f hf=>absurd hf (List.not_mem_nil)))))))))))))))))))))))))))))))))
 clear nec nep htw
 revert H
 generalize World.setCell _ _ _=W5
 intro H
 obtain⟨ct0,ct1,ct2,ct3,ct4,ct5,ct6,ct7,ct8,ct9,ct10⟩:=H.cells11 w2
 have lt:=zA0 ct0
 obtain⟨cc0,cc1,cc2,cc3,cc4,cc5,cc6,cc7,cc8⟩:=H.cells9 (w2+1)
 have lc:=zA0 cc0
 go_wp2_with fail
 clear ct0 ct1 ct2 ct3 ct4 ct5 ct6 ct7 ct8 ct9 ct10 lt cc0 cc1 cc2 cc3 cc4 cc5 cc6 cc7 cc8 lc
 with_reducible refine (O2.out _ (H.factsS)).mono ?_
 rintro e w6 ⟨hp,hb⟩
 obtain⟨b0,b1,b2,b3,d0,d1,d2,d3,rfl⟩:=zQy hp
 replace H:=H.below hb
 clear hb hp
 go_upto_region 7 with fail
 replace H:=H.alloc (.cells #[.slice b0 0 d0,.slice b1 0 d1,.slice b2 0 d2,false,(0:Int),(0:Int),.slice b3 0 d3] 35)
 replace H:=H.pair (w6+1) (91:Int) (360:Int) 48 zs
 revert H
 generalize World.alloc _ _=W7
 intro H
 obtain⟨i0,hi,hz0,hz1,hz2⟩:=info_parts zAo
 replace H:=H.drew
 refine wp_region_held_drew (S:=fun w'=>w'.cell? ⟨w3,0,none⟩=some (.slice a0 3 c0)∧w'.cell? ⟨w3,1,none⟩=some (.slice a1 3 c1)∧w'.cell? ⟨w3,2,none⟩=some (.slice a2 2 c2)∧w'.cell? ⟨w3,4,none⟩=some (.int .i64 739082)∧w'.cell? ⟨w3,5,none⟩=some (.int .i64 4)∧w'.cell? ⟨w3,6,none⟩=some (.slice a3 0 c3)∧w'.cell? ⟨w6+1,0,none⟩=some (.int .i64 91)∧w'.cell? ⟨w6+1,1,none⟩=some (.int .i64 360)) zk (⟨H.c,H.c,H.c,H.c,H.c,H.c,H.c,H.c⟩) (fun hHeld=>?_)
 obtain⟨WD,hWD⟩:∃WD,World.drew (W7)=WD:=⟨_,rfl⟩
 rw[hWD] at H hHeld  ⊢
 clear hWD
 obtain⟨b0,hb0⟩:∃b0,WD.heap.size=b0:=⟨_,rfl⟩
 have HB:=Below.refl b0 WD
 have HWD:=zh H
 have HS:Hid (∀W,Below b0 WD W→b0≤W.heap.size):=zh (fun W h=>by have z:=h.size;rw[hb0] at z;exact z)
 have HU:Hid (∀W,Below b0 WD W→Below WD WD W):=zh (fun W h=>by rw[hb0];exact h)
 clear hb0
 refine wpAnyH_take (i:=0) (oi:=⟨some 27,_,_,_,_,_⟩) (v:=?_) rfl zk zk zk (fun _ _ _ h=>h) (Or.inl ⟨zr,?_⟩) za ?_
 rotate_left
 ·exact zpkct
 go_frame
 refine wpAnyH_take (i:=1) (oi:=⟨some 28,_,_,_,_,_⟩) (v:=?_) rfl zk zk zk (fun _ _ _ h=>h) (Or.inl ⟨zr,?_⟩) za ?_
 rotate_left
 ·exact zpkct
 go_frame
 refine wpAnyH_take (i:=2) (oi:=⟨some 29,_,_,_,_,_⟩) (v:=?_) rfl zk zk zk (fun _ _ _ h=>h) (Or.inl ⟨zr,?_⟩) za ?_
 rotate_left
 ·exact zpkct
 go_frame
 refine wpAnyH_take (i:=3) (oi:=⟨some 30,_,_,_,_,_⟩) (v:=?_) rfl zk zk zk (fun _ _ _ h=>h) (Or.inl ⟨zr,?_⟩) za ?_
 rotate_left
 ·exact zpkct
 go_frame
 refine wpAnyH_take (i:=4) (oi:=⟨some 31,_,_,_,_,_⟩) (v:=?_) rfl zk zk zk (fun _ _ _ h=>h) (Or.inl ⟨zr,?_⟩) za ?_
 rotate_left
 ·exact zpkct
 go_frame
 refine wpAnyH_take (i:=5) (oi:=⟨some 32,_,_,_,_,_⟩) (v:=?_) rfl zk zk zk (fun _ _ _ h=>h) (Or.inl ⟨zr,?_⟩) za ?_
 rotate_left
 ·exact zpkct
 go_frame
 refine wpAnyH_take (i:=6) (oi:=⟨some 33,_,_,_,_,_⟩) (v:=?_) rfl zk zk zk (fun _ _ _ h=>h) (Or.inl ⟨zr,?_⟩) za ?_
 rotate_left
 ·exact zpkct
 go_frame
 refine wpAnyH_take (i:=7) (oi:=⟨some 34,_,_,_,_,_⟩) (v:=?_) rfl zk zk zk (fun _ _ _ h=>h) (Or.inl ⟨zr,?_⟩) za ?_
 rotate_left
 ·exact zpkct
 go_frame
 refine wpAnyH_take (i:=8) (oi:=⟨some 35,_,_,_,_,_⟩) (v:=?_) rfl zk zk zk (fun _ _ _ h=>h) (Or.inl ⟨zr,?_⟩) za ?_
 rotate_left
 ·exact zpkct
 go_frame
 refine wpAnyH_ready (rs:=[9]) zk zs ?_
 refine AllReadyH.cons (o:=⟨some 36,_,_,_,_,_⟩) rfl (fun K hK=>?_) AllReadyH.nil
 go_simp
 with_reducible refine (zCu 2024 1 15 738900 _ ze).mono ?_
 rintro e U1 ⟨rfl,hb⟩
 replace H:=H.below hb
 replace HB:=HB.trans (hb.mono (HS.out _ HB))
 clear hb
 go_wp2_with fail
 refine hK.out _ _ (⟨H.c,H.c,H.c,H.c,H.c,H.c,H.c,H.c⟩) (fun hNew=>?_)
 clear hK K hHeld
 have hHeld:=hNew
 clear hNew
 try go_frame
 refine wpAnyH_ready (rs:=[10]) zk zs ?_
 refine AllReadyH.cons (o:=⟨some 37,_,_,_,_,_⟩) rfl (fun K hK=>?_) AllReadyH.nil
 go_simp
 with_reducible refine (zCu 2024 4 15 738991 _ ze).mono ?_
 rintro e U2 ⟨rfl,hb⟩
 replace H:=H.below hb
 replace HB:=HB.trans (hb.mono (HS.out _ HB))
 clear hb
 go_wp2_with fail
 refine hK.out _ _ (⟨H.c,H.c,H.c,H.c,H.c,H.c,H.c,H.c⟩) (fun hNew=>?_)
 clear hK K hHeld
 have hHeld:=hNew
 clear hNew
 try go_frame
 refine wpAnyH_ready (rs:=[11]) zk zs ?_
 refine AllReadyH.cons (o:=⟨some 38,_,_,_,_,_⟩) rfl (fun K hK=>?_) AllReadyH.nil
 go_simp
 with_reducible refine (zCu 2024 7 15 739082 _ ze).mono ?_
 rintro e U3 ⟨rfl,hb⟩
 replace H:=H.below hb
 replace HB:=HB.trans (hb.mono (HS.out _ HB))
 clear hb
 go_wp2_with fail
 refine hK.out _ _ (⟨H.c,H.c,H.c,H.c,H.c,H.c,H.c,H.c⟩) (fun hNew=>?_)
 clear hK K hHeld
 have hHeld:=hNew
 clear hNew
 try go_frame
 refine wpAnyH_ready (rs:=[12]) zk zs ?_
 refine AllReadyH.cons (o:=⟨some 39,_,_,_,_,_⟩) rfl (fun K hK=>?_) AllReadyH.nil
 have nr:=zPg U3
 replace H:=H.alloc (.cells #[(738900:Int),(738991:Int),(739082:Int)] 3)
 replace HB:=HB.alloc (HS.out _ HB) (.cells #[(738900:Int),(738991:Int),(739082:Int)] 3)
 go_simp
 refine hK.out _ _ (⟨H.c,H.c,H.c,H.c,H.c,H.c,H.c,H.c⟩) (fun hNew=>?_)
 clear hK K hHeld
 have hHeld:=hNew
 clear hNew
 try go_frame
 obtain⟨T4,hT4⟩:∃T,U3.heap.size=T:=⟨_,rfl⟩
 obtain⟨U4,hU4⟩:∃U,U3.alloc (.cells #[(738900:Int),(738991:Int),(739082:Int)] 3)=U:=⟨_,rfl⟩
 rw[hU4] at H HB hHeld nr ⊢
 rw[hT4] at nr
 (try rw[hT4])
 replace H:=H.add (f:=zAb (some ⟨T4,0,none⟩) zCl 3 3) nr
 clear hT4 hU4 nr
 refine wpAnyH_ready (rs:=[13]) zk zs ?_
 refine AllReadyH.cons (o:=⟨some 40,_,_,_,_,_⟩) rfl (fun K hK=>?_) AllReadyH.nil
 go_simp
 with_reducible refine (zNg a1 3 c1 zCl (some ⟨T4,0,none⟩) 3 zCl _ zo (H.days (ao:=a1) (X:=zCl) (n:=3) (cap:=c1)) (H.days (ao:=(some ⟨T4,0,none⟩)) (X:=zCl) (n:=3) (cap:=3)) (fun _ _=>rfl)).mono ?_
 rintro e U5 ⟨rfl,hb⟩
 replace H:=H.below hb
 replace HB:=HB.trans (hb.mono (HS.out _ HB))
 clear hb
 go_wp2_with fail
 refine hK.out _ _ (⟨H.c,H.c,H.c,H.c,H.c,H.c,H.c,H.c⟩) (fun hNew=>?_)
 clear hK K hHeld
 have hHeld:=hNew
 clear hNew
 try go_frame
 refine wpAnyH_take (i:=14) (oi:=⟨some 41,_,_,_,_,_⟩) (v:=?_) rfl zk zk zk (fun _ _ _ h=>h) (Or.inl ⟨zr,?_⟩) za ?_
 rotate_left
 ·exact zpkct
 go_frame
 refine wpAnyH_take (i:=15) (oi:=⟨some 42,_,_,_,_,_⟩) (v:=?_) rfl zk zk zk (fun _ _ _ h=>h) (Or.inl ⟨zr,?_⟩) za ?_
 rotate_left
 ·exact zpkct
 go_frame
 refine wpAnyH_take (i:=16) (oi:=⟨some 43,_,_,_,_,_⟩) (v:=?_) rfl zk zk zk (fun _ _ _ h=>h) (Or.inl ⟨zr,?_⟩) za ?_
 rotate_left
 ·exact zpkct
 go_frame
 refine wpAnyH_take (i:=17) (oi:=⟨some 44,_,_,_,_,_⟩) (v:=?_) rfl zk zk zk (fun _ _ _ h=>h) (Or.inl ⟨zr,?_⟩) za ?_
 rotate_left
 ·exact zpkct
 go_frame
 refine wpAnyH_take (i:=18) (oi:=⟨some 45,_,_,_,_,_⟩) (v:=?_) rfl zk zk zk (fun _ _ _ h=>h) (Or.inl ⟨zr,?_⟩) za ?_
 rotate_left
 ·exact zpkct
 go_frame
 refine wpAnyH_take (i:=19) (oi:=⟨some 46,_,_,_,_,_⟩) (v:=?_) rfl zk zk zk (fun _ _ _ h=>h) (Or.inl ⟨zr,?_⟩) za ?_
 rotate_left
 ·exact zpkct
 go_frame
 refine wpAnyH_ready (rs:=[20]) zk zs ?_
 refine AllReadyH.cons (o:=⟨some 47,_,_,_,_,_⟩) rfl (fun K hK=>?_) AllReadyH.nil
 go_simp
 with_reducible refine (zNg a0 3 c0 zCl a1 c1 zCl _ zo (H.days (ao:=a0) (X:=zCl) (n:=3) (cap:=c0)) (H.days (ao:=a1) (X:=zCl) (n:=3) (cap:=c1)) (fun _ _=>rfl)).mono ?_
 rintro e U6 ⟨rfl,hb⟩
 replace H:=H.below hb
 replace HB:=HB.trans (hb.mono (HS.out _ HB))
 clear hb
 go_wp2_with fail
 refine hK.out _ _ (⟨H.c,H.c,H.c,H.c,H.c,H.c,H.c,H.c⟩) (fun hNew=>?_)
 clear hK K hHeld
 have hHeld:=hNew
 clear hNew
 try go_frame
 refine wpAnyH_take (i:=21) (oi:=⟨some 48,_,_,_,_,_⟩) (v:=?_) rfl zk zk zk (fun _ _ _ h=>h) (Or.inl ⟨zr,?_⟩) za ?_
 rotate_left
 ·exact zpkct
 go_frame
 refine wpAnyH_take (i:=22) (oi:=⟨some 49,_,_,_,_,_⟩) (v:=?_) rfl zk zk zk (fun _ _ _ h=>h) (Or.inl ⟨zr,?_⟩) za ?_
 rotate_left
 ·exact zpkct
 go_frame
 refine wpAnyH_take (i:=23) (oi:=⟨some 50,_,_,_,_,_⟩) (v:=?_) rfl zk zk zk (fun _ _ _ h=>h) (Or.inl ⟨zr,?_⟩) za ?_
 rotate_left
 ·exact zpkct
 go_frame
 refine wpAnyH_take (i:=24) (oi:=⟨some 51,_,_,_,_,_⟩) (v:=?_) rfl zk zk zk (fun _ _ _ h=>h) (Or.inl ⟨zr,?_⟩) za ?_
 rotate_left
 ·exact zpkct
 go_frame
 refine wpAnyH_take (i:=25) (oi:=⟨some 52,_,_,_,_,_⟩) (v:=?_) rfl zk zk zk (fun _ _ _ h=>h) (Or.inl ⟨zr,?_⟩) za ?_
 rotate_left
 ·exact zpkct
 go_frame
 refine wpAnyH_take (i:=26) (oi:=⟨some 53,_,_,_,_,_⟩) (v:=?_) rfl zk zk zk (fun _ _ _ h=>h) (Or.inl ⟨zr,?_⟩) za ?_
 rotate_left
 ·exact zpkct
 go_frame
 refine wpAnyH_ready (rs:=[27]) zk zs ?_
 refine AllReadyH.cons (o:=⟨some 54,_,_,_,_,_⟩) rfl (fun K hK=>?_) AllReadyH.nil
 have nr:=two_at17 U6
 replace H:=H.alloc (.cells #[(91:Int),(360:Int),(91:Int),(360:Int)] 48)
 replace HB:=HB.alloc (HS.out _ HB) (.cells #[(91:Int),(360:Int),(91:Int),(360:Int)] 48)
 go_simp
 refine hK.out _ _ (⟨H.c,H.c,H.c,H.c,H.c,H.c,H.c,H.c⟩) (fun hNew=>?_)
 clear hK K hHeld
 have hHeld:=hNew
 clear hNew
 try go_frame
 obtain⟨T7,hT7⟩:∃T,U6.heap.size=T:=⟨_,rfl⟩
 obtain⟨U7,hU7⟩:∃U,U6.alloc (.cells #[(91:Int),(360:Int),(91:Int),(360:Int)] 48)=U:=⟨_,rfl⟩
 rw[hU7] at H HB hHeld nr ⊢
 rw[hT7] at nr
 (try rw[hT7])
 replace H:=H.add (f:=ratF (some ⟨T7,0,none⟩) (fun _=>91) (fun _=>360) 2 2) nr
 clear hT7 hU7 nr
 refine wpAnyH_ready (rs:=[28]) zk zs ?_
 refine AllReadyH.cons (o:=⟨some 55,_,_,_,_,_⟩) rfl (fun K hK=>?_) AllReadyH.nil
 go_simp
 with_reducible refine (zS4 a2 2 c2 (fun _=>91) (fun _=>360) (some ⟨T7,0,none⟩) 2 (fun _=>91) (fun _=>360) _ zo (H.rat (ao:=a2) (P:=fun _=>91) (Q:=fun _=>360) (n:=2) (cap:=c2)) (H.rat (ao:=(some ⟨T7,0,none⟩)) (P:=fun _=>91) (Q:=fun _=>360) (n:=2) (cap:=2)) (fun _ _=>⟨rfl,rfl⟩)).mono ?_
 rintro e U8 ⟨rfl,hb⟩
 replace H:=H.below hb
 replace HB:=HB.trans (hb.mono (HS.out _ HB))
 clear hb
 go_wp2_with fail
 refine hK.out _ _ (⟨H.c,H.c,H.c,H.c,H.c,H.c,H.c,H.c⟩) (fun hNew=>?_)
 clear hK K hHeld
 have hHeld:=hNew
 clear hNew
 try go_frame
 refine wpAnyH_take (i:=29) (oi:=⟨some 56,_,_,_,_,_⟩) (v:=?_) rfl zk zk zk (fun _ _ _ h=>h) (Or.inl ⟨zr,?_⟩) za ?_
 rotate_left
 ·exact zpkct
 go_frame
 refine wpAnyH_take (i:=30) (oi:=⟨some 57,_,_,_,_,_⟩) (v:=?_) rfl zk zk zk (fun _ _ _ h=>h) (Or.inl ⟨zr,?_⟩) za ?_
 rotate_left
 ·exact zpkct
 go_frame
 refine wpAnyH_take (i:=31) (oi:=⟨some 58,_,_,_,_,_⟩) (v:=?_) rfl zk zk zk (fun _ _ _ h=>h) (Or.inl ⟨zr,?_⟩) za ?_
 rotate_left
 ·exact zpkct
 go_frame
 refine wpAnyH_take (i:=32) (oi:=⟨some 59,_,_,_,_,_⟩) (v:=?_) rfl zk zk zk (fun _ _ _ h=>h) (Or.inl ⟨zr,?_⟩) za ?_
 rotate_left
 ·exact zpkct
 go_frame
 refine wpAnyH_take (i:=33) (oi:=⟨some 60,_,_,_,_,_⟩) (v:=?_) rfl zk zk zk (fun _ _ _ h=>h) (Or.inl ⟨zr,?_⟩) za ?_
 rotate_left
 ·exact zpkct
 go_frame
 refine wpAnyH_ready (rs:=[34]) zk zs ?_
 refine AllReadyH.cons (o:=⟨some 61,_,_,_,_,_⟩) rfl (fun K hK=>?_) AllReadyH.nil
 go_simp
 with_reducible refine (zCu 2024 7 15 739082 _ ze).mono ?_
 rintro e U9 ⟨rfl,hb⟩
 replace H:=H.below hb
 replace HB:=HB.trans (hb.mono (HS.out _ HB))
 clear hb
 go_wp2_with fail
 refine hK.out _ _ (⟨H.c,H.c,H.c,H.c,H.c,H.c,H.c,H.c⟩) (fun hNew=>?_)
 clear hK K hHeld
 have hHeld:=hNew
 clear hNew
 try go_frame
 refine wpAnyH_take (i:=35) (oi:=⟨some 62,_,_,_,_,_⟩) (v:=?_) rfl zk zk zk (fun _ _ _ h=>h) (Or.inl ⟨zr,?_⟩) za ?_
 rotate_left
 ·exact zpkct
 go_frame
 refine wpAnyH_take (i:=36) (oi:=⟨some 63,_,_,_,_,_⟩) (v:=?_) rfl zk zk zk (fun _ _ _ h=>h) (Or.inl ⟨zr,?_⟩) za ?_
 rotate_left
 ·exact zpkct
 go_frame
 refine wpAnyH_take (i:=37) (oi:=⟨some 64,_,_,_,_,_⟩) (v:=?_) rfl zk zk zk (fun _ _ _ h=>h) (Or.inl ⟨zr,?_⟩) za ?_
 rotate_left
 ·exact zpkct
 go_frame
 refine wpAnyH_take (i:=38) (oi:=⟨some 65,_,_,_,_,_⟩) (v:=?_) rfl zk zk zk (fun _ _ _ h=>h) (Or.inl ⟨zr,?_⟩) za ?_
 rotate_left
 ·exact zpkct
 go_frame
 refine wpAnyH_take (i:=39) (oi:=⟨some 66,_,_,_,_,_⟩) (v:=?_) rfl zk zk zk (fun _ _ _ h=>h) (Or.inl ⟨zr,?_⟩) za ?_
 rotate_left
 ·exact zpkct
 go_frame
 refine wpAnyH_take (i:=40) (oi:=⟨some 67,_,_,_,_,_⟩) (v:=?_) rfl zk zk zk (fun _ _ _ h=>h) (Or.inl ⟨zr,?_⟩) za ?_
 rotate_left
 ·exact zpkct
 go_frame
 refine wpAnyH_take (i:=41) (oi:=⟨some 68,_,_,_,_,_⟩) (v:=?_) rfl zk zk zk (fun _ _ _ h=>h) (Or.inl ⟨zr,?_⟩) za ?_
 rotate_left
 ·exact zpkct
 go_frame
 refine wpAnyH_take (i:=42) (oi:=⟨some 69,_,_,_,_,_⟩) (v:=?_) rfl zk zk zk (fun _ _ _ h=>h) (Or.inl ⟨zr,?_⟩) za ?_
 rotate_left
 ·exact zpkct
 go_frame
 refine wpAnyH_take (i:=43) (oi:=⟨some 70,_,_,_,_,_⟩) (v:=?_) rfl zk zk zk (fun _ _ _ h=>h) (Or.inl ⟨zr,?_⟩) za ?_
 rotate_left
 ·exact zpkct
 go_frame
 refine wpAnyH_take (i:=44) (oi:=⟨some 71,_,_,_,_,_⟩) (v:=?_) rfl zk zk zk (fun _ _ _ h=>h) (Or.inl ⟨zr,?_⟩) za ?_
 rotate_left
 ·exact zpkct
 go_frame
 refine wpAnyH_take (i:=45) (oi:=⟨some 72,_,_,_,_,_⟩) (v:=?_) rfl zk zk zk (fun _ _ _ h=>h) (Or.inl ⟨zr,?_⟩) za ?_
 rotate_left
 ·exact zpkct
 go_frame
 refine wpAnyH_take (i:=46) (oi:=⟨some 73,_,_,_,_,_⟩) (v:=?_) rfl zk zk zk (fun _ _ _ h=>h) (Or.inl ⟨zr,?_⟩) za ?_
 rotate_left
 ·exact zpkct
 go_frame
 refine wpAnyH_take (i:=47) (oi:=⟨some 74,_,_,_,_,_⟩) (v:=?_) rfl zk zk zk (fun _ _ _ h=>h) (Or.inl ⟨zr,?_⟩) za ?_
 rotate_left
 ·exact zpkct
 go_frame
 refine wpAnyH_take (i:=48) (oi:=⟨some 75,_,_,_,_,_⟩) (v:=?_) rfl zk zk zk (fun _ _ _ h=>h) (Or.inl ⟨zr,?_⟩) za ?_
 rotate_left
 ·exact zpkct
 go_frame
 refine wpAnyH_take (i:=49) (oi:=⟨some 76,_,_,_,_,_⟩) (v:=?_) rfl zk zk zk (fun _ _ _ h=>h) (Or.inl ⟨zr,?_⟩) za ?_
 rotate_left
 ·exact zpkct
 go_frame
 refine wpAnyH_take (i:=50) (oi:=⟨some 0,_,_,_,_,_⟩) (v:=?_) rfl zk zk zk (fun _ _ _ h=>h) (Or.inl ⟨zr,?_⟩) za ?_
 rotate_left
 ·exact zpkct
 go_frame
 refine wpAnyH_done zk ?_ _
 clear hHeld
 go_wp2
 go_ret
 exact⟨rfl,H.old⟩
end Go.Proofs.YtpfgdfpaoldhcaaGreatDoor
