/- Several texts in one: ScRoll. -/
import Derived.Test.YtpfgdfpaoldhcaaGreatDoorSuBC
import Derived.Test.YtpfgdfpaoldhcaaGreatDoorSuBF
set_option maxHeartbeats 8000000
set_option maxRecDepth 100000
set_option linter.unusedVariables false
set_option linter.unusedSimpArgs false
namespace Go.Proofs.YtpfgdfpaoldhcaaGreatDoor
open Go.RowKit
def RollN (z:Int) (n m:Nat):Prop:=(z=0→m=n)∧(z≠0→m=0)
theorem zqfzq {P:Prop} (h:P:=by
 clear hgrow OW hown' R
 go_wp2
 go_roundw
 case rel=>exact⟨k+1,zo,by go_num,HZ3.out,by rw[zF7,HY.out];exact OW2.out,hB3⟩
 case measure=>simp[intOf];omega):P:=h
theorem zJa (t:Tm) (c:Ca) (aR:Option Addr) (cR:Nat) (aD:Option Addr) (cD:Nat) (B:Nat) (ao:Option Addr) (n cap:Nat) (D V C:Nat→Int) (w:World) (hF:FactsS w) (hM:c.May) (hC:CalAt w c aR cR aD cD) (hT:TermsAt w B t) (hK:CalBox w B c aR cR aD cD) (hD:DaysAt w ao D n cap) (hn:n≤1300)
  (hb:∀i,i<n→-9223372036854775808≤D i∧D i<9223372036854775808) (hR:∀i,i<n→ToIs c (D i) t.ro (V i) (C i)) :
  Calls Tryz.prog 86 #[.pointer (some ⟨B,0,none⟩),.slice ao n cap] w fun e w'=>∃ao' m cap',e=.returned (.tuple #[.slice ao' m cap',(fst1 C n)])∧RollN (fst1 C n) n m∧DaysAt w' ao' V m cap'∧Below w w w':=by
 obtain⟨i0,hi,hz0,hz1,hz2⟩:=info_parts zAo
 have H:=((((((Held.start w).add (f:=zAg) hF).add (f:=calF c aR cR aD cD) hC).add (f:=zAw B t) hT).add (f:=zAj B c aR cR aD cD) hK).add (f:=zAb ao D n cap) hD)
 have hh:Held w [zAb ao D n cap,zAj B c aR cR aD cD,zAw B t,calF c aR cR aD cD,zAg] w:=H
 have HH:=zh hh
 have RT:=zh (fun i v (hi:i<n) (h1:FactsW v) (h2:CalAt v c aR cR aD cD)=>to_is14 c aR cR aD cD (D i) t.ro (V i) (C i) v h1 hM h2 (hb i hi) (hR i hi))
 have hcap:=hD.1
 clear hF hM hC hT hK hD hR hb H hh
 go_enter Tryz.func86,Tryz.ntmps86
 go_wp2_with (first | (at_make;refine wpList_make_own _ rfl _ _ 26 rfl w.heap.size 3 i0 (0:Int) 1 Tryz.underlying26 hi hz0 hz1 _ _ _ n rfl rfl ?c1 ?c2 ?c3 ?c4 ?_) | go_in)
 case c1=>rfl
 case c2=>rw[hz2];omega
 case c3=>unfold maxLen;omega
 case c4=>exact Nat.le_refl _
 intro W1 own1 grow1
 have hB1:=(Below.refl w.heap.size w).grown grow1 (Nat.le_refl _) (fun k hk=>by cases hk)
 clear grow1
 go_wp2_with fail
 go_loopw [6,8,9,10,16] (fun v d x e i wr=>∃k:Nat,k≤n∧i=.int .i64 (k:Int)∧(∀j,j<k→C j=0)∧wr.ownsRow w.heap.size 3 1 v k (il (dl V k))∧Below w w wr) (fun _ _ _ _ i _=>n-(intOf i).toNat)
 case atStart=>exact⟨0,zo,rfl,fun j hj=>absurd hj (Nat.not_lt_zero j),own1,hB1⟩
 case round=>
  obtain⟨k,hk,rfl,hz,hown,hB⟩:=hrel
  have hsz:=hB.size
  have HO:=zh hown
  have H:=HH.out.below hB
  clear hown
  by_cases hlt:k<n
  ·obtain⟨bA,oA,rfl,da⟩:=(H.days (ao:=ao) (X:=D) (n:=n) (cap:=cap)).2 zo
   have ka:=da k hlt
   obtain⟨d0,d1,d2,d3,d4,d5,d6,d7,d8,d9,d10⟩:=H.terms (B:=B) (t:=t)
   obtain⟨e0,e1,e2,e3,e4,e5,e6,e7,e8⟩:=H.calBox (B:=B) (c:=c) (aR:=aR) (cR:=cR) (aD:=aD) (cD:=cD)
   have ld:=zA0 d0
   have R1:=zh (fun v h1 h2=>RT.out k v hlt h1 h2)
   obtain⟨x,hx⟩:∃x,D k=x:=⟨_,rfl⟩
   obtain⟨y,hy⟩:∃y,V k=y:=⟨_,rfl⟩
   obtain⟨z,hz2'⟩:∃z,C k=z:=⟨_,rfl⟩
   rw[hx,hy,hz2'] at R1
   rw[hx] at ka
   clear da
   have OW:=HO.out
   have HB0:=zh hB
   have HZ:Hid (∀W,Below w w W→w.heap.size≤W.heap.size):=zh (fun W h=>h.size)
   clear hB
   go_upto_region 5 with fail
   replace H:=(((((((((H.add (f:=.cell B 11 (c.o 0)) e0).add (f:=.cell B 12 (c.o 1)) e1).add (f:=.cell B 13 (c.o 2)) e2).add (f:=.cell B 14 (c.o 3)) e3).add (f:=.cell B 15 (c.o 4)) e4).add (f:=.cell B 16 (c.o 5)) e5).add (f:=.cell B 17 (c.o 6)) e6).add (f:=.cell B 18 (.slice aR c.nr cR)) e7).add (f:=.cell B 19 (.slice aD c.nd cD)) e8).add (f:=.cell B 10 t.ro) d10
   clear d0 d1 d2 d3 d4 d5 d6 d7 d8 d9 d10 e0 e1 e2 e3 e4 e5 e6 e7 e8 ld ka
   obtain⟨i0,hi,hz0,hz1,hz2⟩:=info_parts zAo
   replace H:=H.drew
   refine wp_region_held_drew (S:=fun w'=>w'.cell? ⟨B,11,none⟩=some (.bool (c.o 0))∧w'.cell? ⟨B,12,none⟩=some (.bool (c.o 1))∧w'.cell? ⟨B,13,none⟩=some (.bool (c.o 2))∧w'.cell? ⟨B,14,none⟩=some (.bool (c.o 3))∧w'.cell? ⟨B,15,none⟩=some (.bool (c.o 4))∧w'.cell? ⟨B,16,none⟩=some (.bool (c.o 5))∧w'.cell? ⟨B,17,none⟩=some (.bool (c.o 6))∧w'.cell? ⟨B,18,none⟩=some (.slice aR c.nr cR)∧w'.cell? ⟨B,19,none⟩=some (.slice aD c.nd cD)∧w'.cell? ⟨B,10,none⟩=some (.int .i64 t.ro)) zk (⟨H.c,H.c,H.c,H.c,H.c,H.c,H.c,H.c,H.c,H.c⟩) (fun hHeld=>?_)
   replace OW:=zAp OW ((Below.refl _ wr).drew)
   replace HB0:=zh (HB0.out.drew)
   obtain⟨WD,hWD⟩:∃WD,World.drew (wr)=WD:=⟨_,rfl⟩
   rw[hWD] at H hHeld OW HB0 ⊢
   clear hWD
   obtain⟨b0,hb0⟩:∃b0,WD.heap.size=b0:=⟨_,rfl⟩
   have HB:=Below.refl b0 WD
   have HWD:=zh H
   have HS:Hid (∀W,Below b0 WD W→b0≤W.heap.size):=zh (fun W h=>by have z:=h.size;rw[hb0] at z;exact z)
   have HU:Hid (∀W,Below b0 WD W→Below WD WD W):=zh (fun W h=>by rw[hb0];exact h)
   clear hb0
   refine zT 0 ?_
   go_frame
   refine zT 1 ?_
   go_frame
   refine zT 2 ?_
   go_frame
   refine zT 3 ?_
   go_frame
   refine zT 4 ?_
   go_frame
   refine zT 5 ?_
   go_frame
   refine zT 6 ?_
   go_frame
   refine zT 7 ?_
   go_frame
   refine zT 8 ?_
   go_frame
   refine zT 9 ?_
   go_frame
   refine wpAnyH_ready (rs:=[10]) zk zs ?_
   refine AllReadyH.cons (o:=⟨some 31,_,_,_,_,_⟩) rfl (fun K hK=>?_) AllReadyH.nil
   go_simp
   with_reducible refine (R1.out _ (H.factsS).w (H.cal (c:=c) (aR:=aR) (cR:=cR) (aD:=aD) (cD:=cD))).mono ?_
   rintro e U1 ⟨rfl,hb⟩
   replace H:=H.below hb
   replace HB:=HB.trans (hb.mono (HS.out _ HB))
   replace OW:=zAp OW hb
   replace HB0:=zh (HB0.out.trans (hb.mono (HZ.out _ HB0.out)))
   clear hb
   go_wp2_with fail
   refine hK.out _ _ (⟨H.c,H.c,H.c,H.c,H.c,H.c,H.c,H.c,H.c,H.c⟩) (fun hNew=>?_)
   clear hK K hHeld
   have hHeld:=hNew
   clear hNew
   try go_frame
   refine zT 11 ?_
   go_frame
   refine zT 12 ?_
   go_frame
   refine zT 13 ?_
   go_frame
   refine zT 14 ?_
   go_frame
   refine zT 15 ?_
   go_frame
   refine wpAnyH_done zk ?_ _
   clear hHeld
   have hUs:=HZ.out _ HB0.out
   by_cases hzz:z=0
   ·subst hzz
    have hz3:∀j,j<k+1→C j=0:=fun j hj=>by
     by_cases e:j=k
     ·rw[e];exact hz2'
     ·exact hz j zo
    have HZ3:=zh hz3
    have HY:=zh hy
    clear hz3 hz hy hz2' HB HWD HS HU
    go_wp2_with (first
     | (at_builtin;refine wpList_append_own _ rfl _ _ 26 rfl w.heap.size 3 i0 (0:Int) 1 8 Tryz.underlying26 hi hz0 hz1 hz2 rfl zd _ _ _ rfl (zAp (OW.alloc _) (Below.refl _ _)) ⟨U1,0,none⟩ 1 1 [.int .i64 y] rfl rfl ?c1 ?c2 ?c3 ?c4 ?c5 ?_)
     | go_in)
    case c1=>exact cell_one_new _ _ _
    case c2=>intro u hu;simp at hu;subst hu;rfl
    case c3=>unfold maxLen;omega
    case c4=>omega
    case c5=>simp;omega
    ·intro v' w3 hown' hgrow _
     have R:=(((Below.refl w.heap.size U1).alloc zo _).grown hgrow zx (fun k hk=>(World.ownsRow.lt OW k hk).1))
     rw[zR9] at hown'
     have OW2:=zh hown'
     have hB3:=HB0.out.trans R
     exact zqfzq
   ·have hn0:(z != 0)=true:=by simpa using hzz
    have ef:fst1 C n=z:=by rw[zEm hz (by rw[hz2'];exact hzz) hlt,hz2']
    have EF:=zh ef
    clear ef hz hz2' HB HWD HS HU OW
    go_wp2
    go_ret2
    have ef:=EF.out
    clear EF
    subst ef
    exact⟨none,0,0,rfl,⟨fun e=>absurd e hzz,fun _=>rfl⟩,zC9 _ _,HB0.out⟩
  ·obtain rfl:k=n:=zo
   have ef:fst1 C k=0:=zB8.2 hz
   obtain⟨aI,cI,rfl,hI⟩:=zCv (zB7 V k) HO.out
   have HI:=zh (hI.ext (fun i hi=>ld_dl hi))
   have HB0:=zh hB
   have EF:=zh ef
   clear hI hB ef hz
   go_wp2
   go_ret2
   rw[EF.out]
   exact⟨aI,k,cI,rfl,⟨fun _=>rfl,fun e=>absurd rfl e⟩,HI.out,HB0.out⟩
end Go.Proofs.YtpfgdfpaoldhcaaGreatDoor
