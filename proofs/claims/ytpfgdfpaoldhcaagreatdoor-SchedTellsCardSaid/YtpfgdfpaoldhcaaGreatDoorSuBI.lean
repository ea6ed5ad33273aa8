/- Several texts in one: ScRolled, DaDays, ScPut, ScBeside. -/
import Derived.Test.YtpfgdfpaoldhcaaGreatDoorSuBG
import Derived.Test.YtpfgdfpaoldhcaaGreatDoorSuBH
set_option maxHeartbeats 8000000
set_option maxRecDepth 100000
set_option linter.unusedVariables false
set_option linter.unusedSimpArgs false
namespace Go.Proofs.YtpfgdfpaoldhcaaGreatDoor
open Go.RowKit
theorem rolled17_any (c:Ca) (aR:Option Addr) (cR:Nat) (aD:Option Addr) (cD:Nat) (k0:Int) (ao:Option Addr) (n cap:Nat) (D V C:Nat→Int) (w:World) (hS:c.Small) (hM:∀j,j<c.nr→(c.R j).May) (hC:CalAt w c aR cR aD cD) (hD:DaysAt w ao D n cap) (hn:n≤1300)
  (hR:∀i,i<n→ToIs c (D i) k0 (V i) (C i)) :
  Calls Tryz.prog 28 #[.agg #[(c.o 0),(c.o 1),(c.o 2),(c.o 3),(c.o 4),(c.o 5),(c.o 6),.slice aR c.nr cR,.slice aD c.nd cD],.slice ao n cap,k0] w fun e w'=>∃ao' m cap',e=.returned (.tuple #[.slice ao' m cap',(fst1 C n)])∧RollN (fst1 C n) n m∧DaysAt w' ao' V m cap'∧Below w w w':=by
 obtain⟨i0,hi,hz0,hz1,hz2⟩:=info_parts zAo
 have H:=((Held.start w).add (f:=calF c aR cR aD cD) hC).add (f:=zAb ao D n cap) hD
 have RT:=zh (fun i v (hi:i<n) (h2:CalAt v c aR cR aD cD)=>rto14 c aR cR aD cD (D i) k0 (V i) (C i) v hS hM h2 (hR i hi))
 have hcap:=hD.1
 clear hS hM hC hD hR
 go_enter Tryz.func28,Tryz.ntmps28
 go_wp2_with fail
 replace H:=H.box_9 w (c.o 0) (c.o 1) (c.o 2) (c.o 3) (c.o 4) (c.o 5) (c.o 6) (.slice aR c.nr cR) (.slice aD c.nd cD) 28 rfl
 revert H
 generalize hW5:World.alloc _ _=W5
 intro H
 have hB5:=H.old
 have hsz5:W5.heap.size=w.heap.size+1:=by rw[←hW5];simp
 clear hW5
 obtain⟨B,hB⟩:∃B,w.heap.size=B:=⟨_,rfl⟩
 rw[hB] at H hsz5 ⊢
 have own1:=World.ownsRow_nil W5 (B+1) 3 1
 have HH:=zh H
 clear H
 go_wp2_with fail
 go_loopw [8,9,10,11] (fun v i d e wr=>∃k:Nat,k≤n∧i=.int .i64 (k:Int)∧(∀j,j<k→C j=0)∧wr.ownsRow (B+1) 3 1 v k (il (dl V k))∧Below (B+1) W5 wr) (fun _ i _ _ _=>n-(intOf i).toNat)
 case atStart=>exact⟨0,zo,rfl,fun j hj=>absurd hj (Nat.not_lt_zero j),own1,hsz5▸Below.refl _ _⟩
 case round=>
  obtain⟨k,hk,rfl,hz,hown,hB0⟩:=hrel
  have HO:=zh hown
  have H:=HH.out.below (hsz5.symm▸hB0)
  clear hown
  by_cases hlt:k<n
  ·obtain⟨bA,oA,rfl,da⟩:=(H.days (ao:=ao) (X:=D) (n:=n) (cap:=cap)).2 zo
   have ka:=da k hlt
   have R1:=zh (fun v h2=>RT.out k v hlt h2)
   obtain⟨x,hx⟩:∃x,D k=x:=⟨_,rfl⟩
   obtain⟨y,hy⟩:∃y,V k=y:=⟨_,rfl⟩
   obtain⟨z,hz2'⟩:∃z,C k=z:=⟨_,rfl⟩
   rw[hx,hy,hz2'] at R1
   rw[hx] at ka
   replace H:=H.add (f:=.cell bA (oA+k) (.int .i64 x)) ka
   clear da ka
   have OW:=HO.out
   have HBx:=zh hB0
   have HZ:Hid (∀W,Below (B+1) W5 W→B+1≤W.heap.size):=zh (fun W h=>by have:=h.size;omega)
   clear hB0
   go_upto_region 5 with fail
   obtain⟨i0,hi,hz0,hz1,hz2⟩:=info_parts zAo
   replace H:=H.drew
   refine wp_region_held_drew (S:=fun w'=>w'.cell? ⟨B,0,none⟩=some (.bool (c.o 0))∧w'.cell? ⟨B,1,none⟩=some (.bool (c.o 1))∧w'.cell? ⟨B,2,none⟩=some (.bool (c.o 2))∧w'.cell? ⟨B,3,none⟩=some (.bool (c.o 3))∧w'.cell? ⟨B,4,none⟩=some (.bool (c.o 4))∧w'.cell? ⟨B,5,none⟩=some (.bool (c.o 5))∧w'.cell? ⟨B,6,none⟩=some (.bool (c.o 6))∧w'.cell? ⟨B,7,none⟩=some (.slice aR c.nr cR)∧w'.cell? ⟨B,8,none⟩=some (.slice aD c.nd cD)∧w'.cell? ⟨bA,oA+k,none⟩=some (.int .i64 x)) zk (⟨H.c,H.c,H.c,H.c,H.c,H.c,H.c,H.c,H.c,H.c⟩) (fun hHeld=>?_)
   replace OW:=zAp OW ((Below.refl _ wr).drew)
   replace HBx:=zh (HBx.out.drew)
   obtain⟨WD,hWD⟩:∃WD,World.drew (wr)=WD:=⟨_,rfl⟩
   rw[hWD] at H hHeld OW HBx ⊢
   clear hWD
   obtain⟨b0,hb0⟩:∃b0,WD.heap.size=b0:=⟨_,rfl⟩
   have HB:=Below.refl b0 WD
   have HWD:=zh H
   have HS:Hid (∀W,Below b0 WD W→b0≤W.heap.size):=zh (fun W h=>by have z:=h.size;rw[hb0] at z;exact z)
   have HU:Hid (∀W,Below b0 WD W→Below WD WD W):=zh (fun W h=>by rw[hb0];exact h)
   clear hb0
   refine zT 0 ?_
   go_frame
   refine zT 1 ?_
   go_frame
   refine zT 2 ?_
   go_frame
   refine zP 3 (.pointer (some ⟨bA,oA+k,none⟩)) ?_
   go_frame
   refine zT 4 ?_
   go_frame
   refine zT 5 ?_
   go_frame
   refine wpAnyH_ready (rs:=[6]) zk zs ?_
   refine AllReadyH.cons (o:=⟨some 25,_,_,_,_,_⟩) rfl (fun K hK=>?_) AllReadyH.nil
   go_simp
   with_reducible refine (R1.out _ (H.cal (c:=c) (aR:=aR) (cR:=cR) (aD:=aD) (cD:=cD))).mono ?_
   rintro e U1 ⟨rfl,hb⟩
   replace H:=H.below hb
   replace HB:=HB.trans (hb.mono (HS.out _ HB))
   replace OW:=zAp OW hb
   replace HBx:=zh (HBx.out.trans (hb.mono (HZ.out _ HBx.out)))
   clear hb
   go_wp2_with fail
   refine hK.out _ _ (⟨H.c,H.c,H.c,H.c,H.c,H.c,H.c,H.c,H.c,H.c⟩) (fun hNew=>?_)
   clear hK K hHeld
   have hHeld:=hNew
   clear hNew
   try go_frame
   refine zT 7 ?_
   go_frame
   refine zT 8 ?_
   go_frame
   refine zT 9 ?_
   go_frame
   refine zT 10 ?_
   go_frame
   refine zT 11 ?_
   go_frame
   refine wpAnyH_done zk ?_ _
   clear hHeld
   have hUs:=HZ.out _ HBx.out
   by_cases hzz:z=0
   ·subst hzz
    have hz3:∀j,j<k+1→C j=0:=fun j hj=>by
     by_cases e:j=k
     ·rw[e];exact hz2'
     ·exact hz j zo
    have HZ3:=zh hz3
    have HY:=zh hy
    clear hz3 hz hy hz2' HB HWD HS HU
    go_wp2_with (first
     | (at_builtin;refine wpList_append_own _ rfl _ _ 26 rfl (B+1) 3 i0 (0:Int) 1 8 Tryz.underlying26 hi hz0 hz1 hz2 rfl zd _ _ _ rfl (zAp (OW.alloc _) (Below.refl _ _)) ⟨U1,0,none⟩ 1 1 [.int .i64 y] rfl rfl ?c1 ?c2 ?c3 ?c4 ?c5 ?_)
     | go_in)
    case c1=>exact cell_one_new _ _ _
    case c2=>intro u hu;simp at hu;subst hu;rfl
    case c3=>unfold maxLen;omega
    case c4=>omega
    case c5=>simp;omega
    ·intro v' w3 hown' hgrow _
     have R:=(((Below.refl (B+1) U1).alloc zo _).grown hgrow zx (fun k hk=>(World.ownsRow.lt OW k hk).1))
     rw[zR9] at hown'
     have OW2:=zh hown'
     have hB3:=HBx.out.trans R
     exact zqfzq
   ·have hn0:(z != 0)=true:=by simpa using hzz
    have ef:fst1 C n=z:=by rw[zEm hz (by rw[hz2'];exact hzz) hlt,hz2']
    have EF:=zh ef
    have HK:=zh (hB5.trans (HBx.out.mono (Nat.le_succ_of_le (Nat.le_of_eq hB))))
    clear ef hz hz2' HB HWD HS HU OW
    go_wp2
    go_ret2
    have ef:=EF.out
    clear EF
    subst ef
    exact⟨none,0,0,rfl,⟨fun e=>absurd e hzz,fun _=>rfl⟩,zC9 _ _,HK.out⟩
  ·obtain rfl:k=n:=zo
   have ef:fst1 C k=0:=zB8.2 hz
   obtain⟨aI,cI,rfl,hI⟩:=zCv (zB7 V k) HO.out
   have HI:=zh (hI.ext (fun i hi=>ld_dl hi))
   have HK:=zh (hB5.trans (hB0.mono (Nat.le_succ_of_le (Nat.le_of_eq hB))))
   have EF:=zh ef
   clear hI hB0 ef hz
   go_wp2
   go_ret2
   rw[EF.out]
   exact⟨aI,k,cI,rfl,⟨fun _=>rfl,fun e=>absurd rfl e⟩,HI.out,HK.out⟩
theorem zql5c {P:Prop} (h:P:=by
 rw[zB7] at h
 refine h.mono ?_
 rintro e w' ⟨ao,cap,rfl,hd,hb⟩
 exact⟨ao,cap,rfl,hd.ext (fun i hi=>ld_dl hi),hb⟩):P:=h
theorem of_dd (mo ra ki co st en ms:Int) (bk lg eo:Bool) (ro:Int) (X E:Nat→Int) (m q:Nat) (w:World) (hL:FactsT w) (hc:(Tm.mk mo ra ki co st en ms bk lg eo ro).code=0) (ho:st<en) (hm : -100≤ms∧ms≤100) (hWk:(Tm.mk mo ra ki co st en ms bk lg eo ro).Walk X E m) (hq:(Tm.mk mo ra ki co st en ms bk lg eo ro).q X E m=q) :
  Calls Tryz.prog 85 #[.agg #[mo,ra,ki,co,st,en,ms,bk,lg,eo,ro]] w fun e w'=>∃ao cap,e=.returned (.tuple #[.slice ao (q+1+1) cap,(0:Int)])∧DaysAt w' ao ((Tm.mk mo ra ki co st en ms bk lg eo ro).dd X q) (q+1+1) cap∧Below w w w':=by
 have hD:=hWk.days_is ho
 rw[hq] at hD
 have h:=of_yes mo ra ki co st en ms bk lg eo ro X E m _ w hL hc hm hWk hD
 exact zql5c
theorem zLk (t:Tm) (c:Ca) (aR:Option Addr) (cR:Nat) (aD:Option Addr) (cD:Nat) (B:Nat) (x:Pl) (gs:List Fact) (hgs:∀f∈gs,f.small) (w W:World) (hF0:FactsS w) (hC0:CalAt w c aR cR aD cD) (hB:w.heap.size≤B) (hc:t.code≠0) (H:Held w (.cell B 20 (.slice none 0 0)::.cell B 21 (.slice none 0 0)::.cell B 22 (.slice none 0 0)::.cell B 23 false::.cell B 24 (0:Int)::.cell B 25 (0:Int)::.cell B 26 (.slice none 0 0)::.free B 20::.free B 21::.free B 22::.free B 23::.free B 24::.free B 25::.free B 26::zAw B t::zAj B c aR cR aD cD::calF c aR cR aD cD::zAg::gs) W):Calls Tryz.prog 77 #[.pointer (some ⟨B,0,none⟩)] W fun e w'=>e=.returned t.code∧Held w gs w':=by
 have OF:=zh (fun v h=>of_no t.mo t.ra t.ki t.co t.st t.en t.ms t.bk t.lg t.eo t.ro t.code v h rfl hc)
 have HG:=zh hgs
 clear hc hgs
 go_enter Tryz.func77,Tryz.ntmps77
 obtain⟨d0,d1,d2,d3,d4,d5,d6,d7,d8,d9,d10⟩:=H.terms (B:=B) (t:=t)
 have ld:=zA0 d0
 go_wp2_with fail
 clear d0 d1 d2 d3 d4 d5 d6 d7 d8 d9 d10 ld
 revert H
 with_reducible refine zG (fun H=>OF.out _ (H.factsS).t) ?_
 intro w1 H
 have f0:=H.frozen B 20
 have k0:=H.cell B 20 _
 have l0:=zA0 k0
 go_wp2_with fail
 go_ret
 have hgs:=HG.out
 replace H:=Held.put17 H (.slice none 0 0) hB (zA1 (Or.inr zd) (zA1 (Or.inr zd) (zA1 (Or.inr zd) (zA1 (Or.inr zd) (zA1 (Or.inr zd) (zA1 (Or.inr zd) (zA1 trivial (zA1 trivial (zA1 trivial (zA1 trivial (zA1 trivial (zA1 trivial (zA1 trivial (zA1 (Or.inr (fun W u _ h=>h.set (Or.inr zo) u)) (zA1 (Or.inr (fun W u _ h=>h.set (Or.inr zo) u)) (zA1 (Or.inl hC0) (zA1 (Or.inl hF0) (zD1 hgs zd))))))))))))))))))
 exact⟨rfl,H.sub (fun f hf=>by repeat (first | exact hf | apply List.mem_cons_of_mem))⟩
theorem zLl (t:Tm) (c:Ca) (aR:Option Addr) (cR:Nat) (aD:Option Addr) (cD:Nat) (B:Nat) (x:Pl) (gs:List Fact) (hgs:∀f∈gs,f.small) (w W:World) (hF0:FactsS w) (hC0:CalAt w c aR cR aD cD) (hB:w.heap.size≤B) (hc:t.code=0) (hP:PlanIs t c x) (H:Held w (.cell B 20 (.slice none 0 0)::.cell B 21 (.slice none 0 0)::.cell B 22 (.slice none 0 0)::.cell B 23 false::.cell B 24 (0:Int)::.cell B 25 (0:Int)::.cell B 26 (.slice none 0 0)::.free B 20::.free B 21::.free B 22::.free B 23::.free B 24::.free B 25::.free B 26::zAw B t::zAj B c aR cR aD cD::calF c aR cR aD cD::zAg::gs) W):Calls Tryz.prog 77 #[.pointer (some ⟨B,0,none⟩)] W fun e w'=>∃a0 c0,e=.returned (0:Int)∧Held w (.cell B 20 (.slice a0 (x.q+1+1) c0)::.cell B 21 (.slice none 0 0)::.cell B 22 (.slice none 0 0)::.cell B 23 false::.cell B 24 (0:Int)::.cell B 25 (0:Int)::.cell B 26 (.slice none 0 0)::.free B 20::.free B 21::.free B 22::.free B 23::.free B 24::.free B 25::.free B 26::zAw B t::zAj B c aR cR aD cD::calF c aR cR aD cD::zAg::zAb a0 (t.dd x.X x.q) (x.q+1+1) c0::gs) w':=by
 obtain⟨hf,hd,ho,-,-⟩:=t.of_zero hc
 have mb:=zRu hf.2.2.2
 have OF:=zh (fun v h=>of_dd t.mo t.ra t.ki t.co t.st t.en t.ms t.bk t.lg t.eo t.ro x.X x.E x.m x.q v h hc ho zo (hP.walk hc) (hP.q hc))
 have HG:=zh hgs
 clear hc hgs hP hf hd ho mb
 go_enter Tryz.func77,Tryz.ntmps77
 obtain⟨d0,d1,d2,d3,d4,d5,d6,d7,d8,d9,d10⟩:=H.terms (B:=B) (t:=t)
 have ld:=zA0 d0
 go_wp2_with fail
 clear d0 d1 d2 d3 d4 d5 d6 d7 d8 d9 d10 ld
 with_reducible refine (OF.out _ (H.factsS).t).mono ?_
 rintro e w1 ⟨a0,c0,rfl,hd,hb⟩
 replace H:=H.below hb
 clear hb
 have f0:=H.frozen B 20
 have k0:=H.cell B 20 _
 have l0:=zA0 k0
 go_wp2_with fail
 go_ret
 have hgs:=HG.out
 have hd':=zA8 hd k0 (fun j hj e=>by cases e) (.slice a0 (x.q+1+1) c0)
 replace H:=Held.put17 H (.slice a0 (x.q+1+1) c0) hB (zA1 (Or.inr zd) (zA1 (Or.inr zd) (zA1 (Or.inr zd) (zA1 (Or.inr zd) (zA1 (Or.inr zd) (zA1 (Or.inr zd) (zA1 trivial (zA1 trivial (zA1 trivial (zA1 trivial (zA1 trivial (zA1 trivial (zA1 trivial (zA1 (Or.inr (fun W u _ h=>h.set (Or.inr zo) u)) (zA1 (Or.inr (fun W u _ h=>h.set (Or.inr zo) u)) (zA1 (Or.inl hC0) (zA1 (Or.inl hF0) (zD1 hgs zd))))))))))))))))))
 refine⟨a0,c0,rfl,(H.add (f:=zAb a0 (t.dd x.X x.q) (x.q+1+1) c0) hd').sub (fun f hf=>?_)⟩
 simp only[List.mem_cons,List.append_eq,List.cons_append,List.nil_append] at hf
 rcases hf with rfl | rfl | rfl | rfl | rfl | rfl | rfl | rfl | rfl | rfl | rfl | rfl | rfl | rfl | rfl | rfl | rfl | rfl | rfl | hf
 all_goals (repeat (first | exact hf | with_reducible exact List.mem_cons_self | with_reducible apply List.mem_cons_of_mem))
theorem zque6 {P:Prop} (h:P:=by
 simp only[List.mem_cons,List.append_eq,List.cons_append,List.nil_append] at hf
 rcases hf with rfl | rfl | rfl | rfl | rfl | rfl | rfl | rfl | rfl | rfl | rfl | rfl | rfl | rfl | rfl | rfl | rfl | rfl | rfl | rfl | hf
 all_goals (repeat (first | exact hf | with_reducible exact List.mem_cons_self | with_reducible apply List.mem_cons_of_mem))):P:=h
theorem zOh (t:Tm) (c:Ca) (aR:Option Addr) (cR:Nat) (aD:Option Addr) (cD:Nat) (B:Nat) (x:Pl) (gs:List Fact) (hgs:∀f∈gs,f.small) (w W:World) (hF0:FactsS w) (hC0:CalAt w c aR cR aD cD) (hB:w.heap.size≤B) (a0:Option Addr) (c0:Nat) (hd0:∀j,j<(x.q+1+1)→1≤(t.dd x.X x.q) j) (hM:c.May) (hn:(x.q+1+1)≤1300) (hbd:∀i,i<(x.q+1+1)→-9223372036854775808≤(t.dd x.X x.q) i∧(t.dd x.X x.q) i<9223372036854775808) (hR:∀i,i<(x.q+1+1)→ToIs c ((t.dd x.X x.q) i) t.ro (x.V i) (x.C i)) (H:Held w (.cell B 20 (.slice a0 (x.q+1+1) c0)::.cell B 21 (.slice none 0 0)::.cell B 22 (.slice none 0 0)::.cell B 23 false::.cell B 24 (0:Int)::.cell B 25 (0:Int)::.cell B 26 (.slice none 0 0)::.free B 20::.free B 21::.free B 22::.free B 23::.free B 24::.free B 25::.free B 26::zAw B t::zAj B c aR cR aD cD::calF c aR cR aD cD::zAg::zAb a0 (t.dd x.X x.q) (x.q+1+1) c0::gs) W):Calls Tryz.prog 78 #[.pointer (some ⟨B,0,none⟩)] W fun e w'=>e=.returned (fst1 x.C (x.q+1+1):Int)∧Held w gs w'∧(fst1 x.C (x.q+1+1)=0→∃a1 c1,Held w (.cell B 21 (.slice a1 (x.q+1+1) c1)::.cell B 20 (.slice a0 (x.q+1+1) c0)::.cell B 22 (.slice none 0 0)::.cell B 23 false::.cell B 24 (0:Int)::.cell B 25 (0:Int)::.cell B 26 (.slice none 0 0)::.free B 20::.free B 21::.free B 22::.free B 23::.free B 24::.free B 25::.free B 26::zAw B t::zAj B c aR cR aD cD::calF c aR cR aD cD::zAg::zAb a0 (t.dd x.X x.q) (x.q+1+1) c0::zAb a1 x.V (x.q+1+1) c1::gs) w'):=by
 have DR:=zh (fun v h1 h2 h3 h4 h5=>zJa t c aR cR aD cD B a0 (x.q+1+1) c0 (t.dd x.X x.q) x.V x.C v h1 hM h2 h3 h4 h5 hn hbd hR)
 have HG:=zh hgs
 clear hM hgs hR hn hbd
 go_enter Tryz.func78,Tryz.ntmps78
 have k20:=H.cell B 20 _
 have l20:=zA0 k20
 go_wp2_with fail
 clear k20 l20
 with_reducible refine (DR.out _ (H.factsS) (H.cal (c:=c) (aR:=aR) (cR:=cR) (aD:=aD) (cD:=cD)) (H.terms (B:=B) (t:=t)) (H.calBox (B:=B) (c:=c) (aR:=aR) (cR:=cR) (aD:=aD) (cD:=cD)) (H.days (ao:=a0) (X:=(t.dd x.X x.q)) (n:=(x.q+1+1)) (cap:=c0))).mono ?_
 rintro e w1 ⟨a1,m1,c1,rfl,hm1,hd1,hb⟩
 replace H:=H.below hb
 clear hb DR
 have f0:=H.frozen B 21
 have k0:=H.cell B 21 _
 have l0:=zA0 k0
 obtain⟨z,hz⟩:∃z,fst1 x.C (x.q+1+1)=z:=⟨_,rfl⟩
 rw[hz] at hm1
 rw[hz]
 go_wp2_with fail
 go_ret
 have hgs:=HG.out
 have hd':=zA8 hd1 k0 (fun j hj e=>by cases e) (.slice a1 m1 c1)
 replace H:Held w (.cell B 21 (.slice none 0 0)::.cell B 20 (.slice a0 (x.q+1+1) c0)::.cell B 22 (.slice none 0 0)::.cell B 23 false::.cell B 24 (0:Int)::.cell B 25 (0:Int)::.cell B 26 (.slice none 0 0)::.free B 20::.free B 21::.free B 22::.free B 23::.free B 24::.free B 25::.free B 26::zAw B t::zAj B c aR cR aD cD::calF c aR cR aD cD::zAg::zAb a0 (t.dd x.X x.q) (x.q+1+1) c0::gs) _:=Held.pull (xs:=[.cell B 20 (.slice a0 (x.q+1+1) c0)]) H
 replace H:=Held.put17 H (.slice a1 m1 c1) hB (zA1 (Or.inr zd) (zA1 (Or.inr zd) (zA1 (Or.inr zd) (zA1 (Or.inr zd) (zA1 (Or.inr zd) (zA1 (Or.inr zd) (zA1 trivial (zA1 trivial (zA1 trivial (zA1 trivial (zA1 trivial (zA1 trivial (zA1 trivial (zA1 (Or.inr (fun W u _ h=>h.set (Or.inr zo) u)) (zA1 (Or.inr (fun W u _ h=>h.set (Or.inr zo) u)) (zA1 (Or.inl hC0) (zA1 (Or.inl hF0) (zA1 (Or.inr (fun W u ho h=>zA8 h ho (fun j hj e=>by cases e) u)) (zD1 hgs zd)))))))))))))))))))
 subst hz
 refine⟨rfl,H.sub (fun f hf=>by repeat (first | exact hf | apply List.mem_cons_of_mem)),fun h0=>?_⟩
 obtain rfl:=hm1.1 h0
 refine⟨a1,c1,(H.add (f:=zAb a1 x.V (x.q+1+1) c1) hd').sub (fun f hf=>?_)⟩
 exact zque6
theorem zJv (t:Tm) (c:Ca) (aR:Option Addr) (cR:Nat) (aD:Option Addr) (cD:Nat) (B:Nat) (x:Pl) (gs:List Fact) (hgs:∀f∈gs,f.small) (w W:World) (hF0:FactsS w) (hC0:CalAt w c aR cR aD cD) (hB:w.heap.size≤B) (a0:Option Addr) (c0:Nat) (a1:Option Addr) (c1:Nat) (hk:t.co≠6) (H:Held w (.cell B 25 (fr t.ms)::.cell B 24 (x.V (x.q+1):Int)::.cell B 23 t.eo::.cell B 21 (.slice a1 (x.q+1+1) c1)::.cell B 20 (.slice a0 (x.q+1+1) c0)::.cell B 22 (.slice none 0 0)::.cell B 26 (.slice none 0 0)::.free B 20::.free B 21::.free B 22::.free B 23::.free B 24::.free B 25::.free B 26::zAw B t::zAj B c aR cR aD cD::calF c aR cR aD cD::zAg::zAb a0 (t.dd x.X x.q) (x.q+1+1) c0::zAb a1 x.V (x.q+1+1) c1::gs) W):Calls Tryz.prog 80 #[.pointer (some ⟨B,0,none⟩)] W fun e w'=>e=.returned (0:Int)∧Held w (.cell B 25 (fr t.ms)::.cell B 24 (x.V (x.q+1):Int)::.cell B 23 t.eo::.cell B 21 (.slice a1 (x.q+1+1) c1)::.cell B 20 (.slice a0 (x.q+1+1) c0)::.cell B 22 (.slice none 0 0)::.cell B 26 (.slice none 0 0)::.free B 20::.free B 21::.free B 22::.free B 23::.free B 24::.free B 25::.free B 26::zAw B t::zAj B c aR cR aD cD::calF c aR cR aD cD::zAg::zAb a0 (t.dd x.X x.q) (x.q+1+1) c0::zAb a1 x.V (x.q+1+1) c1::gs) w':=by
 have k6:Hid ((t.co != 6)=true):=zh (by simpa using hk)
 clear hk
 go_enter Tryz.func80,Tryz.ntmps80
 obtain⟨d0,d1,d2,d3,d4,d5,d6,d7,d8,d9,d10⟩:=H.terms (B:=B) (t:=t)
 have ld:=zA0 d0
 have k6:=k6.out
 go_wp2_with fail
 go_ret
 exact⟨rfl,H⟩
theorem put_refs (t:Tm) (c:Ca) (aR:Option Addr) (cR:Nat) (aD:Option Addr) (cD:Nat) (B:Nat) (x:Pl) (gs:List Fact) (hgs:∀f∈gs,f.small) (w W:World) (hF0:FactsS w) (hC0:CalAt w c aR cR aD cD) (hB:w.heap.size≤B) (a0:Option Addr) (c0:Nat) (a1:Option Addr) (c1:Nat) (hk:t.co=6) (hc:t.code=0) (hP:PlanIs t c x) (hM:c.May) (hn:x.K≤1300) (hbd:∀i,i<x.K→-9223372036854775808≤x.G t i∧x.G t i<9223372036854775808) (H:Held w (.cell B 25 (fr t.ms)::.cell B 24 (x.V (x.q+1):Int)::.cell B 23 t.eo::.cell B 21 (.slice a1 (x.q+1+1) c1)::.cell B 20 (.slice a0 (x.q+1+1) c0)::.cell B 22 (.slice none 0 0)::.cell B 26 (.slice none 0 0)::.free B 20::.free B 21::.free B 22::.free B 23::.free B 24::.free B 25::.free B 26::zAw B t::zAj B c aR cR aD cD::calF c aR cR aD cD::zAg::zAb a0 (t.dd x.X x.q) (x.q+1+1) c0::zAb a1 x.V (x.q+1+1) c1::gs) W):Calls Tryz.prog 80 #[.pointer (some ⟨B,0,none⟩)] W fun e w'=>e=.returned (fst1 x.GC x.K)∧Held w gs w'∧(fst1 x.GC x.K=0→∃a3 c3,Held w (.cell B 26 (.slice a3 x.K c3)::.cell B 25 (fr t.ms)::.cell B 24 (x.V (x.q+1):Int)::.cell B 23 t.eo::.cell B 21 (.slice a1 (x.q+1+1) c1)::.cell B 20 (.slice a0 (x.q+1+1) c0)::.cell B 22 (.slice none 0 0)::.free B 20::.free B 21::.free B 22::.free B 23::.free B 24::.free B 25::.free B 26::zAw B t::zAj B c aR cR aD cD::calF c aR cR aD cD::zAg::zAb a0 (t.dd x.X x.q) (x.q+1+1) c0::zAb a1 x.V (x.q+1+1) c1::zAb a3 x.GV x.K c3::gs) w'):=by
 obtain⟨hf,hd,ho,-,-⟩:=t.of_zero hc
 have mb:=zRu hf.2.2.2
 have GA:Hid (∀v,FactsT v→Calls Tryz.prog 88 #[.agg #[t.mo,t.ra,t.ki,t.co,t.st,t.en,t.ms,t.bk,t.lg,t.eo,t.ro]] v fun e w'=>∃ao cap,e=.returned (.tuple #[.slice ao x.K cap,(0:Int)])∧DaysAt w' ao (x.G t) x.K cap∧Below v v w'):=zh (fun v h=>zMv t.mo t.ra t.ki t.co t.st t.en t.ms t.bk t.lg t.eo t.ro x.X x.E x.m v h hc zo (hP.walk hc))
 have hR:=hP.grid
 have k6:Hid ((t.co != 6)=false):=zh (by simpa using hk)
 have DR:=zh (fun a k v h1 h2 h3 h4 h5=>zJa t c aR cR aD cD B a x.K k (x.G t) x.GV x.GC v h1 hM h2 h3 h4 h5 hn hbd hR)
 have HG:=zh hgs
 clear hM hgs hR hn hbd hc hP hf hd ho mb hk
 go_enter Tryz.func80,Tryz.ntmps80
 obtain⟨d0,d1,d2,d3,d4,d5,d6,d7,d8,d9,d10⟩:=H.terms (B:=B) (t:=t)
 have ld:=zA0 d0
 have k6:=k6.out
 go_wp2_with fail
 clear d0 d1 d2 d3 d4 d5 d6 d7 d8 d9 d10 ld
 with_reducible refine (GA.out _ (H.factsS).t).mono ?_
 rintro e w1 ⟨ag,cg,rfl,hdg,hb⟩
 replace H:=(H.below hb).add (f:=zAb ag (x.G t) x.K cg) hdg
 clear hb hdg GA
 go_wp2_with fail
 with_reducible refine (DR.out ag cg _ (H.factsS) (H.cal (c:=c) (aR:=aR) (cR:=cR) (aD:=aD) (cD:=cD)) (H.terms (B:=B) (t:=t)) (H.calBox (B:=B) (c:=c) (aR:=aR) (cR:=cR) (aD:=aD) (cD:=cD)) (H.days (ao:=ag) (X:=(x.G t)) (n:=x.K) (cap:=cg))).mono ?_
 rintro e w2 ⟨a3,m3,c3,rfl,hm3,hd3,hb⟩
 replace H:=H.below hb
 replace H:=H.sub (fun f hf=>List.mem_cons_of_mem _ hf)
 clear hb DR
 have f0:=H.frozen B 26
 have k0:=H.cell B 26 _
 have l0:=zA0 k0
 obtain⟨z,hz⟩:∃z,fst1 x.GC x.K=z:=⟨_,rfl⟩
 rw[hz] at hm3
 rw[hz]
 go_wp2_with fail
 go_ret
 have hgs:=HG.out
 have hd':=zA8 hd3 k0 (fun j hj e=>by cases e) (.slice a3 m3 c3)
 replace H:Held w (.cell B 26 (.slice none 0 0)::.cell B 25 (fr t.ms)::.cell B 24 (x.V (x.q+1):Int)::.cell B 23 t.eo::.cell B 21 (.slice a1 (x.q+1+1) c1)::.cell B 20 (.slice a0 (x.q+1+1) c0)::.cell B 22 (.slice none 0 0)::.free B 20::.free B 21::.free B 22::.free B 23::.free B 24::.free B 25::.free B 26::zAw B t::zAj B c aR cR aD cD::calF c aR cR aD cD::zAg::zAb a0 (t.dd x.X x.q) (x.q+1+1) c0::zAb a1 x.V (x.q+1+1) c1::gs) _:=Held.pull (xs:=[.cell B 25 (fr t.ms),.cell B 24 (x.V (x.q+1):Int),.cell B 23 t.eo,.cell B 21 (.slice a1 (x.q+1+1) c1),.cell B 20 (.slice a0 (x.q+1+1) c0),.cell B 22 (.slice none 0 0)]) H
 replace H:=Held.put17 H (.slice a3 m3 c3) hB (zA1 (Or.inr zd) (zA1 (Or.inr zd) (zA1 (Or.inr zd) (zA1 (Or.inr zd) (zA1 (Or.inr zd) (zA1 (Or.inr zd) (zA1 trivial (zA1 trivial (zA1 trivial (zA1 trivial (zA1 trivial (zA1 trivial (zA1 trivial (zA1 (Or.inr (fun W u _ h=>h.set (Or.inr zo) u)) (zA1 (Or.inr (fun W u _ h=>h.set (Or.inr zo) u)) (zA1 (Or.inl hC0) (zA1 (Or.inl hF0) (zA1 (Or.inr (fun W u ho h=>zA8 h ho (fun j hj e=>by cases e) u)) (zA1 (Or.inr (fun W u ho h=>zA8 h ho (fun j hj e=>by cases e) u)) (zD1 hgs zd))))))))))))))))))))
 subst hz
 refine⟨rfl,H.sub (fun f hf=>by repeat (first | exact hf | apply List.mem_cons_of_mem)),fun h0=>?_⟩
 obtain rfl:=hm3.1 h0
 refine⟨a3,c3,(H.add (f:=zAb a3 x.GV x.K c3) hd').sub (fun f hf=>?_)⟩
 simp only[List.mem_cons,List.append_eq,List.cons_append,List.nil_append] at hf
 rcases hf with rfl | rfl | rfl | rfl | rfl | rfl | rfl | rfl | rfl | rfl | rfl | rfl | rfl | rfl | rfl | rfl | rfl | rfl | rfl | rfl | rfl | hf
 all_goals (repeat (first | exact hf | with_reducible exact List.mem_cons_self | with_reducible apply List.mem_cons_of_mem))
theorem zBy {W:World} {b i B o:Nat} {u v:Value} (h:W.cell? ⟨b,i,none⟩=some u) (k:W.cell? ⟨B,o,none⟩=some v) (hne:u≠v):b≠B∨i≠o:=by
 by_cases e:b=B
 ·by_cases e2:i=o
  ·subst e e2
   rw[h] at k
   exact absurd (Option.some.inj k) hne
  ·exact Or.inr e2
 ·exact Or.inl e
theorem zOg (t:Tm) (c:Ca) (aR:Option Addr) (cR:Nat) (aD:Option Addr) (cD:Nat) (B:Nat) (x:Pl) (gs:List Fact) (hgs:∀f∈gs,f.small) (w W:World) (hF0:FactsS w) (hC0:CalAt w c aR cR aD cD) (hB:w.heap.size≤B) (a0:Option Addr) (c0:Nat) (a1:Option Addr) (c1:Nat) (hd0:∀j,j<(x.q+1+1)→1≤(t.dd x.X x.q) j) (hd1:∀j,j<(x.q+1+1)→1≤x.V j) (hq:x.q≤90) (H:Held w (.cell B 21 (.slice a1 (x.q+1+1) c1)::.cell B 20 (.slice a0 (x.q+1+1) c0)::.cell B 22 (.slice none 0 0)::.cell B 23 false::.cell B 24 (0:Int)::.cell B 25 (0:Int)::.cell B 26 (.slice none 0 0)::.free B 20::.free B 21::.free B 22::.free B 23::.free B 24::.free B 25::.free B 26::zAw B t::zAj B c aR cR aD cD::calF c aR cR aD cD::zAg::zAb a0 (t.dd x.X x.q) (x.q+1+1) c0::zAb a1 x.V (x.q+1+1) c1::gs) W):Calls Tryz.prog 79 #[.pointer (some ⟨B,0,none⟩)] W fun e w'=>e=.returned (0:Int)∧Held w (.cell B 25 (fr t.ms)::.cell B 24 (x.V (x.q+1):Int)::.cell B 23 t.eo::.cell B 21 (.slice a1 (x.q+1+1) c1)::.cell B 20 (.slice a0 (x.q+1+1) c0)::.cell B 22 (.slice none 0 0)::.cell B 26 (.slice none 0 0)::.free B 20::.free B 21::.free B 22::.free B 23::.free B 24::.free B 25::.free B 26::zAw B t::zAj B c aR cR aD cD::calF c aR cR aD cD::zAg::zAb a0 (t.dd x.X x.q) (x.q+1+1) c0::zAb a1 x.V (x.q+1+1) c1::gs) w':=by
 have HG:=zh hgs
 clear hgs
 obtain⟨b1,o1,rfl,hV⟩:=(H.days (ao:=a1) (X:=x.V) (n:=(x.q+1+1)) (cap:=c1)).2 zo
 have hc1:=(H.days (ao:=some ⟨b1,o1,none⟩) (X:=x.V) (n:=(x.q+1+1)) (cap:=c1)).1
 have kv:=hV (x.q+1) zo
 have vq:=hd1 (x.q+1) zo
 have ne23:=zBy kv (H.cell B 23 false) (by intro e;cases e)
 have ne24:=zBy kv (H.cell B 24 (0:Int)) (by intro e;injection e with _ e;omega)
 have ne25:=zBy kv (H.cell B 25 (0:Int)) (by intro e;injection e with _ e;omega)
 have ne26:=zBy kv (H.cell B 26 (.slice none 0 0)) (by intro e;cases e)
 replace H:=((H.add (f:=.cell B 9 t.eo) (H.terms (B:=B) (t:=t)).c9).add (f:=.cell B 6 t.ms) (H.terms (B:=B) (t:=t)).c6).add (f:=.cell b1 (o1+(x.q+1)) (x.V (x.q+1):Int)) kv
 clear hV kv
 go_enter Tryz.func79,Tryz.ntmps79
 have k21:=H.cell B 21 _
 have l21:=zA0 k21
 go_upto_region 2 with fail
 clear k21 l21
 obtain⟨i0,hi,hz0,hz1,hz2⟩:=info_parts zAo
 replace H:=H.drew
 refine wp_region_held_drew (S:=fun w'=>w'.cell? ⟨b1,o1+(x.q+1),none⟩=some (.int .i64 (x.V (x.q+1)))∧w'.cell? ⟨B,6,none⟩=some (.int .i64 t.ms)∧w'.cell? ⟨B,9,none⟩=some (.bool t.eo)∧w'.cell? ⟨B,21,none⟩=some (.slice (some ⟨b1,o1,none⟩) (x.q+1+1) c1)) zk (⟨H.c,H.c,H.c,H.c⟩) (fun hHeld=>?_)
 obtain⟨WD,hWD⟩:∃WD,World.drew (W)=WD:=⟨_,rfl⟩
 rw[hWD] at H hHeld  ⊢
 clear hWD
 obtain⟨b0,hb0⟩:∃b0,WD.heap.size=b0:=⟨_,rfl⟩
 have HB:=Below.refl b0 WD
 have HWD:=zh H
 have HS:Hid (∀W,Below b0 WD W→b0≤W.heap.size):=zh (fun W h=>by have z:=h.size;rw[hb0] at z;exact z)
 have HU:Hid (∀W,Below b0 WD W→Below WD WD W):=zh (fun W h=>by rw[hb0];exact h)
 clear hb0
 refine zT 0 ?_
 go_frame
 refine zT 1 ?_
 go_frame
 refine zT 2 ?_
 go_frame
 refine zT 3 ?_
 go_frame
 refine zT 4 ?_
 go_frame
 refine zT 5 ?_
 go_frame
 refine zT 6 ?_
 go_frame
 refine zT 7 ?_
 go_frame
 refine zT 8 ?_
 go_frame
 refine zT 9 ?_
 go_frame
 refine zT 10 ?_
 go_frame
 refine zT 11 ?_
 go_frame
 refine zP 12 (.pointer (some ⟨b1,o1+(x.q+1),none⟩)) ?_
 go_frame
 refine zT 13 ?_
 go_frame
 refine zT 14 ?_
 go_frame
 refine zT 15 ?_
 go_frame
 refine zT 16 ?_
 go_frame
 refine zT 17 ?_
 go_frame
 refine zT 18 ?_
 go_frame
 refine wpAnyH_ready (rs:=[19]) zk zs ?_
 refine AllReadyH.cons (o:=⟨some 30,_,_,_,_,_⟩) rfl (fun K hK=>?_) AllReadyH.nil
 go_simp
 with_reducible refine (zU4 t.ms (fr t.ms) _ rfl).mono ?_
 rintro e U1 ⟨rfl,hb⟩
 replace H:=H.below hb
 replace HB:=HB.trans (hb.mono (HS.out _ HB))
 clear hb
 go_wp2_with fail
 refine hK.out _ _ (⟨H.c,H.c,H.c,H.c⟩) (fun hNew=>?_)
 clear hK K hHeld
 have hHeld:=hNew
 clear hNew
 try go_frame
 refine zT 20 ?_
 go_frame
 refine zT 21 ?_
 go_frame
 refine zT 22 ?_
 go_frame
 refine zT 23 ?_
 go_frame
 refine wpAnyH_ready (rs:=[24]) zk zs ?_
 refine AllReadyH.cons (o:=⟨none,_,_,_,_,_⟩) rfl (fun K hK=>?_) AllReadyH.nil
 have k23:=H.cell B 23 _
 have f23:=H.frozen B 23
 have k24:=H.cell B 24 _
 have f24:=H.frozen B 24
 have k25:=H.cell B 25 _
 have f25:=H.frozen B 25
 have k26:=H.cell B 26 _
 have f26:=H.frozen B 26
 have lb:=zA0 k23
 go_simp
 have hgs:=HG.out
 replace H:Held w (.cell B 23 false::.cell b1 (o1+(x.q+1)) (x.V (x.q+1):Int)::.cell B 6 t.ms::.cell B 9 t.eo::.cell B 21 (.slice (some ⟨b1,o1,none⟩) (x.q+1+1) c1)::.cell B 20 (.slice a0 (x.q+1+1) c0)::.cell B 22 (.slice none 0 0)::.cell B 24 (0:Int)::.cell B 25 (0:Int)::.cell B 26 (.slice none 0 0)::.free B 20::.free B 21::.free B 22::.free B 23::.free B 24::.free B 25::.free B 26::zAw B t::zAj B c aR cR aD cD::calF c aR cR aD cD::zAg::zAb a0 (t.dd x.X x.q) (x.q+1+1) c0::zAb (some ⟨b1,o1,none⟩) x.V (x.q+1+1) c1::gs) _:=Held.pull (xs:=[.cell b1 (o1+(x.q+1)) (x.V (x.q+1):Int),.cell B 6 t.ms,.cell B 9 t.eo,.cell B 21 (.slice (some ⟨b1,o1,none⟩) (x.q+1+1) c1),.cell B 20 (.slice a0 (x.q+1+1) c0),.cell B 22 (.slice none 0 0)]) H
 replace H:=Held.put17 H t.eo hB (zA1 ne23 (zA1 (Or.inr zd) (zA1 (Or.inr zd) (zA1 (Or.inr zd) (zA1 (Or.inr zd) (zA1 (Or.inr zd) (zA1 (Or.inr zd) (zA1 (Or.inr zd) (zA1 (Or.inr zd) (zA1 trivial (zA1 trivial (zA1 trivial (zA1 trivial (zA1 trivial (zA1 trivial (zA1 trivial (zA1 (Or.inr (fun W u _ h=>h.set (Or.inr zo) u)) (zA1 (Or.inr (fun W u _ h=>h.set (Or.inr zo) u)) (zA1 (Or.inl hC0) (zA1 (Or.inl hF0) (zA1 (Or.inr (fun W u ho h=>zA8 h ho (fun j hj e=>by cases e) u)) (zA1 (Or.inr (fun W u ho h=>zA8 h ho (fun j hj e=>by cases e) u)) (zD1 hgs zd)))))))))))))))))))))))
 replace H:Held w (.cell B 24 (0:Int)::.cell B 23 t.eo::.cell b1 (o1+(x.q+1)) (x.V (x.q+1):Int)::.cell B 6 t.ms::.cell B 9 t.eo::.cell B 21 (.slice (some ⟨b1,o1,none⟩) (x.q+1+1) c1)::.cell B 20 (.slice a0 (x.q+1+1) c0)::.cell B 22 (.slice none 0 0)::.cell B 25 (0:Int)::.cell B 26 (.slice none 0 0)::.free B 20::.free B 21::.free B 22::.free B 23::.free B 24::.free B 25::.free B 26::zAw B t::zAj B c aR cR aD cD::calF c aR cR aD cD::zAg::zAb a0 (t.dd x.X x.q) (x.q+1+1) c0::zAb (some ⟨b1,o1,none⟩) x.V (x.q+1+1) c1::gs) _:=Held.pull (xs:=[.cell B 23 t.eo,.cell b1 (o1+(x.q+1)) (x.V (x.q+1):Int),.cell B 6 t.ms,.cell B 9 t.eo,.cell B 21 (.slice (some ⟨b1,o1,none⟩) (x.q+1+1) c1),.cell B 20 (.slice a0 (x.q+1+1) c0),.cell B 22 (.slice none 0 0)]) H
 replace H:=Held.put17 H (x.V (x.q+1):Int) hB (zA1 (Or.inr zd) (zA1 ne24 (zA1 (Or.inr zd) (zA1 (Or.inr zd) (zA1 (Or.inr zd) (zA1 (Or.inr zd) (zA1 (Or.inr zd) (zA1 (Or.inr zd) (zA1 (Or.inr zd) (zA1 trivial (zA1 trivial (zA1 trivial (zA1 trivial (zA1 trivial (zA1 trivial (zA1 trivial (zA1 (Or.inr (fun W u _ h=>h.set (Or.inr zo) u)) (zA1 (Or.inr (fun W u _ h=>h.set (Or.inr zo) u)) (zA1 (Or.inl hC0) (zA1 (Or.inl hF0) (zA1 (Or.inr (fun W u ho h=>zA8 h ho (fun j hj e=>by injection e with _ e;have:=hd0 j hj;omega) u)) (zA1 (Or.inr (fun W u ho h=>zA8 h ho (fun j hj e=>by injection e with _ e;have:=hd1 j hj;omega) u)) (zD1 hgs zd)))))))))))))))))))))))
 replace H:Held w (.cell B 25 (0:Int)::.cell B 24 (x.V (x.q+1):Int)::.cell B 23 t.eo::.cell b1 (o1+(x.q+1)) (x.V (x.q+1):Int)::.cell B 6 t.ms::.cell B 9 t.eo::.cell B 21 (.slice (some ⟨b1,o1,none⟩) (x.q+1+1) c1)::.cell B 20 (.slice a0 (x.q+1+1) c0)::.cell B 22 (.slice none 0 0)::.cell B 26 (.slice none 0 0)::.free B 20::.free B 21::.free B 22::.free B 23::.free B 24::.free B 25::.free B 26::zAw B t::zAj B c aR cR aD cD::calF c aR cR aD cD::zAg::zAb a0 (t.dd x.X x.q) (x.q+1+1) c0::zAb (some ⟨b1,o1,none⟩) x.V (x.q+1+1) c1::gs) _:=Held.pull (xs:=[.cell B 24 (x.V (x.q+1):Int),.cell B 23 t.eo,.cell b1 (o1+(x.q+1)) (x.V (x.q+1):Int),.cell B 6 t.ms,.cell B 9 t.eo,.cell B 21 (.slice (some ⟨b1,o1,none⟩) (x.q+1+1) c1),.cell B 20 (.slice a0 (x.q+1+1) c0),.cell B 22 (.slice none 0 0)]) H
 replace H:=Held.put17 H (fr t.ms) hB (zA1 (Or.inr zd) (zA1 (Or.inr zd) (zA1 ne25 (zA1 (Or.inr zd) (zA1 (Or.inr zd) (zA1 (Or.inr zd) (zA1 (Or.inr zd) (zA1 (Or.inr zd) (zA1 (Or.inr zd) (zA1 trivial (zA1 trivial (zA1 trivial (zA1 trivial (zA1 trivial (zA1 trivial (zA1 trivial (zA1 (Or.inr (fun W u _ h=>h.set (Or.inr zo) u)) (zA1 (Or.inr (fun W u _ h=>h.set (Or.inr zo) u)) (zA1 (Or.inl hC0) (zA1 (Or.inl hF0) (zA1 (Or.inr (fun W u ho h=>zA8 h ho (fun j hj e=>by injection e with _ e;have:=hd0 j hj;omega) u)) (zA1 (Or.inr (fun W u ho h=>zA8 h ho (fun j hj e=>by injection e with _ e;have:=hd1 j hj;omega) u)) (zD1 hgs zd)))))))))))))))))))))))
 replace H:Held w (.cell B 26 (.slice none 0 0)::.cell B 25 (fr t.ms)::.cell B 24 (x.V (x.q+1):Int)::.cell B 23 t.eo::.cell b1 (o1+(x.q+1)) (x.V (x.q+1):Int)::.cell B 6 t.ms::.cell B 9 t.eo::.cell B 21 (.slice (some ⟨b1,o1,none⟩) (x.q+1+1) c1)::.cell B 20 (.slice a0 (x.q+1+1) c0)::.cell B 22 (.slice none 0 0)::.free B 20::.free B 21::.free B 22::.free B 23::.free B 24::.free B 25::.free B 26::zAw B t::zAj B c aR cR aD cD::calF c aR cR aD cD::zAg::zAb a0 (t.dd x.X x.q) (x.q+1+1) c0::zAb (some ⟨b1,o1,none⟩) x.V (x.q+1+1) c1::gs) _:=Held.pull (xs:=[.cell B 25 (fr t.ms),.cell B 24 (x.V (x.q+1):Int),.cell B 23 t.eo,.cell b1 (o1+(x.q+1)) (x.V (x.q+1):Int),.cell B 6 t.ms,.cell B 9 t.eo,.cell B 21 (.slice (some ⟨b1,o1,none⟩) (x.q+1+1) c1),.cell B 20 (.slice a0 (x.q+1+1) c0),.cell B 22 (.slice none 0 0)]) H
 replace H:=Held.put17 H (.slice none 0 0) hB (zA1 (Or.inr zd) (zA1 (Or.inr zd) (zA1 (Or.inr zd) (zA1 ne26 (zA1 (Or.inr zd) (zA1 (Or.inr zd) (zA1 (Or.inr zd) (zA1 (Or.inr zd) (zA1 (Or.inr zd) (zA1 trivial (zA1 trivial (zA1 trivial (zA1 trivial (zA1 trivial (zA1 trivial (zA1 trivial (zA1 (Or.inr (fun W u _ h=>h.set (Or.inr zo) u)) (zA1 (Or.inr (fun W u _ h=>h.set (Or.inr zo) u)) (zA1 (Or.inl hC0) (zA1 (Or.inl hF0) (zA1 (Or.inr (fun W u ho h=>zA8 h ho (fun j hj e=>by cases e) u)) (zA1 (Or.inr (fun W u ho h=>zA8 h ho (fun j hj e=>by cases e) u)) (zD1 hgs zd)))))))))))))))))))))))
 replace HB:True:=trivial
 refine hK.out _ _ (⟨H.c,H.c,H.c,H.c⟩) (fun hNew=>?_)
 clear hK K hHeld
 have hHeld:=hNew
 clear hNew
 try go_frame
 refine wpAnyH_done zk ?_ _
 clear hHeld
 go_wp2
 go_ret
 refine⟨rfl,H.sub (fun f hf=>?_)⟩
 exact zque6
end Go.Proofs.YtpfgdfpaoldhcaaGreatDoor
