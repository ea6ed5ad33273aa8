/- Several texts in one: ScRof. -/
import Derived.Test.YtpfgdfpaoldhcaaGreatDoorSuBL
set_option maxHeartbeats 8000000
set_option maxRecDepth 100000
set_option linter.unusedVariables false
set_option linter.unusedSimpArgs false
namespace Go.Proofs.YtpfgdfpaoldhcaaGreatDoor
open Go.RowKit
theorem rof17_no (t:Tm) (c:Ca) (aR:Option Addr) (cR:Nat) (aD:Option Addr) (cD:Nat) (x:Pl) (y:Int) (w:World) (hC:CalAt w c aR cR aD cD) (hc:t.code=y) (h0:y≠0):Calls Tryz.prog 12 #[.agg #[t.mo,t.ra,t.ki,t.co,t.st,t.en,t.ms,t.bk,t.lg,t.eo,t.ro],.agg #[(c.o 0),(c.o 1),(c.o 2),(c.o 3),(c.o 4),(c.o 5),(c.o 6),.slice aR c.nr cR,.slice aD c.nd cD]] w fun e w'=>PlanOut x t w.heap.size e w'∧Below w w w':=by
 have H:=(Held.start w).add (f:=calF c aR cR aD cD) hC
 have D1:=zh (fun v=>rof_no t.mo t.ra t.ki t.co t.st t.en t.ms t.bk t.lg t.eo t.ro y v hc h0)
 have E0:Hid ((y != 0)=true):=zh (by simpa using h0)
 have CX:Hid (x.code t=y∧y≠0):=zh ⟨by unfold Pl.code;rw[if_pos zo];exact hc,h0⟩
 clear hc h0
 clear hC
 go_enter Tryz.func12,Tryz.ntmps12
 go_wp2_with fail
 replace H:=H.box_11 w t.mo t.ra t.ki t.co t.st t.en t.ms t.bk t.lg t.eo t.ro 23 rfl
 replace H:=H.box_9 (w+1) (c.o 0) (c.o 1) (c.o 2) (c.o 3) (c.o 4) (c.o 5) (c.o 6) (.slice aR c.nr cR) (.slice aD c.nd cD) 28 zs
 replace H:=H.box_7 (w+2) (.slice none 0 0) (.slice none 0 0) (.slice none 0 0) false (0:Int) (0:Int) (.slice none 0 0) 35 zs
 revert H
 with_reducible refine zG (fun _=>D1.out _) ?_
 intro w1 H
 obtain⟨cr0,cr1,cr2,cr3,cr4,cr5,cr6⟩:=H.cells7 (w+2)
 obtain⟨fr0,fr1,fr2,fr3,fr4,fr5,fr6⟩:=H.frozens7 (w+2)
 have lr:=zA0 cr0
 have e0:=E0.out
 go_wp2
 simp only[zA2 cr0,zA2 cr1,zA2 cr2,zA2 cr3,zA2 cr4,zA2 cr5,zA2 cr6]
 refine bodyPost_ret (v:=.tuple #[.agg #[.slice none 0 0,.slice none 0 0,.slice none 0 0,false,(0:Int),(0:Int),.slice none 0 0],y]) (by simp[results,Tryz.results12,go_sem,cr0,cr1,cr2,cr3,cr4,cr5,cr6,lr]) rfl ⟨PlanOut.no CX.out.1 CX.out.2,H.old⟩
theorem rest17 {P:Prop} (h:P:=by
 have HH:=zh H
 clear H
 go_upto_region 15 with fail
 obtain⟨W7,hW7⟩:∃W7,V.alloc (.cells #[.slice a0 (x.q+1+1) c0,.slice (some ⟨g1,o1,none⟩) (x.q+1+1) c1,.slice none 0 0,t.eo,vn,(fr t.ms),.slice a3 n3 c3] 35)=W7:=⟨_,rfl⟩
 have PR0:=PRow.start V (.slice a0 (x.q+1+1) c0) (.slice (some ⟨g1,o1,none⟩) (x.q+1+1) c1) t.eo vn (fr t.ms) (.slice a3 n3 c3) x.P x.Q
 have b7:Below V V W7:=hW7▸(Below.refl _ _).alloc (Nat.le_refl _) _
 rw[hW7] at PR0 ⊢
 obtain⟨P,hP⟩:∃P,V.heap.size=P:=⟨_,rfl⟩
 rw[hP] at b7 PR0 ⊢
 clear hW7
 have HSS:=zh hP
 have HZx:Hid (∀W,Below P V W→P≤W.heap.size):=zh (fun W h=>by have:=h.size;omega)
 clear hP
 go_wp2_with fail
 go_loopw [16,17,18] (fun i s17 s18 wr=>∃(k:Nat) (v:Value),k≤x.q+1∧i=.int .i64 ((k:Int)+1)∧(∀j,j<k→x.PC j=0)∧PRow P (.slice a0 (x.q+1+1) c0) (.slice (some ⟨g1,o1,none⟩) (x.q+1+1) c1) t.eo vn (fr t.ms) (.slice a3 n3 c3) x.P x.Q k v wr∧Below P V wr) (fun i _ _ _=>x.q+2-(intOf i).toNat)
 case atStart=>exact⟨0,_,zo,rfl,fun j hj=>absurd hj (Nat.not_lt_zero j),PR0,b7⟩
 case round=>
  obtain⟨k,v,hk,rfl,hz,PR,hB⟩:=hrel
  have H:=HH.out.below (HSS.out.symm▸hB)
  have HBx:=zh hB
  clear hB b7 PR0
  by_cases hlt:k<x.q+1
  ·obtain⟨bb,oo,ee,hcA⟩:=(H.days (ao:=(some ⟨g1,o1,none⟩)) (X:=x.V) (n:=(x.q+1+1)) (cap:=c1)).2 zo
   injection ee with ee
   injection ee with e1 e2 _
   subst e1 e2
   have ka:=hcA k zo
   have kb:=hcA (k+1) zo
   have R1:=zh (fun v hd=>PC.out k v a3 c3 hlt hd)
   obtain⟨va,hva⟩:∃z,x.V k=z:=⟨_,rfl⟩
   obtain⟨vb,hvb⟩:∃z,x.V (k+1)=z:=⟨_,rfl⟩
   obtain⟨pi,hpi⟩:∃z,x.P k=z:=⟨_,rfl⟩
   obtain⟨qi,hqi⟩:∃z,x.Q k=z:=⟨_,rfl⟩
   obtain⟨z,hzk⟩:∃z,x.PC k=z:=⟨_,rfl⟩
   rw[hva,hvb,hpi,hqi,hzk] at R1
   rw[hva] at ka
   rw[hvb] at kb
   replace H:=(H.add (f:=.cell g1 (o1+k) va) ka).add (f:=.cell g1 (o1+(k+1)) vb) kb
   have twk:IntKind.i64.wrap (k:Int)=(k:Int):=IntWalk.i64_in _ zo
   have twl:IntKind.i64.wrap ((k:Int)+1+1)=(k:Int)+1+1:=IntWalk.i64_in _ zo
   clear hcA ka kb hva hvb
   go_upto_region 18 with fail
   obtain⟨i0,hi,hz0,hz1,hz2⟩:=info_parts zAo
   replace H:=H.drew
   refine wp_region_held_drew (S:=fun w'=>w'.cell? ⟨w,3,none⟩=some (.int .i64 t.co)∧w'.cell? ⟨g1,o1+k,none⟩=some (.int .i64 va)∧w'.cell? ⟨g1,o1+(k+1),none⟩=some (.int .i64 vb)∧w'.cell? ⟨S,0,none⟩=some (.bool t.eo)∧w'.cell? ⟨S,1,none⟩=some (.int .i64 vn)∧w'.cell? ⟨S,2,none⟩=some (.int .i64 (fr t.ms))∧w'.cell? ⟨S,3,none⟩=some (.slice a3 n3 c3)) zk (⟨H.c,H.c,H.c,H.c,H.c,H.c,H.c⟩) (fun hHeld=>?_)
   replace HBx:=zh (HBx.out.drew)
   replace PR:=PR.onto ((Below.refl _ _).drew)
   obtain⟨WD,hWD⟩:∃WD,World.drew (wr)=WD:=⟨_,rfl⟩
   rw[hWD] at H hHeld HBx PR ⊢
   clear hWD
   obtain⟨b0,hb0⟩:∃b0,WD.heap.size=b0:=⟨_,rfl⟩
   have HB:=Below.refl b0 WD
   have HWD:=zh H
   have HS:Hid (∀W,Below b0 WD W→b0≤W.heap.size):=zh (fun W h=>by have z:=h.size;rw[hb0] at z;exact z)
   have HU:Hid (∀W,Below b0 WD W→Below WD WD W):=zh (fun W h=>by rw[hb0];exact h)
   clear hb0
   refine wpAnyH_take (i:=0) (oi:=⟨some 85,_,_,_,_,_⟩) (v:=?_) rfl zk zk zk (fun _ _ _ h=>h) (Or.inl ⟨zr,?_⟩) za ?_
   rotate_left
   ·intro w hSw;(try dsimp only at hSw);go_simp;try with_reducible rfl
   go_frame
   refine wpAnyH_take (i:=1) (oi:=⟨some 86,_,_,_,_,_⟩) (v:=?_) rfl zk zk zk (fun _ _ _ h=>h) (Or.inl ⟨zr,?_⟩) za ?_
   rotate_left
   ·intro w hSw;(try dsimp only at hSw);go_simp;try with_reducible rfl
   go_frame
   refine wpAnyH_take (i:=2) (oi:=⟨some 87,_,_,_,_,_⟩) (v:=?_) rfl zk zk zk (fun _ _ _ h=>h) (Or.inl ⟨zr,?_⟩) za ?_
   rotate_left
   ·intro w hSw;(try dsimp only at hSw);go_simp;try with_reducible rfl
   go_frame
   refine wpAnyH_take (i:=3) (oi:=⟨some 88,_,_,_,_,_⟩) (v:=?_) rfl zk zk zk (fun _ _ _ h=>h) (Or.inl ⟨zr,?_⟩) za ?_
   rotate_left
   ·intro w hSw;(try dsimp only at hSw);go_simp;try with_reducible rfl
   go_frame
   refine wpAnyH_take (i:=4) (oi:=⟨some 89,_,_,_,_,_⟩) (v:=?_) rfl zk zk zk (fun _ _ _ h=>h) (Or.inl ⟨zr,?_⟩) za ?_
   rotate_left
   ·intro w hSw;(try dsimp only at hSw);go_simp;try with_reducible rfl
   go_frame
   refine wpAnyH_take (i:=5) (oi:=⟨some 90,_,_,_,_,_⟩) (v:=.pointer (some ⟨g1,o1+k,none⟩)) rfl zk zk zk (fun _ _ _ h=>h) (Or.inl ⟨zr,?_⟩) za ?_
   ·intro w hSw;(try dsimp only at hSw);go_simp;(try rw[if_pos zo]);(try with_reducible rfl);(try omega)
   go_frame
   refine wpAnyH_take (i:=6) (oi:=⟨some 91,_,_,_,_,_⟩) (v:=?_) rfl zk zk zk (fun _ _ _ h=>h) (Or.inl ⟨zr,?_⟩) za ?_
   rotate_left
   ·intro w hSw;(try dsimp only at hSw);go_simp;try with_reducible rfl
   go_frame
   refine wpAnyH_take (i:=7) (oi:=⟨some 92,_,_,_,_,_⟩) (v:=?_) rfl zk zk zk (fun _ _ _ h=>h) (Or.inl ⟨zr,?_⟩) za ?_
   rotate_left
   ·intro w hSw;(try dsimp only at hSw);go_simp;try with_reducible rfl
   go_frame
   refine wpAnyH_take (i:=8) (oi:=⟨some 93,_,_,_,_,_⟩) (v:=?_) rfl zk zk zk (fun _ _ _ h=>h) (Or.inl ⟨zr,?_⟩) za ?_
   rotate_left
   ·intro w hSw;(try dsimp only at hSw);go_simp;try with_reducible rfl
   go_frame
   refine wpAnyH_take (i:=9) (oi:=⟨some 94,_,_,_,_,_⟩) (v:=.pointer (some ⟨g1,o1+(k+1),none⟩)) rfl zk zk zk (fun _ _ _ h=>h) (Or.inl ⟨zr,?_⟩) za ?_
   ·intro w hSw;(try dsimp only at hSw);go_simp;(try rw[if_pos zo]);(try with_reducible rfl);(try omega)
   go_frame
   refine wpAnyH_take (i:=10) (oi:=⟨some 95,_,_,_,_,_⟩) (v:=?_) rfl zk zk zk (fun _ _ _ h=>h) (Or.inl ⟨zr,?_⟩) za ?_
   rotate_left
   ·intro w hSw;(try dsimp only at hSw);go_simp;try with_reducible rfl
   go_frame
   refine wpAnyH_take (i:=11) (oi:=⟨some 96,_,_,_,_,_⟩) (v:=?_) rfl zk zk zk (fun _ _ _ h=>h) (Or.inl ⟨zr,?_⟩) za ?_
   rotate_left
   ·intro w hSw;(try dsimp only at hSw);go_simp;try with_reducible rfl
   go_frame
   refine wpAnyH_ready (rs:=[12,16]) zk zs ?_
   refine AllReadyH.cons (o:=⟨some 97,_,_,_,_,_⟩) rfl (fun K hK=>?_) (AllReadyH.cons (o:=⟨some 17,_,_,_,_,_⟩) rfl (fun K hK=>?_) AllReadyH.nil)
   ·
    go_simp
    with_reducible refine (R1.out _ (H.days (ao:=a3) (X:=x.GV) (n:=n3) (cap:=c3))).mono ?_
    rintro e UA1 ⟨rfl,hb⟩
    replace H:=H.below hb
    replace HB:=HB.trans (hb.mono (HS.out _ HB))
    replace HBx:=zh (HBx.out.trans (hb.mono (HZx.out _ HBx.out)))
    (try replace PR:=PR.onto hb)
    clear hb
    go_wp2_with fail
    refine hK.out _ _ (⟨H.c,H.c,H.c,H.c,H.c,H.c,H.c⟩) (fun hNew=>?_)
    clear hK K hHeld
    have hHeld:=hNew
    clear hNew
    try go_frame
    refine wpAnyH_take (i:=13) (oi:=⟨some 84,_,_,_,_,_⟩) (v:=?_) rfl zk zk zk (fun _ _ _ h=>h) (Or.inl ⟨zr,?_⟩) za ?_
    rotate_left
    ·intro w hSw;(try dsimp only at hSw);go_simp;try with_reducible rfl
    go_frame
    refine wpAnyH_take (i:=14) (oi:=⟨some 98,_,_,_,_,_⟩) (v:=?_) rfl zk zk zk (fun _ _ _ h=>h) (Or.inl ⟨zr,?_⟩) za ?_
    rotate_left
    ·intro w hSw;(try dsimp only at hSw);go_simp;try with_reducible rfl
    go_frame
    refine wpAnyH_take (i:=15) (oi:=⟨some 99,_,_,_,_,_⟩) (v:=?_) rfl zk zk zk (fun _ _ _ h=>h) (Or.inl ⟨zr,?_⟩) za ?_
    rotate_left
    ·intro w hSw;(try dsimp only at hSw);go_simp;try with_reducible rfl
    go_frame
    refine wpAnyH_ready (rs:=[16]) zk zs ?_
    refine AllReadyH.cons (o:=⟨some 17,_,_,_,_,_⟩) rfl (fun K hK=>?_) AllReadyH.nil
    have HC:=zh H
    have HPR:=zh PR
    clear PR
    have HT:=((Held.sub H (fun f hf=>absurd hf (List.not_mem_nil)):Held w [] UA1).pair UA1 (0:Int) (0:Int) 48 rfl)
    have HCB:Below UA1 UA1 (UA1.alloc (.cells #[(0:Int),(0:Int)] 48)):=(Below.refl _ _).alloc (Nat.le_refl _) _
    have hTW:P≤UA1.heap.size:=HZx.out _ HBx.out
    replace HBx:=zh (HBx.out.alloc hTW (.cells #[(0:Int),(0:Int)] 48))
    replace H:=H.alloc (.cells #[(0:Int),(0:Int)] 48)
    replace HB:=HB.alloc (HS.out _ HB) (.cells #[(0:Int),(0:Int)] 48)
    go_simp
    refine hK.out _ _ (⟨H.c,H.c,H.c,H.c,H.c,H.c,H.c⟩) (fun hNew=>?_)
    clear hK K hHeld
    have hHeld:=hNew
    clear hNew
    try go_frame
    obtain⟨TA2,hTA2⟩:∃T,UA1.heap.size=T:=⟨_,rfl⟩
    obtain⟨UA2,hUA2⟩:∃U,UA1.alloc (.cells #[(0:Int),(0:Int)] 48)=U:=⟨_,rfl⟩
    rw[hUA2] at H HB hHeld HT HCB HBx ⊢
    rw[hTA2] at HT HCB hTW ⊢
    have hTE:=hTA2
    clear hTA2 hUA2
    refine wpAnyH_ready (rs:=[17]) zk zs ?_
    refine AllReadyH.cons (o:=⟨none,_,_,_,_,_⟩) rfl (fun K hK=>?_) AllReadyH.nil
    obtain⟨kt0,kt1⟩:=HT.cells2 TA2
    obtain⟨ft0,ft1⟩:=HT.frozens2 TA2
    have lt:=zA0 kt0
    go_simp
    have HCB2:=(HCB.setCell (p:=⟨TA2,0,none⟩) (Nat.le_refl _) pi).setCell (p:=⟨TA2,1,none⟩) (Nat.le_refl _) qi
    replace H:=HC.out.below (HCB2.mono (Nat.le_of_eq hTE))
    have PR:=HPR.out.onto (HCB2.mono (Nat.le_of_eq hTE))
    have t0:((World.setCell UA2 ⟨TA2,0,none⟩ pi).setCell ⟨TA2,1,none⟩ qi).cell? ⟨TA2,0,none⟩=some (.int .i64 pi):=zA3 (World.cell?_setCell_same' _ _ _ (by rw[kt0];rfl)) (Or.inr zd) _
    have t1:((World.setCell UA2 ⟨TA2,0,none⟩ pi).setCell ⟨TA2,1,none⟩ qi).cell? ⟨TA2,1,none⟩=some (.int .i64 qi):=World.cell?_setCell_same' _ _ _ (by rw[zA3 kt1 (Or.inr zd)];rfl)
    replace HBx:=zh ((HBx.out.setCell (p:=⟨TA2,0,none⟩) hTW pi).setCell (p:=⟨TA2,1,none⟩) hTW qi)
    refine hK.out _ _ (⟨H.c,H.c,H.c,H.c,H.c,H.c,H.c⟩) (fun hNew=>?_)
    clear hK K hHeld
    have hHeld:=hNew
    clear hNew
    try go_frame
    refine wpAnyH_take (i:=18) (oi:=⟨some 18,_,_,_,_,_⟩) (v:=?_) rfl zk zk zk (fun _ _ _ h=>h) (Or.inl ⟨zr,?_⟩) za ?_
    rotate_left
    ·intro w hSw;(try dsimp only at hSw);go_simp;try with_reducible rfl
    go_frame
    refine wpAnyH_done zk ?_ _
    clear hHeld
    clear HT HCB kt0 kt1 ft0 ft1 lt HC HPR HB HWD HS HU
    obtain⟨V2,hV2⟩:∃V2,(World.setCell UA2 ⟨TA2,0,none⟩ pi).setCell ⟨TA2,1,none⟩ qi=V2:=⟨_,rfl⟩
    rw[hV2] at H HBx PR t0 t1 ⊢
    clear hV2
    obtain⟨T,hT⟩:∃T,TA2=T:=⟨_,rfl⟩
    rw[hT] at t0 t1 ⊢
    clear hT
    have hTl:=zA0 t0
    by_cases hz9:z=0
    ·subst hz9
     have e3:=PR.c2
     have fS:=PR.fz
     have lS:=zA0 e3
     have HZ:=zh (show ∀j,j<k+1→x.PC j=0 from fun j hj=>by
      by_cases e:j=k
      ·rw[e];exact hzk
      ·exact hz j zo)
     have HPQ:=zh (show rl x.P x.Q k++[.int .i64 pi,.int .i64 qi]=rl x.P x.Q k++[.int .i64 (x.P k),.int .i64 (x.Q k)] by rw[hpi,hqi])
     clear hz hzk hpi hqi
     go_wp2_with (first
      | (at_builtin;refine wpList_append_own _ rfl _ _ 31 rfl (P+1) 48 ir (.agg #[(0:Int),(0:Int)]) 2 16 Tryz.underlying31 hri hrz0 hrz1 hrz2 rfl zd _ _ _ rfl (PR.own.alloc _) ⟨V2,0,none⟩ 1 1 [pi,qi] rfl rfl ?c1 ?c2 ?c3 ?c4 ?c5 ?_)
      | go_in)
     case c1=>exact zHy zn zn
     case c2=>intro u hu;simp at hu;rcases hu with rfl | rfl <;> rfl
     case c3=>unfold maxLen;omega
     case c4=>omega
     case c5=>simp;omega
     ·intro v' w9 hown' hgrow _
      rw[HPQ.out] at hown'
      obtain⟨g9,cap9,rfl⟩:∃g' cap',v'=.slice (some ⟨g',0,none⟩) (k+1) cap':=by
       rcases hown'.2 with⟨_,h⟩ | ⟨g',cap',cur,h,_⟩
       ·omega
       ·exact⟨g',cap',h⟩
      obtain⟨P9,k9,f9⟩:=PR.put hgrow hown'
      have BL:=zh (PR.below HBx.out hgrow (.slice (some ⟨g9,0,none⟩) (k+1) cap9))
      have P9:=zh P9
      have l9:=zA0 k9
      clear hgrow hown' e3 fS lS PR
      go_wp2
      go_roundw
      case rel=>exact⟨k+1,_,zo,by go_num,HZ.out,P9.out,BL.out⟩
      case measure=>simp[intOf];omega
    ·have e0:(z != 0)=true:=by simpa using hz9
     have EF:=zh (show x.code t=z from (CP.out hcz hgz).trans ((zEm hz (by rw[hzk];exact hz9) hlt).trans hzk))
     have HZ9:=zh hz9
     clear hz hzk hpi hqi hz9 PR
     obtain⟨cr0,cr1,cr2,cr3,cr4,cr5,cr6⟩:=H.cells7 (w+2)
     obtain⟨fr0,fr1,fr2,fr3,fr4,fr5,fr6⟩:=H.frozens7 (w+2)
     have lr:=zA0 cr0
     go_wp2
     simp only[zA2 cr0,zA2 cr1,zA2 cr2,zA2 cr3,zA2 cr4,zA2 cr5,zA2 cr6]
     refine bodyPost_ret (v:=.tuple #[.agg #[.slice none 0 0,.slice none 0 0,.slice none 0 0,false,(0:Int),(0:Int),.slice none 0 0],.int .i64 z]) (by simp[results,Tryz.results12,go_sem,cr0,cr1,cr2,cr3,cr4,cr5,cr6,lr]) rfl ⟨PlanOut.no EF.out HZ9.out,H.old⟩
   ·
    have HC:=zh H
    have HPR:=zh PR
    clear PR
    have HT:=((Held.sub H (fun f hf=>absurd hf (List.not_mem_nil)):Held w [] WD).pair WD (0:Int) (0:Int) 48 rfl)
    have HCB:Below WD WD (WD.alloc (.cells #[(0:Int),(0:Int)] 48)):=(Below.refl _ _).alloc (Nat.le_refl _) _
    have hTW:P≤WD.heap.size:=HZx.out _ HBx.out
    replace HBx:=zh (HBx.out.alloc hTW (.cells #[(0:Int),(0:Int)] 48))
    replace H:=H.alloc (.cells #[(0:Int),(0:Int)] 48)
    replace HB:=HB.alloc (HS.out _ HB) (.cells #[(0:Int),(0:Int)] 48)
    go_simp
    refine hK.out _ _ (⟨H.c,H.c,H.c,H.c,H.c,H.c,H.c⟩) (fun hNew=>?_)
    clear hK K hHeld
    have hHeld:=hNew
    clear hNew
    try go_frame
    obtain⟨TA1,hTA1⟩:∃T,WD.heap.size=T:=⟨_,rfl⟩
    obtain⟨UA1,hUA1⟩:∃U,WD.alloc (.cells #[(0:Int),(0:Int)] 48)=U:=⟨_,rfl⟩
    rw[hUA1] at H HB hHeld HT HCB HBx ⊢
    rw[hTA1] at HT HCB hTW ⊢
    have hTE:=hTA1
    clear hTA1 hUA1
    refine wpAnyH_ready (rs:=[12]) zk zs ?_
    refine AllReadyH.cons (o:=⟨some 97,_,_,_,_,_⟩) rfl (fun K hK=>?_) AllReadyH.nil
    go_simp
    with_reducible refine (R1.out _ (H.days (ao:=a3) (X:=x.GV) (n:=n3) (cap:=c3))).mono ?_
    rintro e UA2 ⟨rfl,hb⟩
    replace H:=H.below hb
    replace HB:=HB.trans (hb.mono (HS.out _ HB))
    replace HBx:=zh (HBx.out.trans (hb.mono (HZx.out _ HBx.out)))
    (try replace PR:=PR.onto hb)
    replace HT:=HT.below hb
    replace HCB:=HCB.trans (hb.mono (by have:=HCB.size;omega))
    clear hb
    go_wp2_with fail
    refine hK.out _ _ (⟨H.c,H.c,H.c,H.c,H.c,H.c,H.c⟩) (fun hNew=>?_)
    clear hK K hHeld
    have hHeld:=hNew
    clear hNew
    try go_frame
    refine wpAnyH_take (i:=13) (oi:=⟨some 84,_,_,_,_,_⟩) (v:=?_) rfl zk zk zk (fun _ _ _ h=>h) (Or.inl ⟨zr,?_⟩) za ?_
    rotate_left
    ·intro w hSw;(try dsimp only at hSw);go_simp;try with_reducible rfl
    go_frame
    refine wpAnyH_take (i:=14) (oi:=⟨some 98,_,_,_,_,_⟩) (v:=?_) rfl zk zk zk (fun _ _ _ h=>h) (Or.inl ⟨zr,?_⟩) za ?_
    rotate_left
    ·intro w hSw;(try dsimp only at hSw);go_simp;try with_reducible rfl
    go_frame
    refine wpAnyH_take (i:=15) (oi:=⟨some 99,_,_,_,_,_⟩) (v:=?_) rfl zk zk zk (fun _ _ _ h=>h) (Or.inl ⟨zr,?_⟩) za ?_
    rotate_left
    ·intro w hSw;(try dsimp only at hSw);go_simp;try with_reducible rfl
    go_frame
    refine wpAnyH_ready (rs:=[17]) zk zs ?_
    refine AllReadyH.cons (o:=⟨none,_,_,_,_,_⟩) rfl (fun K hK=>?_) AllReadyH.nil
    obtain⟨kt0,kt1⟩:=HT.cells2 TA1
    obtain⟨ft0,ft1⟩:=HT.frozens2 TA1
    have lt:=zA0 kt0
    go_simp
    have HCB2:=(HCB.setCell (p:=⟨TA1,0,none⟩) (Nat.le_refl _) pi).setCell (p:=⟨TA1,1,none⟩) (Nat.le_refl _) qi
    replace H:=HC.out.below (HCB2.mono (Nat.le_of_eq hTE))
    have PR:=HPR.out.onto (HCB2.mono (Nat.le_of_eq hTE))
    have t0:((World.setCell UA2 ⟨TA1,0,none⟩ pi).setCell ⟨TA1,1,none⟩ qi).cell? ⟨TA1,0,none⟩=some (.int .i64 pi):=zA3 (World.cell?_setCell_same' _ _ _ (by rw[kt0];rfl)) (Or.inr zd) _
    have t1:((World.setCell UA2 ⟨TA1,0,none⟩ pi).setCell ⟨TA1,1,none⟩ qi).cell? ⟨TA1,1,none⟩=some (.int .i64 qi):=World.cell?_setCell_same' _ _ _ (by rw[zA3 kt1 (Or.inr zd)];rfl)
    replace HBx:=zh ((HBx.out.setCell (p:=⟨TA1,0,none⟩) hTW pi).setCell (p:=⟨TA1,1,none⟩) hTW qi)
    refine hK.out _ _ (⟨H.c,H.c,H.c,H.c,H.c,H.c,H.c⟩) (fun hNew=>?_)
    clear hK K hHeld
    have hHeld:=hNew
    clear hNew
    try go_frame
    refine wpAnyH_take (i:=18) (oi:=⟨some 18,_,_,_,_,_⟩) (v:=?_) rfl zk zk zk (fun _ _ _ h=>h) (Or.inl ⟨zr,?_⟩) za ?_
    rotate_left
    ·intro w hSw;(try dsimp only at hSw);go_simp;try with_reducible rfl
    go_frame
    refine wpAnyH_done zk ?_ _
    clear hHeld
    clear HT HCB kt0 kt1 ft0 ft1 lt HC HPR HB HWD HS HU
    obtain⟨V2,hV2⟩:∃V2,(World.setCell UA2 ⟨TA1,0,none⟩ pi).setCell ⟨TA1,1,none⟩ qi=V2:=⟨_,rfl⟩
    rw[hV2] at H HBx PR t0 t1 ⊢
    clear hV2
    obtain⟨T,hT⟩:∃T,TA1=T:=⟨_,rfl⟩
    rw[hT] at t0 t1 ⊢
    clear hT
    have hTl:=zA0 t0
    by_cases hz9:z=0
    ·subst hz9
     have e3:=PR.c2
     have fS:=PR.fz
     have lS:=zA0 e3
     have HZ:=zh (show ∀j,j<k+1→x.PC j=0 from fun j hj=>by
      by_cases e:j=k
      ·rw[e];exact hzk
      ·exact hz j zo)
     have HPQ:=zh (show rl x.P x.Q k++[.int .i64 pi,.int .i64 qi]=rl x.P x.Q k++[.int .i64 (x.P k),.int .i64 (x.Q k)] by rw[hpi,hqi])
     clear hz hzk hpi hqi
     go_wp2_with (first
      | (at_builtin;refine wpList_append_own _ rfl _ _ 31 rfl (P+1) 48 ir (.agg #[(0:Int),(0:Int)]) 2 16 Tryz.underlying31 hri hrz0 hrz1 hrz2 rfl zd _ _ _ rfl (PR.own.alloc _) ⟨V2,0,none⟩ 1 1 [pi,qi] rfl rfl ?c1 ?c2 ?c3 ?c4 ?c5 ?_)
      | go_in)
     case c1=>exact zHy zn zn
     case c2=>intro u hu;simp at hu;rcases hu with rfl | rfl <;> rfl
     case c3=>unfold maxLen;omega
     case c4=>omega
     case c5=>simp;omega
     ·intro v' w9 hown' hgrow _
      rw[HPQ.out] at hown'
      obtain⟨g9,cap9,rfl⟩:∃g' cap',v'=.slice (some ⟨g',0,none⟩) (k+1) cap':=by
       rcases hown'.2 with⟨_,h⟩ | ⟨g',cap',cur,h,_⟩
       ·omega
       ·exact⟨g',cap',h⟩
      obtain⟨P9,k9,f9⟩:=PR.put hgrow hown'
      have BL:=zh (PR.below HBx.out hgrow (.slice (some ⟨g9,0,none⟩) (k+1) cap9))
      have P9:=zh P9
      have l9:=zA0 k9
      clear hgrow hown' e3 fS lS PR
      go_wp2
      go_roundw
      case rel=>exact⟨k+1,_,zo,by go_num,HZ.out,P9.out,BL.out⟩
      case measure=>simp[intOf];omega
    ·have e0:(z != 0)=true:=by simpa using hz9
     have EF:=zh (show x.code t=z from (CP.out hcz hgz).trans ((zEm hz (by rw[hzk];exact hz9) hlt).trans hzk))
     have HZ9:=zh hz9
     clear hz hzk hpi hqi hz9 PR
     obtain⟨cr0,cr1,cr2,cr3,cr4,cr5,cr6⟩:=H.cells7 (w+2)
     obtain⟨fr0,fr1,fr2,fr3,fr4,fr5,fr6⟩:=H.frozens7 (w+2)
     have lr:=zA0 cr0
     go_wp2
     simp only[zA2 cr0,zA2 cr1,zA2 cr2,zA2 cr3,zA2 cr4,zA2 cr5,zA2 cr6]
     refine bodyPost_ret (v:=.tuple #[.agg #[.slice none 0 0,.slice none 0 0,.slice none 0 0,false,(0:Int),(0:Int),.slice none 0 0],.int .i64 z]) (by simp[results,Tryz.results12,go_sem,cr0,cr1,cr2,cr3,cr4,cr5,cr6,lr]) rfl ⟨PlanOut.no EF.out HZ9.out,H.old⟩
  ·obtain rfl:k=x.q+1:=zo
   have EC:=zh ((CP.out hcz hgz).trans (zB8.2 hz))
   clear hz
   obtain⟨a2,c2,ev,HR⟩:=own_rats PR.own
   subst ev
   have hbP:=HSS.out
   have hbo:=HH.out.old.size
   have hbl:∀g,a2=some g→P+1≤g.block:=fun g hg=>by subst hg;exact (PR.own.lt g.block rfl).1
   have hne:∀g,a2=some g→g.block≠w.heap.size+2:=fun g hg=>by have:=hbl g hg;have:=H.lt (w+2) 0 (.slice none 0 0);have:=hBR;omega
   have hbl2:∀g,a2=some g→w.heap.size≤g.block:=fun g hg=>by have:=hbl g hg;omega
   obtain⟨p0,p1,p2,p3,p4,p5,p6,-,-⟩:=PR
   have lp:=zA0 p0
   obtain⟨k0,k1,k2,k3,k4,k5,k6⟩:=H.cells7 (w+2)
   obtain⟨f0,f1,f2,f3,f4,f5,f6⟩:=H.frozens7 (w+2)
   have lk:=zA0 k0
   obtain⟨q0,q1,q3⟩:=HPOS.out EC.out
   have hd0:=(H.days (ao:=a0) (X:=(t.dd x.X x.q)) (n:=(x.q+1+1)) (cap:=c0))
   have hd1:=(H.days (ao:=(some ⟨g1,o1,none⟩)) (X:=x.V) (n:=(x.q+1+1)) (cap:=c1))
   have hd3:=(H.days (ao:=a3) (X:=x.GV) (n:=n3) (cap:=c3))
   replace hd0:=zA8 hd0 k0 (fun j hj e=>by cases e) (.slice a0 (x.q+1+1) c0)
   replace hd0:=zA8 hd0 (zA3 k1 (Or.inr zd) _) (fun j hj e=>by cases e) (.slice (some ⟨g1,o1,none⟩) (x.q+1+1) c1)
   replace hd0:=zA8 hd0 (zA3 (zA3 k2 (Or.inr zd) _) (Or.inr zd) _) (fun j hj e=>by cases e) (.slice a2 (x.q+1) c2)
   replace hd0:=zA8 hd0 (zA3 (zA3 (zA3 k3 (Or.inr zd) _) (Or.inr zd) _) (Or.inr zd) _) (fun j hj e=>by cases e) t.eo
   replace hd0:=zA8 hd0 (zA3 (zA3 (zA3 (zA3 k4 (Or.inr zd) _) (Or.inr zd) _) (Or.inr zd) _) (Or.inr zd) _) (fun j hj e=>by injection e with _ e;have:=q0 j hj;omega) vn
   replace hd0:=zA8 hd0 (zA3 (zA3 (zA3 (zA3 (zA3 k5 (Or.inr zd) _) (Or.inr zd) _) (Or.inr zd) _) (Or.inr zd) _) (Or.inr zd) _) (fun j hj e=>by injection e with _ e;have:=q0 j hj;omega) (fr t.ms)
   replace hd0:=zA8 hd0 (zA3 (zA3 (zA3 (zA3 (zA3 (zA3 k6 (Or.inr zd) _) (Or.inr zd) _) (Or.inr zd) _) (Or.inr zd) _) (Or.inr zd) _) (Or.inr zd) _) (fun j hj e=>by cases e) (.slice a3 n3 c3)
   replace hd1:=zA8 hd1 k0 (fun j hj e=>by cases e) (.slice a0 (x.q+1+1) c0)
   replace hd1:=zA8 hd1 (zA3 k1 (Or.inr zd) _) (fun j hj e=>by cases e) (.slice (some ⟨g1,o1,none⟩) (x.q+1+1) c1)
   replace hd1:=zA8 hd1 (zA3 (zA3 k2 (Or.inr zd) _) (Or.inr zd) _) (fun j hj e=>by cases e) (.slice a2 (x.q+1) c2)
   replace hd1:=zA8 hd1 (zA3 (zA3 (zA3 k3 (Or.inr zd) _) (Or.inr zd) _) (Or.inr zd) _) (fun j hj e=>by cases e) t.eo
   replace hd1:=zA8 hd1 (zA3 (zA3 (zA3 (zA3 k4 (Or.inr zd) _) (Or.inr zd) _) (Or.inr zd) _) (Or.inr zd) _) (fun j hj e=>by injection e with _ e;have:=q1 j hj;omega) vn
   replace hd1:=zA8 hd1 (zA3 (zA3 (zA3 (zA3 (zA3 k5 (Or.inr zd) _) (Or.inr zd) _) (Or.inr zd) _) (Or.inr zd) _) (Or.inr zd) _) (fun j hj e=>by injection e with _ e;have:=q1 j hj;omega) (fr t.ms)
   replace hd1:=zA8 hd1 (zA3 (zA3 (zA3 (zA3 (zA3 (zA3 k6 (Or.inr zd) _) (Or.inr zd) _) (Or.inr zd) _) (Or.inr zd) _) (Or.inr zd) _) (Or.inr zd) _) (fun j hj e=>by cases e) (.slice a3 n3 c3)
   replace hd3:=zA8 hd3 k0 (fun j hj e=>by cases e) (.slice a0 (x.q+1+1) c0)
   replace hd3:=zA8 hd3 (zA3 k1 (Or.inr zd) _) (fun j hj e=>by cases e) (.slice (some ⟨g1,o1,none⟩) (x.q+1+1) c1)
   replace hd3:=zA8 hd3 (zA3 (zA3 k2 (Or.inr zd) _) (Or.inr zd) _) (fun j hj e=>by cases e) (.slice a2 (x.q+1) c2)
   replace hd3:=zA8 hd3 (zA3 (zA3 (zA3 k3 (Or.inr zd) _) (Or.inr zd) _) (Or.inr zd) _) (fun j hj e=>by cases e) t.eo
   replace hd3:=zA8 hd3 (zA3 (zA3 (zA3 (zA3 k4 (Or.inr zd) _) (Or.inr zd) _) (Or.inr zd) _) (Or.inr zd) _) (fun j hj e=>by injection e with _ e;have:=q3 j hj;omega) vn
   replace hd3:=zA8 hd3 (zA3 (zA3 (zA3 (zA3 (zA3 k5 (Or.inr zd) _) (Or.inr zd) _) (Or.inr zd) _) (Or.inr zd) _) (Or.inr zd) _) (fun j hj e=>by injection e with _ e;have:=q3 j hj;omega) (fr t.ms)
   replace hd3:=zA8 hd3 (zA3 (zA3 (zA3 (zA3 (zA3 (zA3 k6 (Or.inr zd) _) (Or.inr zd) _) (Or.inr zd) _) (Or.inr zd) _) (Or.inr zd) _) (Or.inr zd) _) (fun j hj e=>by cases e) (.slice a3 n3 c3)
   replace HR:=HR.set (B:=w.heap.size+2) (o:=0) hne (.slice a0 (x.q+1+1) c0)
   replace HR:=HR.set (B:=w.heap.size+2) (o:=1) hne (.slice (some ⟨g1,o1,none⟩) (x.q+1+1) c1)
   replace HR:=HR.set (B:=w.heap.size+2) (o:=2) hne (.slice a2 (x.q+1) c2)
   replace HR:=HR.set (B:=w.heap.size+2) (o:=3) hne t.eo
   replace HR:=HR.set (B:=w.heap.size+2) (o:=4) hne vn
   replace HR:=HR.set (B:=w.heap.size+2) (o:=5) hne (fr t.ms)
   replace HR:=HR.set (B:=w.heap.size+2) (o:=6) hne (.slice a3 n3 c3)
   have hO:Below w w (World.setCell (World.setCell (World.setCell (World.setCell (World.setCell (World.setCell (World.setCell wr ⟨w+2,0,none⟩ (.slice a0 (x.q+1+1) c0)) ⟨w+2,1,none⟩ (.slice (some ⟨g1,o1,none⟩) (x.q+1+1) c1)) ⟨w+2,2,none⟩ (.slice a2 (x.q+1) c2)) ⟨w+2,3,none⟩ t.eo) ⟨w+2,4,none⟩ vn) ⟨w+2,5,none⟩ (fr t.ms)) ⟨w+2,6,none⟩ (.slice a3 n3 c3)):=(((((((H.old.setCell (p:=⟨w+2,0,none⟩) zs (.slice a0 (x.q+1+1) c0)).setCell (p:=⟨w+2,1,none⟩) zs (.slice (some ⟨g1,o1,none⟩) (x.q+1+1) c1)).setCell (p:=⟨w+2,2,none⟩) zs (.slice a2 (x.q+1) c2)).setCell (p:=⟨w+2,3,none⟩) zs t.eo).setCell (p:=⟨w+2,4,none⟩) zs vn).setCell (p:=⟨w+2,5,none⟩) zs (fr t.ms)).setCell (p:=⟨w+2,6,none⟩) zs (.slice a3 n3 c3))
   have Y:=PlanOut.yes (n0:=w.heap.size) EC.out hd0 hd1 HR (show DaysAt _ a3 x.GV (x.ns t) c3 by rw[N0.out];exact hd3) hbl2
   rw[N0.out,hvn] at Y
   have HY:=zh Y
   have HO:=zh hO
   clear H hd0 hd1 hd3 HR hO Y q0 q1 q3 hne hbl hbl2
   go_wp2
   refine bodyPost_ret (v:=.tuple #[.agg #[.slice a0 (x.q+1+1) c0,.slice (some ⟨g1,o1,none⟩) (x.q+1+1) c1,.slice a2 (x.q+1) c2,t.eo,vn,(fr t.ms),.slice a3 n3 c3],(0:Int)]) (by simp[results,Tryz.results12,go_sem,k0,k1,k2,k3,k4,k5,k6,lk]) rfl ⟨HY.out,HO.out⟩):P:=h
theorem rof17_yes (t:Tm) (c:Ca) (aR:Option Addr) (cR:Nat) (aD:Option Addr) (cD:Nat) (x:Pl) (w:World) (hC:CalAt w c aR cR aD cD) (hc:t.code=0) (hF:c.Few) (hM:c.May) (hx:PlanIs t c x) (hS:x.Short):Calls Tryz.prog 12 #[.agg #[t.mo,t.ra,t.ki,t.co,t.st,t.en,t.ms,t.bk,t.lg,t.eo,t.ro],.agg #[(c.o 0),(c.o 1),(c.o 2),(c.o 3),(c.o 4),(c.o 5),(c.o 6),.slice aR c.nr cR,.slice aD c.nd cD]] w fun e w'=>PlanOut x t w.heap.size e w'∧Below w w w':=by
 have H:=(Held.start w).add (f:=calF c aR cR aD cD) hC
 have hms : -100≤t.ms∧t.ms≤100:=by have:=zRu (t.of_zero hc).1.2.2.2;omega
 have hq9:x.q≤90:=hS.q
 have hK9:x.K≤91:=hS.k
 have hn9:x.ns t≤100:=by unfold Pl.ns;split <;> omega
 have RO:=zh (fun v ao cap (h:CalAt v c aR cR aD cD) (hd:DaysAt v ao (t.dd x.X x.q) (x.q+1+1) cap)=>rolled17_any c aR cR aD cD t.ro ao (x.q+1+1) cap (t.dd x.X x.q) x.V x.C v hF.small hM.2.2.2.1 h hd zo (fun i hi=>hx.roll i hi))
 have RG:=zh (fun v ao cap (h:CalAt v c aR cR aD cD) (hd:DaysAt v ao (x.G t) x.K cap)=>rolled17_any c aR cR aD cD t.ro ao x.K cap (x.G t) x.GV x.GC v hF.small hM.2.2.2.1 h hd zo (fun i hi=>hx.grid i hi))
 have D1:=zh (fun v=>rof_dd t x.X x.E x.m x.q v hc hms (hx.walk hc) (hx.q hc))
 have G1:Hid (∀v,Calls Tryz.prog 30 #[.agg #[t.mo,t.ra,t.ki,t.co,t.st,t.en,t.ms,t.bk,t.lg,t.eo,t.ro]] v fun e w'=>∃ao cap,e=.returned (.tuple #[.slice ao x.K cap,(0:Int)])∧DaysAt w' ao (x.G t) x.K cap∧Below v v w'):=zh (fun v=>rgrid_dd t x.X x.E x.m v hc hms (hx.walk hc))
 have FQ:=zh (fun v=>zSu t.ms (fr t.ms) v rfl)
 have PC:=zh (fun i v a3 q3 (hi:i<x.q+1) (hd:DaysAt v a3 x.GV (x.ns t) q3)=>rpart10_any t.co (x.V i) (x.V (i+1)) t.eo (x.V (x.q+1)) (fr t.ms) a3 (x.ns t) q3 x.GV (x.P i) (x.Q i) (x.PC i) v hn9 hd.row (hx.part i hi))
 have HPOS:Hid (x.code t=0→(∀j,j<(x.q+1+1)→1≤(t.dd x.X x.q) j)∧(∀j,j<(x.q+1+1)→1≤x.V j)∧∀j,j<x.ns t→1≤x.GV j):=zh (fun h=>by
  obtain⟨p0,p1,p3⟩:=hx.pos
  rw[show x.n t=(x.q+1+1) from if_pos h] at p0 p1
  rw[show x.ng t=x.ns t from if_pos h] at p3
  exact⟨p0,p1,p3⟩)
 have CC:=zh (fun h=>Pl.code_c (x:=x) hc h)
 have CG:=zh (fun h g=>Pl.code_g (x:=x) hc h g)
 have CP:=zh (fun h g=>Pl.code_p (x:=x) hc h g)
 obtain⟨ir,hri,hrz0,hrz1,hrz2⟩:=info_parts zRa
 clear hc hms hS hF hM hx hn9
 clear hC
 go_enter Tryz.func12,Tryz.ntmps12
 go_wp2_with fail
 replace H:=H.box_11 w t.mo t.ra t.ki t.co t.st t.en t.ms t.bk t.lg t.eo t.ro 23 rfl
 replace H:=H.box_9 (w+1) (c.o 0) (c.o 1) (c.o 2) (c.o 3) (c.o 4) (c.o 5) (c.o 6) (.slice aR c.nr cR) (.slice aD c.nd cD) 28 zs
 replace H:=H.box_7 (w+2) (.slice none 0 0) (.slice none 0 0) (.slice none 0 0) false (0:Int) (0:Int) (.slice none 0 0) 35 zs
 with_reducible refine (D1.out _).mono ?_
 rintro e w1 ⟨a0,c0,rfl,hd0,hb⟩
 replace H:=(H.below hb).add (f:=zAb a0 (t.dd x.X x.q) (x.q+1+1) c0) hd0
 clear hb hd0
 obtain⟨ct0,ct1,ct2,ct3,ct4,ct5,ct6,ct7,ct8,ct9,ct10⟩:=H.cells11 w
 have lt:=zA0 ct0
 obtain⟨cc0,cc1,cc2,cc3,cc4,cc5,cc6,cc7,cc8⟩:=H.cells9 (w+1)
 have lc:=zA0 cc0
 go_wp2_with fail
 clear ct0 ct1 ct2 ct3 ct4 ct5 ct6 ct7 ct8 ct9 ct10 lt cc0 cc1 cc2 cc3 cc4 cc5 cc6 cc7 cc8 lc
 with_reducible refine (RO.out _ a0 c0 (H.cal (c:=c) (aR:=aR) (cR:=cR) (aD:=aD) (cD:=cD)) (H.days (ao:=a0) (X:=(t.dd x.X x.q)) (n:=(x.q+1+1)) (cap:=c0))).mono ?_
 rintro e w2 ⟨a1,n1,c1,rfl,⟨hn0,hn1⟩,hd1,hb⟩
 replace H:=H.below hb
 clear hb
 obtain⟨y,hy⟩:∃y,fst1 x.C (x.q+1+1)=y:=⟨_,rfl⟩
 rw[hy] at hn0 hn1 ⊢
 by_cases h0:y=0
 rotate_left
 ·obtain rfl:=hn1 h0
  have e0:(y != 0)=true:=by simpa using h0
  have EF:=zh (show x.code t=y from (CC.out (by rw[hy];exact h0)).trans hy)
  have HZ9:=zh h0
  clear hn0 hn1 hy h0 hd1
  obtain⟨cr0,cr1,cr2,cr3,cr4,cr5,cr6⟩:=H.cells7 (w+2)
  obtain⟨fr0,fr1,fr2,fr3,fr4,fr5,fr6⟩:=H.frozens7 (w+2)
  have lr:=zA0 cr0
  go_wp2
  simp only[zA2 cr0,zA2 cr1,zA2 cr2,zA2 cr3,zA2 cr4,zA2 cr5,zA2 cr6]
  refine bodyPost_ret (v:=.tuple #[.agg #[.slice none 0 0,.slice none 0 0,.slice none 0 0,false,(0:Int),(0:Int),.slice none 0 0],.int .i64 y]) (by simp[results,Tryz.results12,go_sem,cr0,cr1,cr2,cr3,cr4,cr5,cr6,lr]) rfl ⟨PlanOut.no EF.out HZ9.out,H.old⟩
 obtain rfl:=hn0 h0
 subst h0
 have hcz:=hy
 clear hn0 hn1 hy
 obtain⟨g1,o1,rfl,hk1⟩:=hd1.2 zo
 have hcc1:=hd1.1
 have kn:=hk1 (x.q+1) zo
 obtain⟨vn,hvn⟩:∃z,(x.V (x.q+1))=z:=⟨_,rfl⟩
 rw[hvn] at kn
 rw[hvn] at PC
 replace H:=(H.add (f:=zAb (some ⟨g1,o1,none⟩) x.V (x.q+1+1) c1) hd1).add (f:=.cell g1 (o1+(x.q+1)) vn) kn
 clear hd1 hk1 kn
 have tw1:IntKind.i64.wrap ((x.q:Int)+1)=(x.q:Int)+1:=IntWalk.i64_in _ zo
 go_upto_region 7 with fail
 obtain⟨i0,hi,hz0,hz1,hz2⟩:=info_parts zAo
 replace H:=H.drew
 refine wp_region_held_drew (S:=fun w'=>w'.cell? ⟨w,9,none⟩=some (.bool t.eo)∧w'.cell? ⟨g1,o1+(x.q+1),none⟩=some (.int .i64 vn)∧w'.cell? ⟨w,6,none⟩=some (.int .i64 t.ms)) zk (⟨H.c,H.c,H.c⟩) (fun hHeld=>?_)
 obtain⟨WD,hWD⟩:∃WD,World.drew (w2)=WD:=⟨_,rfl⟩
 rw[hWD] at H hHeld  ⊢
 clear hWD
 obtain⟨b0,hb0⟩:∃b0,WD.heap.size=b0:=⟨_,rfl⟩
 have HB:=Below.refl b0 WD
 have HWD:=zh H
 have HS:Hid (∀W,Below b0 WD W→b0≤W.heap.size):=zh (fun W h=>by have z:=h.size;rw[hb0] at z;exact z)
 have HU:Hid (∀W,Below b0 WD W→Below WD WD W):=zh (fun W h=>by rw[hb0];exact h)
 clear hb0
 refine wpAnyH_take (i:=0) (oi:=⟨some 40,_,_,_,_,_⟩) (v:=?_) rfl zk zk zk (fun _ _ _ h=>h) (Or.inl ⟨zr,?_⟩) za ?_
 rotate_left
 ·intro w hSw;(try dsimp only at hSw);go_simp;try with_reducible rfl
 go_frame
 refine wpAnyH_take (i:=1) (oi:=⟨some 41,_,_,_,_,_⟩) (v:=?_) rfl zk zk zk (fun _ _ _ h=>h) (Or.inl ⟨zr,?_⟩) za ?_
 rotate_left
 ·intro w hSw;(try dsimp only at hSw);go_simp;try with_reducible rfl
 go_frame
 refine wpAnyH_take (i:=2) (oi:=⟨some 42,_,_,_,_,_⟩) (v:=?_) rfl zk zk zk (fun _ _ _ h=>h) (Or.inl ⟨zr,?_⟩) za ?_
 rotate_left
 ·intro w hSw;(try dsimp only at hSw);go_simp;try with_reducible rfl
 go_frame
 refine wpAnyH_take (i:=3) (oi:=⟨some 43,_,_,_,_,_⟩) (v:=?_) rfl zk zk zk (fun _ _ _ h=>h) (Or.inl ⟨zr,?_⟩) za ?_
 rotate_left
 ·intro w hSw;(try dsimp only at hSw);go_simp;try with_reducible rfl
 go_frame
 refine wpAnyH_take (i:=4) (oi:=⟨some 44,_,_,_,_,_⟩) (v:=?_) rfl zk zk zk (fun _ _ _ h=>h) (Or.inl ⟨zr,?_⟩) za ?_
 rotate_left
 ·intro w hSw;(try dsimp only at hSw);go_simp;try with_reducible rfl
 go_frame
 refine wpAnyH_take (i:=5) (oi:=⟨some 45,_,_,_,_,_⟩) (v:=?_) rfl zk zk zk (fun _ _ _ h=>h) (Or.inl ⟨zr,?_⟩) za ?_
 rotate_left
 ·intro w hSw;(try dsimp only at hSw);go_simp;try with_reducible rfl
 go_frame
 refine wpAnyH_take (i:=6) (oi:=⟨some 46,_,_,_,_,_⟩) (v:=.pointer (some ⟨g1,o1+(x.q+1),none⟩)) rfl zk zk zk (fun _ _ _ h=>h) (Or.inl ⟨zr,?_⟩) za ?_
 ·intro w hSw;(try dsimp only at hSw);go_simp;(try rw[if_pos zo]);(try with_reducible rfl);(try omega)
 go_frame
 refine wpAnyH_take (i:=7) (oi:=⟨some 47,_,_,_,_,_⟩) (v:=?_) rfl zk zk zk (fun _ _ _ h=>h) (Or.inl ⟨zr,?_⟩) za ?_
 rotate_left
 ·intro w hSw;(try dsimp only at hSw);go_simp;try with_reducible rfl
 go_frame
 refine wpAnyH_take (i:=8) (oi:=⟨some 48,_,_,_,_,_⟩) (v:=?_) rfl zk zk zk (fun _ _ _ h=>h) (Or.inl ⟨zr,?_⟩) za ?_
 rotate_left
 ·intro w hSw;(try dsimp only at hSw);go_simp;try with_reducible rfl
 go_frame
 refine wpAnyH_take (i:=9) (oi:=⟨some 49,_,_,_,_,_⟩) (v:=?_) rfl zk zk zk (fun _ _ _ h=>h) (Or.inl ⟨zr,?_⟩) za ?_
 rotate_left
 ·intro w hSw;(try dsimp only at hSw);go_simp;try with_reducible rfl
 go_frame
 refine wpAnyH_ready (rs:=[10,12]) zk zs ?_
 refine AllReadyH.cons (o:=⟨some 50,_,_,_,_,_⟩) rfl (fun K hK=>?_) (AllReadyH.cons (o:=⟨some 10,_,_,_,_,_⟩) rfl (fun K hK=>?_) AllReadyH.nil)
 ·
  go_simp
  with_reducible refine (FQ.out _).mono ?_
  rintro e UB1 ⟨rfl,hb⟩
  replace H:=H.below hb
  replace HB:=HB.trans (hb.mono (HS.out _ HB))
  clear hb
  go_wp2_with fail
  refine hK.out _ _ (⟨H.c,H.c,H.c⟩) (fun hNew=>?_)
  clear hK K hHeld
  have hHeld:=hNew
  clear hNew
  try go_frame
  refine wpAnyH_take (i:=11) (oi:=⟨some 51,_,_,_,_,_⟩) (v:=?_) rfl zk zk zk (fun _ _ _ h=>h) (Or.inl ⟨zr,?_⟩) za ?_
  rotate_left
  ·intro w hSw;(try dsimp only at hSw);go_simp;try with_reducible rfl
  go_frame
  refine wpAnyH_ready (rs:=[12]) zk zs ?_
  refine AllReadyH.cons (o:=⟨some 10,_,_,_,_,_⟩) rfl (fun K hK=>?_) AllReadyH.nil
  have HC:=zh H
  have HT:=((Held.sub H (fun f hf=>absurd hf (List.not_mem_nil)):Held w [] UB1).quad UB1 false (0:Int) (0:Int) (.slice none 0 0) 33 rfl)
  have HCB:Below UB1 UB1 (UB1.alloc (.cells #[false,(0:Int),(0:Int),.slice none 0 0] 33)):=(Below.refl _ _).alloc (Nat.le_refl _) _
  replace H:=H.alloc (.cells #[false,(0:Int),(0:Int),.slice none 0 0] 33)
  replace HB:=HB.alloc (HS.out _ HB) (.cells #[false,(0:Int),(0:Int),.slice none 0 0] 33)
  go_simp
  refine hK.out _ _ (⟨H.c,H.c,H.c⟩) (fun hNew=>?_)
  clear hK K hHeld
  have hHeld:=hNew
  clear hNew
  try go_frame
  obtain⟨TB2,hTB2⟩:∃T,UB1.heap.size=T:=⟨_,rfl⟩
  obtain⟨UB2,hUB2⟩:∃U,UB1.alloc (.cells #[false,(0:Int),(0:Int),.slice none 0 0] 33)=U:=⟨_,rfl⟩
  rw[hUB2] at H HB hHeld HT HCB ⊢
  rw[hTB2] at HT HCB ⊢
  have hTE:=hTB2
  clear hTB2 hUB2
  refine wpAnyH_ready (rs:=[13]) zk zs ?_
  refine AllReadyH.cons (o:=⟨none,_,_,_,_,_⟩) rfl (fun K hK=>?_) AllReadyH.nil
  have kt0:=HT.cell TB2 0 _
  have ft0:=HT.frozen TB2 0
  have kt1:=HT.cell TB2 1 _
  have ft1:=HT.frozen TB2 1
  have kt2:=HT.cell TB2 2 _
  have ft2:=HT.frozen TB2 2
  have kt3:=HT.cell TB2 3 _
  have ft3:=HT.frozen TB2 3
  have lt:=zA0 kt0
  go_simp
  have HCB2:=((((HCB.setCell (p:=⟨TB2,0,none⟩) (Nat.le_refl _) t.eo).setCell (p:=⟨TB2,1,none⟩) (Nat.le_refl _) vn).setCell (p:=⟨TB2,2,none⟩) (Nat.le_refl _) (fr t.ms)).setCell (p:=⟨TB2,3,none⟩) (Nat.le_refl _) (.slice none 0 0))
  have HBS:=zh HCB2
  replace H:=HC.out.below (HCB2.mono (Nat.le_of_eq hTE))
  have t0:World.cell? (World.setCell (World.setCell (World.setCell (World.setCell UB2 ⟨TB2,0,none⟩ t.eo) ⟨TB2,1,none⟩ vn) ⟨TB2,2,none⟩ (fr t.ms)) ⟨TB2,3,none⟩ (.slice none 0 0)) ⟨TB2,0,none⟩=some (.bool t.eo):=(zA3 (zA3 (zA3 (World.cell?_setCell_same' _ _ _ (by rw[kt0];rfl)) (Or.inr zd) _) (Or.inr zd) _) (Or.inr zd) _)
  have t1:World.cell? (World.setCell (World.setCell (World.setCell (World.setCell UB2 ⟨TB2,0,none⟩ t.eo) ⟨TB2,1,none⟩ vn) ⟨TB2,2,none⟩ (fr t.ms)) ⟨TB2,3,none⟩ (.slice none 0 0)) ⟨TB2,1,none⟩=some (.int .i64 vn):=(zA3 (zA3 (World.cell?_setCell_same' _ _ _ (by rw[(zA3 kt1 (Or.inr zd) _)];rfl)) (Or.inr zd) _) (Or.inr zd) _)
  have t2:World.cell? (World.setCell (World.setCell (World.setCell (World.setCell UB2 ⟨TB2,0,none⟩ t.eo) ⟨TB2,1,none⟩ vn) ⟨TB2,2,none⟩ (fr t.ms)) ⟨TB2,3,none⟩ (.slice none 0 0)) ⟨TB2,2,none⟩=some (.int .i64 (fr t.ms)):=(zA3 (World.cell?_setCell_same' _ _ _ (by rw[(zA3 (zA3 kt2 (Or.inr zd) _) (Or.inr zd) _)];rfl)) (Or.inr zd) _)
  have t3:World.cell? (World.setCell (World.setCell (World.setCell (World.setCell UB2 ⟨TB2,0,none⟩ t.eo) ⟨TB2,1,none⟩ vn) ⟨TB2,2,none⟩ (fr t.ms)) ⟨TB2,3,none⟩ (.slice none 0 0)) ⟨TB2,3,none⟩=some (.slice none 0 0):=(World.cell?_setCell_same' _ _ _ (by rw[(zA3 (zA3 (zA3 kt3 (Or.inr zd) _) (Or.inr zd) _) (Or.inr zd) _)];rfl))
  have z3:World.frozen? (World.setCell (World.setCell (World.setCell (World.setCell UB2 ⟨TB2,0,none⟩ t.eo) ⟨TB2,1,none⟩ vn) ⟨TB2,2,none⟩ (fr t.ms)) ⟨TB2,3,none⟩ (.slice none 0 0)) ⟨TB2,3,none⟩=false:=by simpa using ft3
  refine hK.out _ _ (⟨H.c,H.c,H.c⟩) (fun hNew=>?_)
  clear hK K hHeld
  have hHeld:=hNew
  clear hNew
  try go_frame
  refine wpAnyH_done zk ?_ _
  clear hHeld
  clear HT HCB kt0 ft0 kt1 ft1 kt2 ft2 kt3 ft3 lt HB HWD HS HU
  obtain⟨V1,hV⟩:∃V1,(World.setCell (World.setCell (World.setCell (World.setCell UB2 ⟨TB2,0,none⟩ t.eo) ⟨TB2,1,none⟩ vn) ⟨TB2,2,none⟩ (fr t.ms)) ⟨TB2,3,none⟩ (.slice none 0 0))=V1:=⟨_,rfl⟩
  rw[hV] at H HBS t0 t1 t2 t3 z3 ⊢
  clear hV
  obtain⟨S,hS⟩:∃S,TB2=S:=⟨_,rfl⟩
  rw[hS] at HBS hTE t0 t1 t2 t3 z3 ⊢
  clear hS
  have hBR:w.heap.size+2<S:=by have:=HC.out.lt (w+2) 0 (.slice none 0 0);omega
  have kc:=H.cell w 3 _
  have lc:=zA0 kc
  by_cases h6:t.co=6
  rotate_left
  ·have n0:x.ns t=0:=if_neg h6
   have hgz:fst1 x.GC (x.ns t)=0:=by rw[n0];rfl
   obtain⟨a3,ha3⟩:∃a:Option Addr,none=a:=⟨_,rfl⟩
   obtain⟨n3,hn3⟩:∃n:Nat,0=n:=⟨_,rfl⟩
   obtain⟨c3,hc3⟩:∃n:Nat,0=n:=⟨_,rfl⟩
   have s3:V1.cell? ⟨S,3,none⟩=some (.slice a3 n3 c3):=by subst ha3 hn3 hc3;exact t3
   have hd3:DaysAt V1 a3 x.GV n3 c3:=by subst ha3 hn3 hc3;exact zC9 _ _
   have hn:x.ns t=n3:=n0.trans hn3
   have N0:=zh hn
   rw[hn] at PC HPOS
   replace H:=((((H.add (f:=.cell S 0 t.eo) t0).add (f:=.cell S 1 vn) t1).add (f:=.cell S 2 (fr t.ms)) t2).add (f:=.cell S 3 (.slice a3 n3 c3)) s3).add (f:=zAb a3 x.GV n3 c3) hd3
   have q6:(t.co==6)=false:=by simpa using h6
   have ls:=zA0 t0
   clear hd3 h6 n0 hn ha3 hn3 hc3 hTE HBS HC
   go_upto_region 14 with fail
   have s0:=t0
   have s1:=t1
   have s2:=t2
   clear kc lc q6 t0 t1 t2 t3 z3
   obtain⟨V,rfl⟩:∃V,V=V1:=⟨_,rfl⟩
   exact rest17
  have q6:(t.co==6)=true:=by simpa using h6
  have nK:x.ns t=x.K:=if_pos h6
  have N0:=zh nK
  rw[nK] at PC HPOS CG CP
  clear h6 nK
  have ls:=zA0 t0
  go_upto_region 9 with fail
  clear kc lc q6 ls
  obtain⟨ct0,ct1,ct2,ct3,ct4,ct5,ct6,ct7,ct8,ct9,ct10⟩:=H.cells11 w
  have lt:=zA0 ct0
  go_wp2_with fail
  clear ct0 ct1 ct2 ct3 ct4 ct5 ct6 ct7 ct8 ct9 ct10 lt
  with_reducible refine (G1.out _).mono ?_
  rintro e w4 ⟨a4,c4,rfl,hd4,hb⟩
  replace H:=(H.below hb).add (f:=zAb a4 (x.G t) x.K c4) hd4
  have hsz4:S≤V1.heap.size:=by have:=HBS.out.size;omega
  replace t0:=keep hb (zA0 t0) t0
  replace t1:=keep hb (zA0 t1) t1
  replace t2:=keep hb (zA0 t2) t2
  replace z3:=zA6 hb (zA0 t3) z3
  replace t3:=keep hb (zA0 t3) t3
  replace HBS:=zh (HBS.out.trans (hb.mono hsz4))
  clear hb hd4 hsz4
  obtain⟨ct0,ct1,ct2,ct3,ct4,ct5,ct6,ct7,ct8,ct9,ct10⟩:=H.cells11 w
  have lt:=zA0 ct0
  obtain⟨cc0,cc1,cc2,cc3,cc4,cc5,cc6,cc7,cc8⟩:=H.cells9 (w+1)
  have lc:=zA0 cc0
  go_wp2_with fail
  clear ct0 ct1 ct2 ct3 ct4 ct5 ct6 ct7 ct8 ct9 ct10 lt cc0 cc1 cc2 cc3 cc4 cc5 cc6 cc7 cc8 lc
  with_reducible refine (RG.out _ a4 c4 (H.cal (c:=c) (aR:=aR) (cR:=cR) (aD:=aD) (cD:=cD)) (H.days (ao:=a4) (X:=(x.G t)) (n:=x.K) (cap:=c4))).mono ?_
  rintro e w5 ⟨a3,n3,c3,rfl,⟨hn2,hn3⟩,hd3,hb⟩
  replace H:=H.below hb
  have hsz5:S≤w4.heap.size:=by have:=HBS.out.size;omega
  replace t0:=keep hb (zA0 t0) t0
  replace t1:=keep hb (zA0 t1) t1
  replace t2:=keep hb (zA0 t2) t2
  replace z3:=zA6 hb (zA0 t3) z3
  replace t3:=keep hb (zA0 t3) t3
  replace HBS:=zh (HBS.out.trans (hb.mono hsz5))
  clear hb hsz5
  obtain⟨y2,hy2⟩:∃y,fst1 x.GC x.K=y:=⟨_,rfl⟩
  rw[hy2] at hn2 hn3 ⊢
  by_cases h2:y2=0
  rotate_left
  ·obtain rfl:=hn3 h2
   have e0:(y2 != 0)=true:=by simpa using h2
   have EF:=zh (show x.code t=y2 from (CG.out hcz (by rw[hy2];exact h2)).trans hy2)
   have HZ9:=zh h2
   clear hn2 hn3 hy2 h2 hd3
   obtain⟨cr0,cr1,cr2,cr3,cr4,cr5,cr6⟩:=H.cells7 (w+2)
   obtain⟨fr0,fr1,fr2,fr3,fr4,fr5,fr6⟩:=H.frozens7 (w+2)
   have lr:=zA0 cr0
   go_wp2
   simp only[zA2 cr0,zA2 cr1,zA2 cr2,zA2 cr3,zA2 cr4,zA2 cr5,zA2 cr6]
   refine bodyPost_ret (v:=.tuple #[.agg #[.slice none 0 0,.slice none 0 0,.slice none 0 0,false,(0:Int),(0:Int),.slice none 0 0],y2]) (by simp[results,Tryz.results12,go_sem,cr0,cr1,cr2,cr3,cr4,cr5,cr6,lr]) rfl ⟨PlanOut.no EF.out HZ9.out,H.old⟩
  obtain rfl:=hn2 h2
  subst h2
  have hgz:=hy2
  clear hn2 hn3 hy2
  have ls:=zA0 t3
  go_upto_region 14 with fail
  obtain⟨V5,hV5⟩:∃V5,World.setCell w5 ⟨S,3,none⟩ (.slice a3 x.K c3)=V5:=⟨_,rfl⟩
  have s0:=zA3 t0 (C:=S) (o:=3) (Or.inr zd) (.slice a3 x.K c3)
  have s1:=zA3 t1 (C:=S) (o:=3) (Or.inr zd) (.slice a3 x.K c3)
  have s2:=zA3 t2 (C:=S) (o:=3) (Or.inr zd) (.slice a3 x.K c3)
  have s3:=World.cell?_setCell_same' w5 ⟨S,3,none⟩ (.slice a3 x.K c3) (by rw[t3];rfl)
  replace hd3:=zA8 hd3 t3 (fun j hj e=>by cases e) (.slice a3 x.K c3)
  have B5:=HBS.out.setCell (p:=⟨S,3,none⟩) (Nat.le_refl S) (.slice a3 x.K c3)
  rw[hV5] at s0 s1 s2 s3 hd3 B5 ⊢
  clear H hV5 t0 t1 t2 t3 z3 ls
  obtain⟨n3,hn3⟩:∃n,x.K=n:=⟨_,rfl⟩
  rw[hn3] at s3 hd3 PC HPOS N0
  have H:=((((((HC.out.below (hTE▸B5)).add (f:=zAb a3 x.GV n3 c3) hd3).add (f:=.cell S 0 t.eo) s0).add (f:=.cell S 1 vn) s1).add (f:=.cell S 2 (fr t.ms)) s2).add (f:=.cell S 3 (.slice a3 n3 c3)) s3)
  have ls:=zA0 s0
  clear hd3 B5 hTE HBS HC hn3
  obtain⟨V,rfl⟩:∃V,V=V5:=⟨_,rfl⟩
  exact rest17
 ·
  have HC:=zh H
  have HT:=((Held.sub H (fun f hf=>absurd hf (List.not_mem_nil)):Held w [] WD).quad WD false (0:Int) (0:Int) (.slice none 0 0) 33 rfl)
  have HCB:Below WD WD (WD.alloc (.cells #[false,(0:Int),(0:Int),.slice none 0 0] 33)):=(Below.refl _ _).alloc (Nat.le_refl _) _
  replace H:=H.alloc (.cells #[false,(0:Int),(0:Int),.slice none 0 0] 33)
  replace HB:=HB.alloc (HS.out _ HB) (.cells #[false,(0:Int),(0:Int),.slice none 0 0] 33)
  go_simp
  refine hK.out _ _ (⟨H.c,H.c,H.c⟩) (fun hNew=>?_)
  clear hK K hHeld
  have hHeld:=hNew
  clear hNew
  try go_frame
  obtain⟨TB1,hTB1⟩:∃T,WD.heap.size=T:=⟨_,rfl⟩
  obtain⟨UB1,hUB1⟩:∃U,WD.alloc (.cells #[false,(0:Int),(0:Int),.slice none 0 0] 33)=U:=⟨_,rfl⟩
  rw[hUB1] at H HB hHeld HT HCB ⊢
  rw[hTB1] at HT HCB ⊢
  have hTE:=hTB1
  clear hTB1 hUB1
  refine wpAnyH_ready (rs:=[10]) zk zs ?_
  refine AllReadyH.cons (o:=⟨some 50,_,_,_,_,_⟩) rfl (fun K hK=>?_) AllReadyH.nil
  go_simp
  with_reducible refine (FQ.out _).mono ?_
  rintro e UB2 ⟨rfl,hb⟩
  replace H:=H.below hb
  replace HB:=HB.trans (hb.mono (HS.out _ HB))
  replace HT:=HT.below hb
  replace HCB:=HCB.trans (hb.mono (by have:=HCB.size;omega))
  clear hb
  go_wp2_with fail
  refine hK.out _ _ (⟨H.c,H.c,H.c⟩) (fun hNew=>?_)
  clear hK K hHeld
  have hHeld:=hNew
  clear hNew
  try go_frame
  refine wpAnyH_take (i:=11) (oi:=⟨some 51,_,_,_,_,_⟩) (v:=?_) rfl zk zk zk (fun _ _ _ h=>h) (Or.inl ⟨zr,?_⟩) za ?_
  rotate_left
  ·intro w hSw;(try dsimp only at hSw);go_simp;try with_reducible rfl
  go_frame
  refine wpAnyH_ready (rs:=[13]) zk zs ?_
  refine AllReadyH.cons (o:=⟨none,_,_,_,_,_⟩) rfl (fun K hK=>?_) AllReadyH.nil
  have kt0:=HT.cell TB1 0 _
  have ft0:=HT.frozen TB1 0
  have kt1:=HT.cell TB1 1 _
  have ft1:=HT.frozen TB1 1
  have kt2:=HT.cell TB1 2 _
  have ft2:=HT.frozen TB1 2
  have kt3:=HT.cell TB1 3 _
  have ft3:=HT.frozen TB1 3
  have lt:=zA0 kt0
  go_simp
  have HCB2:=((((HCB.setCell (p:=⟨TB1,0,none⟩) (Nat.le_refl _) t.eo).setCell (p:=⟨TB1,1,none⟩) (Nat.le_refl _) vn).setCell (p:=⟨TB1,2,none⟩) (Nat.le_refl _) (fr t.ms)).setCell (p:=⟨TB1,3,none⟩) (Nat.le_refl _) (.slice none 0 0))
  have HBS:=zh HCB2
  replace H:=HC.out.below (HCB2.mono (Nat.le_of_eq hTE))
  have t0:World.cell? (World.setCell (World.setCell (World.setCell (World.setCell UB2 ⟨TB1,0,none⟩ t.eo) ⟨TB1,1,none⟩ vn) ⟨TB1,2,none⟩ (fr t.ms)) ⟨TB1,3,none⟩ (.slice none 0 0)) ⟨TB1,0,none⟩=some (.bool t.eo):=(zA3 (zA3 (zA3 (World.cell?_setCell_same' _ _ _ (by rw[kt0];rfl)) (Or.inr zd) _) (Or.inr zd) _) (Or.inr zd) _)
  have t1:World.cell? (World.setCell (World.setCell (World.setCell (World.setCell UB2 ⟨TB1,0,none⟩ t.eo) ⟨TB1,1,none⟩ vn) ⟨TB1,2,none⟩ (fr t.ms)) ⟨TB1,3,none⟩ (.slice none 0 0)) ⟨TB1,1,none⟩=some (.int .i64 vn):=(zA3 (zA3 (World.cell?_setCell_same' _ _ _ (by rw[(zA3 kt1 (Or.inr zd) _)];rfl)) (Or.inr zd) _) (Or.inr zd) _)
  have t2:World.cell? (World.setCell (World.setCell (World.setCell (World.setCell UB2 ⟨TB1,0,none⟩ t.eo) ⟨TB1,1,none⟩ vn) ⟨TB1,2,none⟩ (fr t.ms)) ⟨TB1,3,none⟩ (.slice none 0 0)) ⟨TB1,2,none⟩=some (.int .i64 (fr t.ms)):=(zA3 (World.cell?_setCell_same' _ _ _ (by rw[(zA3 (zA3 kt2 (Or.inr zd) _) (Or.inr zd) _)];rfl)) (Or.inr zd) _)
  have t3:World.cell? (World.setCell (World.setCell (World.setCell (World.setCell UB2 ⟨TB1,0,none⟩ t.eo) ⟨TB1,1,none⟩ vn) ⟨TB1,2,none⟩ (fr t.ms)) ⟨TB1,3,none⟩ (.slice none 0 0)) ⟨TB1,3,none⟩=some (.slice none 0 0):=(World.cell?_setCell_same' _ _ _ (by rw[(zA3 (zA3 (zA3 kt3 (Or.inr zd) _) (Or.inr zd) _) (Or.inr zd) _)];rfl))
  have z3:World.frozen? (World.setCell (World.setCell (World.setCell (World.setCell UB2 ⟨TB1,0,none⟩ t.eo) ⟨TB1,1,none⟩ vn) ⟨TB1,2,none⟩ (fr t.ms)) ⟨TB1,3,none⟩ (.slice none 0 0)) ⟨TB1,3,none⟩=false:=by simpa using ft3
  refine hK.out _ _ (⟨H.c,H.c,H.c⟩) (fun hNew=>?_)
  clear hK K hHeld
  have hHeld:=hNew
  clear hNew
  try go_frame
  refine wpAnyH_done zk ?_ _
  clear hHeld
  clear HT HCB kt0 ft0 kt1 ft1 kt2 ft2 kt3 ft3 lt HB HWD HS HU
  obtain⟨V1,hV⟩:∃V1,(World.setCell (World.setCell (World.setCell (World.setCell UB2 ⟨TB1,0,none⟩ t.eo) ⟨TB1,1,none⟩ vn) ⟨TB1,2,none⟩ (fr t.ms)) ⟨TB1,3,none⟩ (.slice none 0 0))=V1:=⟨_,rfl⟩
  rw[hV] at H HBS t0 t1 t2 t3 z3 ⊢
  clear hV
  obtain⟨S,hS⟩:∃S,TB1=S:=⟨_,rfl⟩
  rw[hS] at HBS hTE t0 t1 t2 t3 z3 ⊢
  clear hS
  have hBR:w.heap.size+2<S:=by have:=HC.out.lt (w+2) 0 (.slice none 0 0);omega
  have kc:=H.cell w 3 _
  have lc:=zA0 kc
  by_cases h6:t.co=6
  rotate_left
  ·have n0:x.ns t=0:=if_neg h6
   have hgz:fst1 x.GC (x.ns t)=0:=by rw[n0];rfl
   obtain⟨a3,ha3⟩:∃a:Option Addr,none=a:=⟨_,rfl⟩
   obtain⟨n3,hn3⟩:∃n:Nat,0=n:=⟨_,rfl⟩
   obtain⟨c3,hc3⟩:∃n:Nat,0=n:=⟨_,rfl⟩
   have s3:V1.cell? ⟨S,3,none⟩=some (.slice a3 n3 c3):=by subst ha3 hn3 hc3;exact t3
   have hd3:DaysAt V1 a3 x.GV n3 c3:=by subst ha3 hn3 hc3;exact zC9 _ _
   have hn:x.ns t=n3:=n0.trans hn3
   have N0:=zh hn
   rw[hn] at PC HPOS
   replace H:=((((H.add (f:=.cell S 0 t.eo) t0).add (f:=.cell S 1 vn) t1).add (f:=.cell S 2 (fr t.ms)) t2).add (f:=.cell S 3 (.slice a3 n3 c3)) s3).add (f:=zAb a3 x.GV n3 c3) hd3
   have q6:(t.co==6)=false:=by simpa using h6
   have ls:=zA0 t0
   clear hd3 h6 n0 hn ha3 hn3 hc3 hTE HBS HC
   go_upto_region 14 with fail
   have s0:=t0
   have s1:=t1
   have s2:=t2
   clear kc lc q6 t0 t1 t2 t3 z3
   obtain⟨V,rfl⟩:∃V,V=V1:=⟨_,rfl⟩
   exact rest17
  have q6:(t.co==6)=true:=by simpa using h6
  have nK:x.ns t=x.K:=if_pos h6
  have N0:=zh nK
  rw[nK] at PC HPOS CG CP
  clear h6 nK
  have ls:=zA0 t0
  go_upto_region 9 with fail
  clear kc lc q6 ls
  obtain⟨ct0,ct1,ct2,ct3,ct4,ct5,ct6,ct7,ct8,ct9,ct10⟩:=H.cells11 w
  have lt:=zA0 ct0
  go_wp2_with fail
  clear ct0 ct1 ct2 ct3 ct4 ct5 ct6 ct7 ct8 ct9 ct10 lt
  with_reducible refine (G1.out _).mono ?_
  rintro e w4 ⟨a4,c4,rfl,hd4,hb⟩
  replace H:=(H.below hb).add (f:=zAb a4 (x.G t) x.K c4) hd4
  have hsz4:S≤V1.heap.size:=by have:=HBS.out.size;omega
  replace t0:=keep hb (zA0 t0) t0
  replace t1:=keep hb (zA0 t1) t1
  replace t2:=keep hb (zA0 t2) t2
  replace z3:=zA6 hb (zA0 t3) z3
  replace t3:=keep hb (zA0 t3) t3
  replace HBS:=zh (HBS.out.trans (hb.mono hsz4))
  clear hb hd4 hsz4
  obtain⟨ct0,ct1,ct2,ct3,ct4,ct5,ct6,ct7,ct8,ct9,ct10⟩:=H.cells11 w
  have lt:=zA0 ct0
  obtain⟨cc0,cc1,cc2,cc3,cc4,cc5,cc6,cc7,cc8⟩:=H.cells9 (w+1)
  have lc:=zA0 cc0
  go_wp2_with fail
  clear ct0 ct1 ct2 ct3 ct4 ct5 ct6 ct7 ct8 ct9 ct10 lt cc0 cc1 cc2 cc3 cc4 cc5 cc6 cc7 cc8 lc
  with_reducible refine (RG.out _ a4 c4 (H.cal (c:=c) (aR:=aR) (cR:=cR) (aD:=aD) (cD:=cD)) (H.days (ao:=a4) (X:=(x.G t)) (n:=x.K) (cap:=c4))).mono ?_
  rintro e w5 ⟨a3,n3,c3,rfl,⟨hn2,hn3⟩,hd3,hb⟩
  replace H:=H.below hb
  have hsz5:S≤w4.heap.size:=by have:=HBS.out.size;omega
  replace t0:=keep hb (zA0 t0) t0
  replace t1:=keep hb (zA0 t1) t1
  replace t2:=keep hb (zA0 t2) t2
  replace z3:=zA6 hb (zA0 t3) z3
  replace t3:=keep hb (zA0 t3) t3
  replace HBS:=zh (HBS.out.trans (hb.mono hsz5))
  clear hb hsz5
  obtain⟨y2,hy2⟩:∃y,fst1 x.GC x.K=y:=⟨_,rfl⟩
  rw[hy2] at hn2 hn3 ⊢
  by_cases h2:y2=0
  rotate_left
  ·obtain rfl:=hn3 h2
   have e0:(y2 != 0)=true:=by simpa using h2
   have EF:=zh (show x.code t=y2 from (CG.out hcz (by rw[hy2];exact h2)).trans hy2)
   have HZ9:=zh h2
   clear hn2 hn3 hy2 h2 hd3
   obtain⟨cr0,cr1,cr2,cr3,cr4,cr5,cr6⟩:=H.cells7 (w+2)
   obtain⟨fr0,fr1,fr2,fr3,fr4,fr5,fr6⟩:=H.frozens7 (w+2)
   have lr:=zA0 cr0
   go_wp2
   simp only[zA2 cr0,zA2 cr1,zA2 cr2,zA2 cr3,zA2 cr4,zA2 cr5,zA2 cr6]
   refine bodyPost_ret (v:=.tuple #[.agg #[.slice none 0 0,.slice none 0 0,.slice none 0 0,false,(0:Int),(0:Int),.slice none 0 0],y2]) (by simp[results,Tryz.results12,go_sem,cr0,cr1,cr2,cr3,cr4,cr5,cr6,lr]) rfl ⟨PlanOut.no EF.out HZ9.out,H.old⟩
  obtain rfl:=hn2 h2
  subst h2
  have hgz:=hy2
  clear hn2 hn3 hy2
  have ls:=zA0 t3
  go_upto_region 14 with fail
  obtain⟨V5,hV5⟩:∃V5,World.setCell w5 ⟨S,3,none⟩ (.slice a3 x.K c3)=V5:=⟨_,rfl⟩
  have s0:=zA3 t0 (C:=S) (o:=3) (Or.inr zd) (.slice a3 x.K c3)
  have s1:=zA3 t1 (C:=S) (o:=3) (Or.inr zd) (.slice a3 x.K c3)
  have s2:=zA3 t2 (C:=S) (o:=3) (Or.inr zd) (.slice a3 x.K c3)
  have s3:=World.cell?_setCell_same' w5 ⟨S,3,none⟩ (.slice a3 x.K c3) (by rw[t3];rfl)
  replace hd3:=zA8 hd3 t3 (fun j hj e=>by cases e) (.slice a3 x.K c3)
  have B5:=HBS.out.setCell (p:=⟨S,3,none⟩) (Nat.le_refl S) (.slice a3 x.K c3)
  rw[hV5] at s0 s1 s2 s3 hd3 B5 ⊢
  clear H hV5 t0 t1 t2 t3 z3 ls
  obtain⟨n3,hn3⟩:∃n,x.K=n:=⟨_,rfl⟩
  rw[hn3] at s3 hd3 PC HPOS N0
  have H:=((((((HC.out.below (hTE▸B5)).add (f:=zAb a3 x.GV n3 c3) hd3).add (f:=.cell S 0 t.eo) s0).add (f:=.cell S 1 vn) s1).add (f:=.cell S 2 (fr t.ms)) s2).add (f:=.cell S 3 (.slice a3 n3 c3)) s3)
  have ls:=zA0 s0
  clear hd3 B5 hTE HBS HC hn3
  obtain⟨V,rfl⟩:∃V,V=V5:=⟨_,rfl⟩
  exact rest17
end Go.Proofs.YtpfgdfpaoldhcaaGreatDoor
