/- Several texts in one: ScParts, ScLay. -/
import Derived.Test.YtpfgdfpaoldhcaaGreatDoorSuBC
import Derived.OneCell
import Derived.Defers
import Derived.Recover
set_option maxHeartbeats 8000000
set_option maxRecDepth 100000
set_option linter.unusedVariables false
set_option linter.unusedSimpArgs false
namespace Go.Proofs.YtpfgdfpaoldhcaaGreatDoor
open Go.RowKit
theorem zRa:(Tryz.prog.info? 48).map (fun i=>(i.zero,i.size,i.bytes))=some (some (.agg #[.int .i64 0,.int .i64 0]),2,16):=zk
def rl (P Q:Nat→Int):Nat→List Value
 | 0=>[]
 | n+1=>rl P Q n++[.int .i64 (P n),.int .i64 (Q n)]
theorem zHv (P Q:Nat→Int):∀n,(rl P Q n).length=2*n
 | 0=>rfl
 | n+1=>by rw[rl,List.length_append,zHv P Q n];simp;omega
theorem rl_at (P Q:Nat→Int):∀n j,j<n→(rl P Q n)[2*j]?=some (.int .i64 (P j))∧(rl P Q n)[2*j+1]?=some (.int .i64 (Q j))
 | 0,j,h=>absurd h (Nat.not_lt_zero j)
 | n+1,j,h=>by
  rw[rl]
  by_cases e:j=n
  ·subst e
   rw[List.getElem?_append_right (by rw[zHv];omega),List.getElem?_append_right (by rw[zHv];omega),zHv]
   simp
  ·have:=rl_at P Q n j zo
   rw[List.getElem?_append_left (by rw[zHv];omega),List.getElem?_append_left (by rw[zHv];omega)]
   exact this
theorem own_rats {W:World} {base n:Nat} {v:Value} {P Q:Nat→Int} (h:W.ownsRow base 48 2 v n (rl P Q n)):∃ao cap,v=.slice ao n cap∧RatAt W ao P Q n cap:=by
 have h0:=h
 rcases h.2 with⟨rfl,e⟩ | ⟨g,cap,cur,rfl,_,_,hc,_⟩
 ·refine⟨none,0,by rw[e],zo,fun k=>absurd k zo⟩
 ·refine⟨_,_,rfl,hc,fun _=>⟨g,0,rfl,fun j hj=>?_⟩⟩
  have a:=World.ownsRow.cellAt h0 (2*j) zo
  have b:=World.ownsRow.cellAt h0 (2*j+1) zo
  obtain⟨x,y⟩:=rl_at P Q n j hj
  exact⟨by rw[Nat.zero_add];exact a.trans x,by rw[Nat.zero_add];exact b.trans y⟩
theorem zHy {W:World} {T:Nat} {x y:Value} (h:W.cell? ⟨T,0,none⟩=some x) (k:W.cell? ⟨T,1,none⟩=some y):∀j u,[x,y][j]?=some u→W.cell? ((⟨T,0,none⟩:Addr).add j)=some u:=by
 intro j u hu
 match j,hu with
 | 0,hu=>
  obtain rfl:x=u:=by simpa using hu
  rw[zA9]
  exact h
 | 1,hu=>
  obtain rfl:y=u:=by simpa using hu
  rw[zA9]
  exact k
 | j+2,hu=>simp at hu
theorem zBc (W:World) (b o:Nat) (u v:Value):(W.setCell ⟨b,o,none⟩ u).setCell ⟨b,o,none⟩ v=W.setCell ⟨b,o,none⟩ v:=by
 unfold World.setCell
 have:∀(h1 h2:Array Obj),h1=h2→{ W with heap:=h1 }={ W with heap:=h2 }:=fun _ _ e=>by rw[e]
 refine this _ _ ?_
 apply Array.ext
 ·simp
 ·intro i h1 h2
  have h3:i<W.heap.size:=by simpa using h1
  simp only[Array.getElem_modify]
  split
  ·cases W.heap[i]'h3 <;> simp
  ·rfl
theorem zFm {n b o:Nat} {A C:World} (h:Below n A C) (u:Value):Below n (A.setCell ⟨b,o,none⟩ u) (C.setCell ⟨b,o,none⟩ u):=by
 refine⟨h.os,h.tape,h.output,?_,fun k hk=>?_⟩
 ·simpa using h.size
 ·have e:=h.block k hk
  unfold World.setCell
  simp only[Array.getElem?_modify]
  rw[e]
theorem zSd (t:Tm) (c:Ca) (aR:Option Addr) (cR:Nat) (aD:Option Addr) (cD:Nat) (B:Nat) (x:Pl) (gs:List Fact) (hgs:∀f∈gs,f.small) (w W:World) (hF0:FactsS w) (hC0:CalAt w c aR cR aD cD) (hB:w.heap.size≤B) (a0:Option Addr) (c0:Nat) (a1:Option Addr) (c1:Nat) (a3:Option Addr) (c3:Nat) (hd0:∀j,j<(x.q+1+1)→1≤(t.dd x.X x.q) j) (hd1:∀j,j<(x.q+1+1)→1≤x.V j) (hd3:∀j,j<(x.ns t)→1≤x.GV j) (hq:x.q≤90) (hns:(x.ns t)≤100) (hBW:B<W.heap.size)
  (hP:∀i,i<x.q+1→CoIs t.co (x.V i) (x.V (i+1)) t.eo (x.V (x.q+1)) (fr t.ms) x.GV (x.ns t) (x.P i) (x.Q i) (x.PC i)) (H:Held w (.cell B 26 (.slice a3 (x.ns t) c3)::.cell B 25 (fr t.ms)::.cell B 24 (.int .i64 (x.V (x.q+1)))::.cell B 23 t.eo::.cell B 21 (.slice a1 (x.q+1+1) c1)::.cell B 20 (.slice a0 (x.q+1+1) c0)::.cell B 22 (.slice none 0 0)::.free B 20::.free B 21::.free B 22::.free B 23::.free B 24::.free B 25::.free B 26::zAw B t::zAj B c aR cR aD cD::calF c aR cR aD cD::zAg::zAb a0 (t.dd x.X x.q) (x.q+1+1) c0::zAb a1 x.V (x.q+1+1) c1::zAb a3 x.GV (x.ns t) c3::gs) W):Calls Tryz.prog 81 #[.pointer (some ⟨B,0,none⟩)] W fun e w'=>e=.returned (fst1 x.PC (x.q+1):Int)∧Held w gs w'∧B<w'.heap.size∧(fst1 x.PC (x.q+1)=0→∃a2 c2,Held w (.cell B 22 (.slice a2 (x.q+1) c2)::.cell B 26 (.slice a3 (x.ns t) c3)::.cell B 25 (fr t.ms)::.cell B 24 (.int .i64 (x.V (x.q+1)))::.cell B 23 t.eo::.cell B 21 (.slice a1 (x.q+1+1) c1)::.cell B 20 (.slice a0 (x.q+1+1) c0)::.free B 20::.free B 21::.free B 22::.free B 23::.free B 24::.free B 25::.free B 26::zAw B t::zAj B c aR cR aD cD::calF c aR cR aD cD::zAg::zAb a0 (t.dd x.X x.q) (x.q+1+1) c0::zAb a1 x.V (x.q+1+1) c1::zAb a3 x.GV (x.ns t) c3::gs) w'∧w'.ownsRow W.heap.size 48 2 (.slice a2 (x.q+1) c2) (x.q+1) (rl x.P x.Q (x.q+1))):=by
 obtain⟨ir,hri,hrz0,hrz1,hrz2⟩:=info_parts zRa
 have HG:=zh hgs
 have HPT:=zh hP
 have HH:=zh H
 clear hP
 obtain⟨b1,o1,rfl,hV⟩:=(H.days (ao:=a1) (X:=x.V) (n:=(x.q+1+1)) (cap:=c1)).2 zo
 have hc1:=(H.days (ao:=some ⟨b1,o1,none⟩) (X:=x.V) (n:=(x.q+1+1)) (cap:=c1)).1
 clear hV
 go_enter Tryz.func81,Tryz.ntmps81
 have k21:=H.cell B 21 _
 have l21:=zA0 k21
 go_wp2_with fail
 clear k21 l21
 have k22:=H.cell B 22 _
 have e22:=zA2 k22
 clear H hgs
 go_loopw [3,4,5,6,14] (fun s3 s4 s5 s6 i wr=>∃k:Nat,k≤x.q+1∧i=.int .i64 (k:Int)∧(∀j,j<k→x.PC j=0)∧∃U av cv,Below W W U∧wr=U.setCell ⟨B,22,none⟩ (.slice av k cv)∧U.ownsRow W.heap.size 48 2 (.slice av k cv) k (rl x.P x.Q k)) (fun _ _ _ _ i _=>x.q+1-(intOf i).toNat)
 case atStart=>exact⟨0,zo,rfl,fun j hj=>absurd hj (Nat.not_lt_zero j),W,none,0,Below.refl _ _,e22.symm,World.ownsRow_nil _ _ _ _⟩
 case round=>
  obtain⟨k,hk,rfl,hz,U,av,cv,hB1,rfl,hown⟩:=hrel
  have H:=HH.out.below hB1
  have kU:=H.cell B 22 _
  have hgs:=HG.out
  replace H:Held w (.cell B 22 (.slice none 0 0)::.cell B 26 (.slice a3 (x.ns t) c3)::.cell B 25 (fr t.ms)::.cell B 24 (.int .i64 (x.V (x.q+1)))::.cell B 23 t.eo::.cell B 21 (.slice (some ⟨b1,o1,none⟩) (x.q+1+1) c1)::.cell B 20 (.slice a0 (x.q+1+1) c0)::.free B 20::.free B 21::.free B 22::.free B 23::.free B 24::.free B 25::.free B 26::zAw B t::zAj B c aR cR aD cD::calF c aR cR aD cD::zAg::zAb a0 (t.dd x.X x.q) (x.q+1+1) c0::zAb (some ⟨b1,o1,none⟩) x.V (x.q+1+1) c1::zAb a3 x.GV (x.ns t) c3::gs) _:=Held.pull (xs:=[.cell B 26 (.slice a3 (x.ns t) c3),.cell B 25 (fr t.ms),.cell B 24 (.int .i64 (x.V (x.q+1))),.cell B 23 t.eo,.cell B 21 (.slice (some ⟨b1,o1,none⟩) (x.q+1+1) c1),.cell B 20 (.slice a0 (x.q+1+1) c0)]) H
  replace H:=Held.put17 H (.slice av k cv) hB (zA1 (Or.inr zd) (zA1 (Or.inr zd) (zA1 (Or.inr zd) (zA1 (Or.inr zd) (zA1 (Or.inr zd) (zA1 (Or.inr zd) (zA1 trivial (zA1 trivial (zA1 trivial (zA1 trivial (zA1 trivial (zA1 trivial (zA1 trivial (zA1 (Or.inr (fun W u _ h=>h.set (Or.inr zo) u)) (zA1 (Or.inr (fun W u _ h=>h.set (Or.inr zo) u)) (zA1 (Or.inl hC0) (zA1 (Or.inl hF0) (zA1 (Or.inr (fun W u ho h=>zA8 h ho (fun j hj e=>by cases e) u)) (zA1 (Or.inr (fun W u ho h=>zA8 h ho (fun j hj e=>by cases e) u)) (zA1 (Or.inr (fun W u ho h=>zA8 h ho (fun j hj e=>by cases e) u)) (zD1 hgs zd)))))))))))))))))))))
  clear hgs
  have OW:=ownsRow_setCell_below hown (a:=⟨B,22,none⟩) hBW (.slice av k cv)
  have hsz:W.heap.size≤(U.setCell ⟨B,22,none⟩ (.slice av k cv)).heap.size:=by have:=hB1.size;simpa using this
  clear hown
  obtain⟨V,hVe⟩:∃V,U.setCell ⟨B,22,none⟩ (.slice av k cv)=V:=⟨_,rfl⟩
  rw[hVe] at H OW hsz ⊢
  have HV:=zh hVe
  have HB1:=zh hB1
  have KU:=zh kU
  clear hVe hB1 kU
  by_cases hlt:k<x.q+1
  ·obtain⟨b2,o2,e2,hcl⟩:=(H.days (ao:=some ⟨b1,o1,none⟩) (X:=x.V) (n:=(x.q+1+1)) (cap:=c1)).2 zo
   injection e2 with e2
   injection e2 with e3 e4 _
   subst e3 e4
   have ka:=hcl k zo
   have kb:=hcl (k+1) zo
   rw[show o1+(k+1)=o1+1+k by omega] at kb
   have vk:=hd1 k zo
   have RK:=zh (fun v h1 h2=>zQn t.co (x.V k) (x.V (k+1)) t.eo (x.V (x.q+1)) (fr t.ms) a3 (x.ns t) c3 x.GV (x.P k) (x.Q k) (x.PC k) v h1 hns h2 (HPT.out k hlt))
   clear hcl
   go_upto_region 4 with fail
   replace H:=(H.add (f:=.cell B 3 t.co) (H.terms (B:=B) (t:=t)).c3).add (f:=.cell b1 (o1+k) (.int .i64 (x.V k))) ka
   clear ka kb
   have HBV:Below W V V:=Below.refl _ _
   obtain⟨i0,hi,hz0,hz1,hz2⟩:=info_parts zAo
   replace H:=H.drew
   refine wp_region_held_drew (S:=fun w'=>w'.cell? ⟨B,3,none⟩=some (.int .i64 t.co)∧w'.cell? ⟨B,21,none⟩=some (.slice (some ⟨b1,o1,none⟩) (x.q+1+1) c1)∧w'.cell? ⟨b1,o1+k,none⟩=some (.int .i64 (x.V k))∧w'.cell? ⟨B,23,none⟩=some (.bool t.eo)∧w'.cell? ⟨B,24,none⟩=some (.int .i64 (x.V (x.q+1)))∧w'.cell? ⟨B,25,none⟩=some (.int .i64 (fr t.ms))∧w'.cell? ⟨B,26,none⟩=some (.slice a3 (x.ns t) c3)) zk (⟨H.c,H.c,H.c,H.c,H.c,H.c,H.c⟩) (fun hHeld=>?_)
   replace OW:=zAp OW ((Below.refl _ V).drew)
   replace HBV:=HBV.drew
   obtain⟨WD,hWD⟩:∃WD,World.drew (V)=WD:=⟨_,rfl⟩
   rw[hWD] at H hHeld OW HBV ⊢
   clear hWD
   obtain⟨b0,hb0⟩:∃b0,WD.heap.size=b0:=⟨_,rfl⟩
   have HB:=Below.refl b0 WD
   have HWD:=zh H
   have HS:Hid (∀W,Below b0 WD W→b0≤W.heap.size):=zh (fun W h=>by have z:=h.size;rw[hb0] at z;exact z)
   have HU:Hid (∀W,Below b0 WD W→Below WD WD W):=zh (fun W h=>by rw[hb0];exact h)
   clear hb0
   refine zT 0 ?_
   go_frame
   refine zT 1 ?_
   go_frame
   refine zT 2 ?_
   go_frame
   refine zT 3 ?_
   go_frame
   refine zT 4 ?_
   go_frame
   refine zT 5 ?_
   go_frame
   refine zT 6 ?_
   go_frame
   refine zT 7 ?_
   go_frame
   refine zT 8 ?_
   go_frame
   refine zT 9 ?_
   go_frame
   refine zT 10 ?_
   go_frame
   refine zP 11 (.pointer (some ⟨b1,o1+k,none⟩)) ?_
   go_frame
   refine zT 12 ?_
   go_frame
   refine zT 13 ?_
   go_frame
   refine zT 14 ?_
   go_frame
   refine zT 15 ?_
   go_frame
   refine zT 16 ?_
   go_frame
   refine zT 17 ?_
   go_frame
   refine zT 18 ?_
   go_frame
   refine wpAnyH_ready (rs:=[19,23]) zk zs ?_
   refine AllReadyH.cons (o:=⟨some 39,_,_,_,_,_⟩) rfl (fun K hK=>?_) (AllReadyH.cons (o:=⟨some 5,_,_,_,_,_⟩) rfl (fun K hK=>?_) AllReadyH.nil)
   ·
    go_simp
    with_reducible refine (RK.out _ (H.factsS).c ((H.days (ao:=a3) (X:=x.GV) (n:=(x.ns t)) (cap:=c3)).row)).mono ?_
    rintro e U1 ⟨rfl,hb⟩
    replace H:=H.below hb
    replace HB:=HB.trans (hb.mono (HS.out _ HB))
    replace OW:=zAp OW hb
    replace HBV:=HBV.trans (hb.mono (by have:=HBV.size;omega))
    clear hb
    go_wp2_with fail
    refine hK.out _ _ (⟨H.c,H.c,H.c,H.c,H.c,H.c,H.c⟩) (fun hNew=>?_)
    clear hK K hHeld
    have hHeld:=hNew
    clear hNew
    try go_frame
    refine zT 20 ?_
    go_frame
    refine zT 21 ?_
    go_frame
    refine zT 22 ?_
    go_frame
    refine wpAnyH_ready (rs:=[23]) zk zs ?_
    refine AllReadyH.cons (o:=⟨some 5,_,_,_,_,_⟩) rfl (fun K hK=>?_) AllReadyH.nil
    have HC:=zh H
    have HT:=((Held.sub H (fun f hf=>absurd hf (List.not_mem_nil)):Held w [] U1).pair U1 (0:Int) (0:Int) 48 rfl)
    have HCB:Below U1 U1 (U1.alloc (.cells #[(0:Int),(0:Int)] 48)):=(Below.refl _ _).alloc (Nat.le_refl _) _
    have nT:Value.ownBlock (.slice av k cv)≠some U1.heap.size:=fun e=>Nat.lt_irrefl _ (World.ownsRow.lt OW _ e).2
    have nB:B≠U1.heap.size:=Nat.ne_of_lt (H.lt B 3 t.co)
    replace OW:=OW.alloc (.cells #[(0:Int),(0:Int)] 48)
    have hTW:W.heap.size≤U1.heap.size:=by have:=HBV.size;omega
    replace HBV:=HBV.alloc hTW (.cells #[(0:Int),(0:Int)] 48)
    replace H:=H.alloc (.cells #[(0:Int),(0:Int)] 48)
    replace HB:=HB.alloc (HS.out _ HB) (.cells #[(0:Int),(0:Int)] 48)
    go_simp
    refine hK.out _ _ (⟨H.c,H.c,H.c,H.c,H.c,H.c,H.c⟩) (fun hNew=>?_)
    clear hK K hHeld
    have hHeld:=hNew
    clear hNew
    try go_frame
    obtain⟨T2,hT2⟩:∃T,U1.heap.size=T:=⟨_,rfl⟩
    obtain⟨U2,hU2⟩:∃U,U1.alloc (.cells #[(0:Int),(0:Int)] 48)=U:=⟨_,rfl⟩
    rw[hU2] at H HB hHeld HT HCB OW HBV ⊢
    rw[hT2] at HT HCB nT nB hTW ⊢
    have hTE:=hT2
    clear hT2 hU2
    refine wpAnyH_ready (rs:=[24]) zk zs ?_
    refine AllReadyH.cons (o:=⟨none,_,_,_,_,_⟩) rfl (fun K hK=>?_) AllReadyH.nil
    obtain⟨kt0,kt1⟩:=HT.cells2 T2
    obtain⟨ft0,ft1⟩:=HT.frozens2 T2
    have lt:=zA0 kt0
    go_simp
    have HCB2:=(HCB.setCell (p:=⟨T2,0,none⟩) (Nat.le_refl _) (.int .i64 (x.P k))).setCell (p:=⟨T2,1,none⟩) (Nat.le_refl _) (.int .i64 (x.Q k))
    replace H:=HC.out.below (HCB2.mono (Nat.le_of_eq hTE))
    replace OW:=ownsRow_setCell_other (ownsRow_setCell_other OW (a:=⟨T2,0,none⟩) nT (.int .i64 (x.P k))) (a:=⟨T2,1,none⟩) nT (.int .i64 (x.Q k))
    have t0:((World.setCell U2 ⟨T2,0,none⟩ (.int .i64 (x.P k))).setCell ⟨T2,1,none⟩ (.int .i64 (x.Q k))).cell? ⟨T2,0,none⟩=some (.int .i64 (x.P k)):=zA3 (World.cell?_setCell_same' _ _ _ (by rw[kt0];rfl)) (Or.inr zd) _
    have t1:((World.setCell U2 ⟨T2,0,none⟩ (.int .i64 (x.P k))).setCell ⟨T2,1,none⟩ (.int .i64 (x.Q k))).cell? ⟨T2,1,none⟩=some (.int .i64 (x.Q k)):=World.cell?_setCell_same' _ _ _ (by rw[zA3 kt1 (Or.inr zd)];rfl)
    replace HBV:=(HBV.setCell (p:=⟨T2,0,none⟩) hTW (.int .i64 (x.P k))).setCell (p:=⟨T2,1,none⟩) hTW (.int .i64 (x.Q k))
    have HB3:=HCB2
    refine hK.out _ _ (⟨H.c,H.c,H.c,H.c,H.c,H.c,H.c⟩) (fun hNew=>?_)
    clear hK K hHeld
    have hHeld:=hNew
    clear hNew
    try go_frame
    refine zT 25 ?_
    go_frame
    refine wpAnyH_done zk ?_ _
    clear hHeld
    clear HT HCB kt0 kt1 ft0 ft1 lt HC
    obtain⟨V2,hV2⟩:∃V2,(World.setCell U2 ⟨T2,0,none⟩ (.int .i64 (x.P k))).setCell ⟨T2,1,none⟩ (.int .i64 (x.Q k))=V2:=⟨_,rfl⟩
    rw[hV2] at H OW HBV t0 t1 ⊢
    clear hV2
    obtain⟨T,hT⟩:∃T,T2=T:=⟨_,rfl⟩
    rw[hT] at t0 t1 nT nB ⊢
    clear hT
    have hTl:=zA0 t0
    have hsz2:W.heap.size≤V2.heap.size:=by have:=HBV.size;omega
    have HZ:=zh hz
    clear hz
    by_cases hz9:x.PC k=0
    ·have e0:(x.PC k != 0)=false:=by simpa using hz9
     have k22:=H.cell B 22 _
     have f22:=H.frozen B 22
     have l22:=zA0 k22
     have nO:some (⟨B,22,none⟩:Addr).block≠(Value.slice av k cv).ownBlock:=fun e=>by have:=(World.ownsRow.lt OW B e.symm).1;omega
     have HN:=zh nO
     have HO:=zh OW
     have HX:=zh HBV
     clear HBV OW nO nT nB
     go_upto_region 7 with fail
     go_region_law ((refine step_append_lies _ zr _ _ 31 zr W.heap.size 48 ir (.agg #[(0:Int),(0:Int)]) 2 16 Tryz.underlying31 hri hrz0 hrz1 hrz2 rfl zd (.slice av k cv) k (rl x.P x.Q k) zr (by first | exact zAp (HO.out.alloc _) ((Below.refl _ _).drew) | exact (zAp HO.out ((Below.refl _ _).drew)).alloc _) ⟨V2,0,none⟩ 1 1 [.int .i64 (x.P k),.int .i64 (x.Q k)] zr rfl (zHy zn zn) (by intro u hu;simp at hu;rcases hu with rfl | rfl <;> rfl) zo (by unfold maxLen;omega) zo zx (V2+1) zs ?_;intro g cap w1 hown1 hgrow hat hlt9;have k9:w1.cell? ⟨B,22,none⟩=some (.slice av k cv):=(by first | exact hgrow.cell (keep (((Below.refl _ V2).alloc (Nat.le_refl _) _).drew) l22 k22) HN.out | exact hgrow.cell (keep (((Below.refl _ V2).drew).alloc zs _) l22 k22) HN.out);have f9:w1.frozen? ⟨B,22,none⟩=false:=(by rw[World.frozen?_of_block (hgrow.block B zx HN.out)];first | exact zA6 (((Below.refl _ V2).alloc (Nat.le_refl _) _).drew) l22 f22 | exact zA6 (((Below.refl _ V2).drew).alloc zs _) l22 f22);have B9:Hid (Below W V w1):=zh (by first | exact ((HX.out.alloc hsz2 _).drew).grown hgrow zx (fun k hk=>(World.ownsRow.lt HO.out k hk).1) | exact ((HX.out.drew).alloc zx _).grown hgrow zx (fun k hk=>(World.ownsRow.lt HO.out k hk).1));have O9:=zh hown1;clear hown1 hgrow hat;have l9:=zA0 k9))
     all_goals
      have U9:Hid (Below W W (w1.setCell ⟨B,22,none⟩ (.slice none 0 0))):=zh (HB1.out.trans (by
       have:=zFm (b:=B) (o:=22) B9.out (.slice none 0 0)
       rw[←HV.out,zBc,zA2 KU.out] at this
       exact this))
      go_wp2
      go_roundw
      case rel=>
       refine⟨k+1,zo,by go_num,fun j hj=>?_,w1.setCell ⟨B,22,none⟩ (.slice none 0 0),some ⟨g,0,none⟩,cap,U9.out,(zBc _ _ _ _ _).symm,ownsRow_setCell_below O9.out (a:=⟨B,22,none⟩) hBW (.slice none 0 0)⟩
       by_cases e:j=k
       ·rw[e];exact hz9
       ·exact HZ.out j zo
      case measure=>simp[intOf];omega
    ·have e0:(x.PC k != 0)=true:=by simpa using hz9
     have ef:fst1 x.PC (x.q+1)=x.PC k:=zEm HZ.out hz9 hlt
     have EF:=zh ef
     clear ef OW HBV
     go_wp2
     go_ret
     rw[EF.out]
     refine⟨rfl,H.sub (fun f hf=>by repeat (first | exact hf | apply List.mem_cons_of_mem)),H.lt B 22 _,fun e=>absurd e hz9⟩
   ·
    have HC:=zh H
    have HT:=((Held.sub H (fun f hf=>absurd hf (List.not_mem_nil)):Held w [] WD).pair WD (0:Int) (0:Int) 48 rfl)
    have HCB:Below WD WD (WD.alloc (.cells #[(0:Int),(0:Int)] 48)):=(Below.refl _ _).alloc (Nat.le_refl _) _
    have nT:Value.ownBlock (.slice av k cv)≠some WD.heap.size:=fun e=>Nat.lt_irrefl _ (World.ownsRow.lt OW _ e).2
    have nB:B≠WD.heap.size:=Nat.ne_of_lt (H.lt B 3 t.co)
    replace OW:=OW.alloc (.cells #[(0:Int),(0:Int)] 48)
    have hTW:W.heap.size≤WD.heap.size:=by have:=HBV.size;omega
    replace HBV:=HBV.alloc hTW (.cells #[(0:Int),(0:Int)] 48)
    replace H:=H.alloc (.cells #[(0:Int),(0:Int)] 48)
    replace HB:=HB.alloc (HS.out _ HB) (.cells #[(0:Int),(0:Int)] 48)
    go_simp
    refine hK.out _ _ (⟨H.c,H.c,H.c,H.c,H.c,H.c,H.c⟩) (fun hNew=>?_)
    clear hK K hHeld
    have hHeld:=hNew
    clear hNew
    try go_frame
    obtain⟨T1,hT1⟩:∃T,WD.heap.size=T:=⟨_,rfl⟩
    obtain⟨U1,hU1⟩:∃U,WD.alloc (.cells #[(0:Int),(0:Int)] 48)=U:=⟨_,rfl⟩
    rw[hU1] at H HB hHeld HT HCB OW HBV ⊢
    rw[hT1] at HT HCB nT nB hTW ⊢
    have hTE:=hT1
    clear hT1 hU1
    refine wpAnyH_ready (rs:=[19]) zk zs ?_
    refine AllReadyH.cons (o:=⟨some 39,_,_,_,_,_⟩) rfl (fun K hK=>?_) AllReadyH.nil
    go_simp
    with_reducible refine (RK.out _ (H.factsS).c ((H.days (ao:=a3) (X:=x.GV) (n:=(x.ns t)) (cap:=c3)).row)).mono ?_
    rintro e U2 ⟨rfl,hb⟩
    replace H:=H.below hb
    replace HB:=HB.trans (hb.mono (HS.out _ HB))
    replace OW:=zAp OW hb
    replace HBV:=HBV.trans (hb.mono (by have:=HBV.size;omega))
    replace HT:=HT.below hb
    replace HCB:=HCB.trans (hb.mono (by have:=HCB.size;omega))
    clear hb
    go_wp2_with fail
    refine hK.out _ _ (⟨H.c,H.c,H.c,H.c,H.c,H.c,H.c⟩) (fun hNew=>?_)
    clear hK K hHeld
    have hHeld:=hNew
    clear hNew
    try go_frame
    refine zT 20 ?_
    go_frame
    refine zT 21 ?_
    go_frame
    refine zT 22 ?_
    go_frame
    refine wpAnyH_ready (rs:=[24]) zk zs ?_
    refine AllReadyH.cons (o:=⟨none,_,_,_,_,_⟩) rfl (fun K hK=>?_) AllReadyH.nil
    obtain⟨kt0,kt1⟩:=HT.cells2 T1
    obtain⟨ft0,ft1⟩:=HT.frozens2 T1
    have lt:=zA0 kt0
    go_simp
    have HCB2:=(HCB.setCell (p:=⟨T1,0,none⟩) (Nat.le_refl _) (.int .i64 (x.P k))).setCell (p:=⟨T1,1,none⟩) (Nat.le_refl _) (.int .i64 (x.Q k))
    replace H:=HC.out.below (HCB2.mono (Nat.le_of_eq hTE))
    replace OW:=ownsRow_setCell_other (ownsRow_setCell_other OW (a:=⟨T1,0,none⟩) nT (.int .i64 (x.P k))) (a:=⟨T1,1,none⟩) nT (.int .i64 (x.Q k))
    have t0:((World.setCell U2 ⟨T1,0,none⟩ (.int .i64 (x.P k))).setCell ⟨T1,1,none⟩ (.int .i64 (x.Q k))).cell? ⟨T1,0,none⟩=some (.int .i64 (x.P k)):=zA3 (World.cell?_setCell_same' _ _ _ (by rw[kt0];rfl)) (Or.inr zd) _
    have t1:((World.setCell U2 ⟨T1,0,none⟩ (.int .i64 (x.P k))).setCell ⟨T1,1,none⟩ (.int .i64 (x.Q k))).cell? ⟨T1,1,none⟩=some (.int .i64 (x.Q k)):=World.cell?_setCell_same' _ _ _ (by rw[zA3 kt1 (Or.inr zd)];rfl)
    replace HBV:=(HBV.setCell (p:=⟨T1,0,none⟩) hTW (.int .i64 (x.P k))).setCell (p:=⟨T1,1,none⟩) hTW (.int .i64 (x.Q k))
    have HB3:=HCB2
    refine hK.out _ _ (⟨H.c,H.c,H.c,H.c,H.c,H.c,H.c⟩) (fun hNew=>?_)
    clear hK K hHeld
    have hHeld:=hNew
    clear hNew
    try go_frame
    refine zT 25 ?_
    go_frame
    refine wpAnyH_done zk ?_ _
    clear hHeld
    clear HT HCB kt0 kt1 ft0 ft1 lt HC
    obtain⟨V2,hV2⟩:∃V2,(World.setCell U2 ⟨T1,0,none⟩ (.int .i64 (x.P k))).setCell ⟨T1,1,none⟩ (.int .i64 (x.Q k))=V2:=⟨_,rfl⟩
    rw[hV2] at H OW HBV t0 t1 ⊢
    clear hV2
    obtain⟨T,hT⟩:∃T,T1=T:=⟨_,rfl⟩
    rw[hT] at t0 t1 nT nB ⊢
    clear hT
    have hTl:=zA0 t0
    have hsz2:W.heap.size≤V2.heap.size:=by have:=HBV.size;omega
    have HZ:=zh hz
    clear hz
    by_cases hz9:x.PC k=0
    ·have e0:(x.PC k != 0)=false:=by simpa using hz9
     have k22:=H.cell B 22 _
     have f22:=H.frozen B 22
     have l22:=zA0 k22
     have nO:some (⟨B,22,none⟩:Addr).block≠(Value.slice av k cv).ownBlock:=fun e=>by have:=(World.ownsRow.lt OW B e.symm).1;omega
     have HN:=zh nO
     have HO:=zh OW
     have HX:=zh HBV
     clear HBV OW nO nT nB
     go_upto_region 7 with fail
     go_region_law ((refine step_append_lies _ zr _ _ 31 zr W.heap.size 48 ir (.agg #[(0:Int),(0:Int)]) 2 16 Tryz.underlying31 hri hrz0 hrz1 hrz2 rfl zd (.slice av k cv) k (rl x.P x.Q k) zr (by first | exact zAp (HO.out.alloc _) ((Below.refl _ _).drew) | exact (zAp HO.out ((Below.refl _ _).drew)).alloc _) ⟨V2,0,none⟩ 1 1 [.int .i64 (x.P k),.int .i64 (x.Q k)] zr rfl (zHy zn zn) (by intro u hu;simp at hu;rcases hu with rfl | rfl <;> rfl) zo (by unfold maxLen;omega) zo zx (V2+1) zs ?_;intro g cap w1 hown1 hgrow hat hlt9;have k9:w1.cell? ⟨B,22,none⟩=some (.slice av k cv):=(by first | exact hgrow.cell (keep (((Below.refl _ V2).alloc (Nat.le_refl _) _).drew) l22 k22) HN.out | exact hgrow.cell (keep (((Below.refl _ V2).drew).alloc zs _) l22 k22) HN.out);have f9:w1.frozen? ⟨B,22,none⟩=false:=(by rw[World.frozen?_of_block (hgrow.block B zx HN.out)];first | exact zA6 (((Below.refl _ V2).alloc (Nat.le_refl _) _).drew) l22 f22 | exact zA6 (((Below.refl _ V2).drew).alloc zs _) l22 f22);have B9:Hid (Below W V w1):=zh (by first | exact ((HX.out.alloc hsz2 _).drew).grown hgrow zx (fun k hk=>(World.ownsRow.lt HO.out k hk).1) | exact ((HX.out.drew).alloc zx _).grown hgrow zx (fun k hk=>(World.ownsRow.lt HO.out k hk).1));have O9:=zh hown1;clear hown1 hgrow hat;have l9:=zA0 k9))
     all_goals
      have U9:Hid (Below W W (w1.setCell ⟨B,22,none⟩ (.slice none 0 0))):=zh (HB1.out.trans (by
       have:=zFm (b:=B) (o:=22) B9.out (.slice none 0 0)
       rw[←HV.out,zBc,zA2 KU.out] at this
       exact this))
      go_wp2
      go_roundw
      case rel=>
       refine⟨k+1,zo,by go_num,fun j hj=>?_,w1.setCell ⟨B,22,none⟩ (.slice none 0 0),some ⟨g,0,none⟩,cap,U9.out,(zBc _ _ _ _ _).symm,ownsRow_setCell_below O9.out (a:=⟨B,22,none⟩) hBW (.slice none 0 0)⟩
       by_cases e:j=k
       ·rw[e];exact hz9
       ·exact HZ.out j zo
      case measure=>simp[intOf];omega
    ·have e0:(x.PC k != 0)=true:=by simpa using hz9
     have ef:fst1 x.PC (x.q+1)=x.PC k:=zEm HZ.out hz9 hlt
     have EF:=zh ef
     clear ef OW HBV
     go_wp2
     go_ret
     rw[EF.out]
     refine⟨rfl,H.sub (fun f hf=>by repeat (first | exact hf | apply List.mem_cons_of_mem)),H.lt B 22 _,fun e=>absurd e hz9⟩
  ·obtain rfl:k=x.q+1:=zo
   have EF:=zh (zB8.2 hz)
   have HO:=zh OW
   clear hz OW
   go_wp2
   go_ret
   rw[EF.out]
   refine⟨rfl,H.sub (fun f hf=>by repeat (first | exact hf | apply List.mem_cons_of_mem)),H.lt B 22 _,fun _=>⟨av,cv,H.sub (fun f hf=>?_),HO.out⟩⟩
   simp only[List.mem_cons,List.append_eq,List.cons_append,List.nil_append] at hf
   rcases hf with rfl | rfl | rfl | rfl | rfl | rfl | rfl | rfl | rfl | rfl | rfl | rfl | rfl | rfl | rfl | rfl | rfl | rfl | rfl | rfl | rfl | hf
   all_goals (repeat (first | exact hf | with_reducible exact List.mem_cons_self | with_reducible apply List.mem_cons_of_mem))
theorem zG0 (E B Q:Nat) (k:Int) (u:FrameMode) (w:World) (h:w.cell? ⟨E,0,none⟩=some (.int .i64 k)) (hk:k≠0):CallsD Tryz.prog 53 #[.pointer (some ⟨E,0,none⟩),.pointer (some ⟨B,0,none⟩),.pointer (some ⟨Q,0,none⟩)] u w fun e u' w'=>u'=u∧(e=.returned (.tuple #[])∧w'=w):=by
 have k0:(k==0)=false:=by simpa using hk
 go_enter_d Tryz.func53,Tryz.ntmps53
 go_wp2
 go_end0
 exact⟨rfl,rfl⟩
theorem lay_done (E B Q:Nat) (a0 a1 a2 a3:Option Addr) (n0 n1 n2 n3 c0 c1 c2 c3:Nat) (b:Bool) (en f:Int) (u:FrameMode) (w:World) (h:w.cell? ⟨E,0,none⟩=some (.int .i64 0))
  (d0:w.cell? ⟨B,20,none⟩=some (.slice a0 n0 c0)) (d1:w.cell? ⟨B,21,none⟩=some (.slice a1 n1 c1)) (d2:w.cell? ⟨B,22,none⟩=some (.slice a2 n2 c2)) (d3:w.cell? ⟨B,23,none⟩=some (.bool b)) (d4:w.cell? ⟨B,24,none⟩=some (.int .i64 en)) (d5:w.cell? ⟨B,25,none⟩=some (.int .i64 f)) (d6:w.cell? ⟨B,26,none⟩=some (.slice a3 n3 c3)) (q0:w.cell? ⟨Q,0,none⟩=some (.slice none 0 0)) (q1:w.cell? ⟨Q,1,none⟩=some (.slice none 0 0)) (q2:w.cell? ⟨Q,2,none⟩=some (.slice none 0 0)) (q3:w.cell? ⟨Q,3,none⟩=some (.bool false)) (q4:w.cell? ⟨Q,4,none⟩=some (.int .i64 0)) (q5:w.cell? ⟨Q,5,none⟩=some (.int .i64 0)) (q6:w.cell? ⟨Q,6,none⟩=some (.slice none 0 0)) (f0:w.frozen? ⟨Q,0,none⟩=false) (f1:w.frozen? ⟨Q,1,none⟩=false) (f2:w.frozen? ⟨Q,2,none⟩=false) (f3:w.frozen? ⟨Q,3,none⟩=false) (f4:w.frozen? ⟨Q,4,none⟩=false) (f5:w.frozen? ⟨Q,5,none⟩=false) (f6:w.frozen? ⟨Q,6,none⟩=false) :
  CallsD Tryz.prog 53 #[.pointer (some ⟨E,0,none⟩),.pointer (some ⟨B,0,none⟩),.pointer (some ⟨Q,0,none⟩)] u w fun e u' w'=>u'=u∧(e=.returned (.tuple #[])∧w'=(((((((w.setCell ⟨Q,0,none⟩ (.slice a0 n0 c0)).setCell ⟨Q,1,none⟩ (.slice a1 n1 c1)).setCell ⟨Q,2,none⟩ (.slice a2 n2 c2)).setCell ⟨Q,3,none⟩ b).setCell ⟨Q,4,none⟩ en).setCell ⟨Q,5,none⟩ f).setCell ⟨Q,6,none⟩ (.slice a3 n3 c3))):=by
 have lq:=zA0 q0
 have ld:=zA0 d0
 go_enter_d Tryz.func53,Tryz.ntmps53
 go_wp2
 go_end0
 exact⟨rfl,rfl⟩
theorem zM8 (w:World):Calls Tryz.prog 54 #[] w fun e w'=>∃b,e=.returned (.slice (some ⟨b,0,none⟩) 5 5)∧w'.cell? ⟨b,0,none⟩=some (.func (.func 77) #[] #[])∧w'.cell? ⟨b,1,none⟩=some (.func (.func 78) #[] #[])∧w'.cell? ⟨b,2,none⟩=some (.func (.func 79) #[] #[])∧w'.cell? ⟨b,3,none⟩=some (.func (.func 80) #[] #[])∧w'.cell? ⟨b,4,none⟩=some (.func (.func 81) #[] #[])∧Below w w w':=by
 go_enter Tryz.func54,Tryz.ntmps54
 go_wp2
 go_ret
 exact⟨w,rfl,zn,zn,zn,zn,zn,(Below.refl _ _).alloc (Nat.le_refl _) _⟩
theorem zQv (W:World) (B:Nat) (t:Tm) (c:Ca) (aR:Option Addr) (cR:Nat) (aD:Option Addr) (cD:Nat) (hB:W.heap.size=B):TermsAt (W.alloc (.cells #[t.mo,t.ra,t.ki,t.co,t.st,t.en,t.ms,t.bk,t.lg,t.eo,t.ro,.bool (c.o 0),.bool (c.o 1),.bool (c.o 2),.bool (c.o 3),.bool (c.o 4),.bool (c.o 5),.bool (c.o 6),.slice aR c.nr cR,.slice aD c.nd cD,.slice none 0 0,.slice none 0 0,.slice none 0 0,false,(0:Int),(0:Int),.slice none 0 0] 89)) B t∧CalBox (W.alloc (.cells #[t.mo,t.ra,t.ki,t.co,t.st,t.en,t.ms,t.bk,t.lg,t.eo,t.ro,.bool (c.o 0),.bool (c.o 1),.bool (c.o 2),.bool (c.o 3),.bool (c.o 4),.bool (c.o 5),.bool (c.o 6),.slice aR c.nr cR,.slice aD c.nd cD,.slice none 0 0,.slice none 0 0,.slice none 0 0,false,(0:Int),(0:Int),.slice none 0 0] 89)) B c aR cR aD cD∧((W.alloc (.cells #[t.mo,t.ra,t.ki,t.co,t.st,t.en,t.ms,t.bk,t.lg,t.eo,t.ro,.bool (c.o 0),.bool (c.o 1),.bool (c.o 2),.bool (c.o 3),.bool (c.o 4),.bool (c.o 5),.bool (c.o 6),.slice aR c.nr cR,.slice aD c.nd cD,.slice none 0 0,.slice none 0 0,.slice none 0 0,false,(0:Int),(0:Int),.slice none 0 0] 89)).cell? ⟨B,20,none⟩=some (.slice none 0 0)∧(W.alloc (.cells #[t.mo,t.ra,t.ki,t.co,t.st,t.en,t.ms,t.bk,t.lg,t.eo,t.ro,.bool (c.o 0),.bool (c.o 1),.bool (c.o 2),.bool (c.o 3),.bool (c.o 4),.bool (c.o 5),.bool (c.o 6),.slice aR c.nr cR,.slice aD c.nd cD,.slice none 0 0,.slice none 0 0,.slice none 0 0,false,(0:Int),(0:Int),.slice none 0 0] 89)).cell? ⟨B,21,none⟩=some (.slice none 0 0)∧(W.alloc (.cells #[t.mo,t.ra,t.ki,t.co,t.st,t.en,t.ms,t.bk,t.lg,t.eo,t.ro,.bool (c.o 0),.bool (c.o 1),.bool (c.o 2),.bool (c.o 3),.bool (c.o 4),.bool (c.o 5),.bool (c.o 6),.slice aR c.nr cR,.slice aD c.nd cD,.slice none 0 0,.slice none 0 0,.slice none 0 0,false,(0:Int),(0:Int),.slice none 0 0] 89)).cell? ⟨B,22,none⟩=some (.slice none 0 0)∧(W.alloc (.cells #[t.mo,t.ra,t.ki,t.co,t.st,t.en,t.ms,t.bk,t.lg,t.eo,t.ro,.bool (c.o 0),.bool (c.o 1),.bool (c.o 2),.bool (c.o 3),.bool (c.o 4),.bool (c.o 5),.bool (c.o 6),.slice aR c.nr cR,.slice aD c.nd cD,.slice none 0 0,.slice none 0 0,.slice none 0 0,false,(0:Int),(0:Int),.slice none 0 0] 89)).cell? ⟨B,23,none⟩=some (.bool false)∧(W.alloc (.cells #[t.mo,t.ra,t.ki,t.co,t.st,t.en,t.ms,t.bk,t.lg,t.eo,t.ro,.bool (c.o 0),.bool (c.o 1),.bool (c.o 2),.bool (c.o 3),.bool (c.o 4),.bool (c.o 5),.bool (c.o 6),.slice aR c.nr cR,.slice aD c.nd cD,.slice none 0 0,.slice none 0 0,.slice none 0 0,false,(0:Int),(0:Int),.slice none 0 0] 89)).cell? ⟨B,24,none⟩=some (.int .i64 0)∧(W.alloc (.cells #[t.mo,t.ra,t.ki,t.co,t.st,t.en,t.ms,t.bk,t.lg,t.eo,t.ro,.bool (c.o 0),.bool (c.o 1),.bool (c.o 2),.bool (c.o 3),.bool (c.o 4),.bool (c.o 5),.bool (c.o 6),.slice aR c.nr cR,.slice aD c.nd cD,.slice none 0 0,.slice none 0 0,.slice none 0 0,false,(0:Int),(0:Int),.slice none 0 0] 89)).cell? ⟨B,25,none⟩=some (.int .i64 0)∧(W.alloc (.cells #[t.mo,t.ra,t.ki,t.co,t.st,t.en,t.ms,t.bk,t.lg,t.eo,t.ro,.bool (c.o 0),.bool (c.o 1),.bool (c.o 2),.bool (c.o 3),.bool (c.o 4),.bool (c.o 5),.bool (c.o 6),.slice aR c.nr cR,.slice aD c.nd cD,.slice none 0 0,.slice none 0 0,.slice none 0 0,false,(0:Int),(0:Int),.slice none 0 0] 89)).cell? ⟨B,26,none⟩=some (.slice none 0 0))∧∀o,o<27→(B<(W.alloc (.cells #[t.mo,t.ra,t.ki,t.co,t.st,t.en,t.ms,t.bk,t.lg,t.eo,t.ro,.bool (c.o 0),.bool (c.o 1),.bool (c.o 2),.bool (c.o 3),.bool (c.o 4),.bool (c.o 5),.bool (c.o 6),.slice aR c.nr cR,.slice aD c.nd cD,.slice none 0 0,.slice none 0 0,.slice none 0 0,false,(0:Int),(0:Int),.slice none 0 0] 89)).heap.size∧(W.alloc (.cells #[t.mo,t.ra,t.ki,t.co,t.st,t.en,t.ms,t.bk,t.lg,t.eo,t.ro,.bool (c.o 0),.bool (c.o 1),.bool (c.o 2),.bool (c.o 3),.bool (c.o 4),.bool (c.o 5),.bool (c.o 6),.slice aR c.nr cR,.slice aD c.nd cD,.slice none 0 0,.slice none 0 0,.slice none 0 0,false,(0:Int),(0:Int),.slice none 0 0] 89)).frozen? ⟨B,o,none⟩=false):=by
 subst hB
 refine⟨⟨zn,zn,zn,zn,zn,zn,zn,zn,zn,zn,zn⟩,⟨zn,zn,zn,zn,zn,zn,zn,zn,zn⟩,⟨zn,zn,zn,zn,zn,zn,zn⟩,fun o _=>⟨zs,by simp[go_sem]⟩⟩
end Go.Proofs.YtpfgdfpaoldhcaaGreatDoor
