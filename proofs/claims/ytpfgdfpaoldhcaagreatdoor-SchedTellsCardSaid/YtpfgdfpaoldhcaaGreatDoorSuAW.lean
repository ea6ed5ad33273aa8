/- Several texts in one: DaIter, TeRef, TeWay, TeCheck. -/
import Derived.Test.YtpfgdfpaoldhcaaGreatDoorSuAV
import Derived.RangeFuncBox
set_option maxHeartbeats 8000000
set_option maxRecDepth 100000
set_option linter.unusedVariables false
set_option linter.unusedSimpArgs false
namespace Go.Proofs.YtpfgdfpaoldhcaaGreatDoor
open Go.RowKit Go.Shelf
attribute [local go_sem] Oper.semAt_some
theorem zKe (mo ra ki co st en ms:Int) (bk lg eo:Bool) (ro:Int) (w:World) (hm : -100≤ms∧ms≤100) :
  Calls Tryz.prog 95 #[.agg #[mo,ra,ki,co,st,en,ms,bk,lg,eo,ro]] w fun e w'=>∃B,e=.returned (.func (.func 109) #[] #[.pointer (some ⟨B,0,none⟩),.pointer (some ⟨B+1,0,none⟩),.pointer (some ⟨w,0,none⟩)])∧w.heap.size<B∧w'.heap.size=B+2∧Held w (.cell (B+1) 0 (.int .i64 (Tm.mk mo ra ki co st en ms bk lg eo ro).ap)::.free (B+1) 0::.cell B 0 (.int .i64 (Tm.mk mo ra ki co st en ms bk lg eo ro).an)::.free B 0::.cell w 0 mo::.cell w 1 ra::.cell w 2 ki::.cell w 3 co::.cell w 4 st::.cell w 5 en::.cell w 6 ms::.cell w 7 bk::.cell w 8 lg::.cell w 9 eo::.cell w 10 ro::.free w 0::.free w 1::.free w 2::.free w 3::.free w 4::.free w 5::.free w 6::.free w 7::.free w 8::.free w 9::.free w 10::[]) w':=by
 have H:=Held.start w
 have EN:=zh (fun v=>zMq mo ra ki co st en ms bk lg eo ro v hm)
 go_enter Tryz.func95,Tryz.ntmps95
 go_wp2_with fail
 replace H:=H.box_11 w mo ra ki co st en ms bk lg eo ro 23 rfl
 with_reducible refine (EN.out _).mono ?_
 rintro e w1 ⟨rfl,hb⟩
 have hlt:=hb.size
 rw[World.size_alloc] at hlt
 replace hlt:w.heap.size<w1.heap.size:=hlt
 replace H:=H.below hb
 clear hb
 obtain⟨ct0,ct1,ct2,ct3,ct4,ct5,ct6,ct7,ct8,ct9,ct10⟩:=H.cells11 w
 have lt:=zA0 ct0
 go_wp2_with fail
 clear ct0 ct1 ct2 ct3 ct4 ct5 ct6 ct7 ct8 ct9 ct10 lt
 replace H:=H.lone w1 (.int .i64 (Tm.mk mo ra ki co st en ms bk lg eo ro).an) 3 rfl
 replace H:=H.lone (w1+1) (.int .i64 (Tm.mk mo ra ki co st en ms bk lg eo ro).ap) 3 zs
 go_ret
 exact⟨w1,rfl,hlt,zs,H⟩
theorem zL0 {W W':World} (h:Below W W W'):W.grownBy W' none:=⟨h.os,h.tape,h.output,h.size,fun k hk _=>h.block k hk⟩
theorem zFk {β:Type} {B:Nat} {J:β→World→Prop} (hJ:AbidesFrom B J) {s:β} {W W':World} (h:J s W) (hb:Below W W W'):J s W':=hJ s W W' none h (zL0 hb) (fun r e=>by cases e)
theorem KpS.below {n₀ S:Nat} {W W' W'':World} (h:KpS n₀ S W W') (hb:Below W' W' W'') (hn:n₀≤W'.heap.size):KpS n₀ S W W'':=h.trans (KpS.of_below hb hn)
theorem Lens.kps {n₀ S:Nat} {W W':World} (h:Lens W) (hk:KpS n₀ S W W') (hg:9<n₀∧9≠S):Lens W':=fun i hi=>(hk.cell (o:=i) hg.1 hg.2).trans (h i hi)
theorem mul_bd {k a:Int} (h0:0≤k) (h1:k≤1100) (h2 : -100≤a) (h3:a≤100) : -110000≤k*a∧k*a≤110000:=by
 have x:=Int.mul_le_mul_of_nonneg_left h3 h0
 have y:=Int.mul_le_mul_of_nonneg_left h2 h0
 omega
theorem zq5st {P:Prop} (h:P:=by
 rcases Nat.lt_or_ge k m with g | g
 ·rcases Nat.eq_zero_or_pos k with z | z
  ·subst z;exact absurd HWk.out.e0 hE
  ·exact absurd (HWk.out.mid k z g).1 hE
 ·omega):P:=h
theorem zU0 (n:Nat) (hn:1≤n) (l Ba Bp Bt n₀ S:Nat) (mo ra ki co st en ms:Int) (bk lg eo:Bool) (ro:Int) (X E:Nat→Int) (m:Nat) (HWk:Hid ((Tm.mk mo ra ki co st en ms bk lg eo ro).Walk X E m)) (ap:Int) (hap:(Tm.mk mo ra ki co st en ms bk lg eo ro).ap=ap) (an:Int) (han:(Tm.mk mo ra ki co st en ms bk lg eo ro).an=an) (hab : -100≤ap∧ap≤100)
  (la:Ba<n₀∧Ba≠S) (lp:Bp<n₀∧Bp≠S) (lt:Bt<n₀∧Bt≠S) (lg':9<n₀∧9≠S) (hlast:Bp+1=n₀) (J Jx:List Int→World→Prop) (W:World) (hJ:AbidesFrom W.heap.size J)
  (hY:∀pre x W,J pre W→pre.length<gl E m→YieldAt Fence.wide (n-1) Tryz.prog l #[.int .i64 x] W fun e W'=>
   (e=.returned true∧J (pre++[x]) W'∧KpS n₀ S W W')∨(e=.returned false∧Jx (pre++[x]) W'))
  (hL:Lens W) (ca:W.cell? ⟨Ba,0,none⟩=some (.int .i64 an)) (cp:W.cell? ⟨Bp,0,none⟩=some (.int .i64 ap)) (c0:W.cell? ⟨Bt,0,none⟩=some (.int .i64 mo)) (c1:W.cell? ⟨Bt,1,none⟩=some (.int .i64 ra)) (c2:W.cell? ⟨Bt,2,none⟩=some (.int .i64 ki)) (c3:W.cell? ⟨Bt,3,none⟩=some (.int .i64 co)) (c4:W.cell? ⟨Bt,4,none⟩=some (.int .i64 st)) (c5:W.cell? ⟨Bt,5,none⟩=some (.int .i64 en)) (c6:W.cell? ⟨Bt,6,none⟩=some (.int .i64 ms)) (c7:W.cell? ⟨Bt,7,none⟩=some (.bool bk)) (c8:W.cell? ⟨Bt,8,none⟩=some (.bool lg)) (c9:W.cell? ⟨Bt,9,none⟩=some (.bool eo)) (c10:W.cell? ⟨Bt,10,none⟩=some (.int .i64 ro)) (h0:J [] W) :
  CallsIn Fence.wide n Tryz.prog 109 #[.func (.yield l) #[] #[],.pointer (some ⟨Ba,0,none⟩),.pointer (some ⟨Bp,0,none⟩),.pointer (some ⟨Bt,0,none⟩)] W fun e W'=>(∃v,e=.returned v) ∧
   ((∃ys,ys=dl X (gl E m)∧J ys W')∨(∃pre,True∧Jx pre W')):=by
 have HMv:=zh (fun (k:Nat) (q:Int) (v:World) (hq:(k:Int)*ap=q) (h:Lens v)=>move_any an q (X k) (E k) eo v h (by rw[←hq,←hap,←han];exact HWk.out.mv k))
 have HBt:=zh (fun x b v h=>zGb mo ra ki co st en ms bk lg eo ro x b v h)
 have one:=HWk.out.one
 have top:=HWk.out.top
 have HL:=zh hL
 have HY:=zh hY
 clear hL hap han hY
 refine callsIn_of_wp Tryz.func109 rfl trivial ?_ rfl
 simp only[Tryz.ntmps109,List.size_toArray,List.length_cons,List.length_nil,Nat.reduceAdd,Nat.reduceSub,Array.replicate_succ,Array.replicate_zero,List.push_toArray,List.append_toArray,List.nil_append,List.cons_append]
 gi_wp2
 gi_loopw [5,6,7] (fun kk dd ee wr=>∃k:Nat,k≤m∧kk=.int .i64 k∧J (dl X k) wr∧KpS n₀ S W wr) (fun kk _ _ _=>m-(intOf kk).toNat)
 case atStart=>exact⟨0,Nat.zero_le _,rfl,h0,KpS.refl _ _ _⟩
 case round=>
  obtain⟨k,hk,rfl,hJs,hnx⟩:=hrel
  have da:=(hnx.cell (o:=0) la.1 la.2).trans ca
  have dp:=(hnx.cell (o:=0) lp.1 lp.2).trans cp
  have d9:=(hnx.cell (o:=9) lt.1 lt.2).trans c9
  have hn0:n₀≤wr.heap.size:=by have:=zA0 dp;omega
  have hLr:=zh (HL.out.kps hnx lg')
  obtain⟨q,hq⟩:∃q,(k:Int)*ap=q:=⟨_,rfl⟩
  have bq:=mul_bd (k:=(k:Int)) zo zo hab.1 hab.2
  rw[hq] at bq
  have MV:=zh (fun v h=>HMv.out k q v hq h)
  have HN:=zh hnx
  clear hnx
  gi_wp2_with fail
  clear hq
  refine⟨trivial,?_⟩
  refine (callsIn_wide.2 (MV.out _ hLr.out)).mono ?_
  rintro e w2 ⟨rfl,hb⟩
  have hJ2:J (dl X k) w2:=zFk hJ hJs hb
  have HN2:=zh (HN.out.below hb hn0)
  have hn2:n₀≤w2.heap.size:=Nat.le_trans hn0 hb.size
  clear hJs HN MV hLr da dp d9 hb hn0
  by_cases hE:E k=0
  ·have hlen:(dl X k).length<gl E m:=by
    rw[zB7]
    unfold gl
    split
    ·omega
    ·next c=>
     have:k≠m:=fun e=>c (e▸hE)
     omega
   obtain⟨fn,tmps,assign,body,hy,hR⟩:=HY.out (dl X k) (X k) w2 hJ2 hlen
   rw[←zF7] at hR
   have EZ:=zh hE
   rw[hE]
   clear hE
   gi_wp2
   refine hR.mono ?_
   rintro e W3 (⟨rfl,hJ3,hk3⟩ | ⟨rfl,hJx3⟩)
   ·have HN3:=zh (HN2.out.trans hk3)
    clear hR hy hk3
    by_cases hz:k=0
    ·subst hz
     gi_wp2
     refine⟨trivial,?_⟩
     gi_wp2
     go_roundw
     case rel=>exact⟨1,one,by go_num,hJ3,HN3.out⟩
     case measure=>simp[intOf];omega
    ·have d0:=(HN3.out.cell (o:=0) lt.1 lt.2).trans c0
     have d1:=(HN3.out.cell (o:=1) lt.1 lt.2).trans c1
     have d2:=(HN3.out.cell (o:=2) lt.1 lt.2).trans c2
     have d3:=(HN3.out.cell (o:=3) lt.1 lt.2).trans c3
     have d4:=(HN3.out.cell (o:=4) lt.1 lt.2).trans c4
     have d5:=(HN3.out.cell (o:=5) lt.1 lt.2).trans c5
     have d6:=(HN3.out.cell (o:=6) lt.1 lt.2).trans c6
     have d7:=(HN3.out.cell (o:=7) lt.1 lt.2).trans c7
     have d8:=(HN3.out.cell (o:=8) lt.1 lt.2).trans c8
     have d9:=(HN3.out.cell (o:=9) lt.1 lt.2).trans c9
     have d10:=(HN3.out.cell (o:=10) lt.1 lt.2).trans c10
     have n3:n₀≤W3.heap.size:=by have:=zA0 ((HN3.out.cell (o:=0) lp.1 lp.2).trans cp);omega
     obtain⟨b,hb⟩:∃b,(Tm.mk mo ra ki co st en ms bk lg eo ro).btw (X k)=b:=⟨_,rfl⟩
     have BT:=zh (fun v=>HBt.out (X k) b v hb)
     have HB:=zh hb
     clear hb
     have kp:decide ((k:Int)>0)=true:=decide_eq_true zo
     gi_wp2_with fail
     refine⟨trivial,?_⟩
     refine (callsIn_wide.2 (BT.out _)).mono ?_
     rintro e w4 ⟨rfl,hb4⟩
     have hJ4:J (dl X (k+1)) w4:=zFk hJ hJ3 hb4
     have HN4:=zh (HN3.out.below hb4 n3)
     clear hJ3 hb4 BT HN3 HN2 d0 d1 d2 d3 d4 d5 d6 d7 d8 d9 d10
     cases b
     ·have hkm:k=m:=by
       rcases Nat.lt_or_ge k m with g | g
       ·have:=(Tm.btw_iff _ _).2 (HWk.out.mid k zo g).2
        rw[HB.out] at this
        cases this
       ·omega
      subst hkm
      have FIN:=zh (show dl X (k+1)=dl X (gl E k) by unfold gl;rw[if_pos EZ.out])
      gi_wp2
      refine bodyPost_ret (results_none rfl _ _ _) rfl ?_
      exact⟨⟨_,rfl⟩,.inl ⟨_,FIN.out,hJ4⟩⟩
     ·have hkm:k<m:=by
       rcases Nat.lt_or_ge k m with g | g
       ·exact g
       ·obtain rfl:k=m:=zo
        exact absurd ((Tm.btw_iff _ _).1 HB.out) (HWk.out.last EZ.out)
      gi_wp2
      go_roundw
      case rel=>exact⟨k+1,hkm,by go_num,hJ4,HN4.out⟩
      case measure=>simp[intOf];omega
   ·exact zqynm
  ·have hkm:k=m:=by
    exact zq5st
   subst hkm
   have e3:E k=3:=(HWk.out.code k).resolve_left hE
   have FIN:=zh (show dl X k=dl X (gl E k) by unfold gl;rw[if_neg hE])
   rw[e3]
   clear hE e3
   gi_wp2
   refine⟨fun _ h=>(by cases h),?_⟩
   gi_wp2
   refine bodyPost_ret (results_none rfl _ _ _) rfl ?_
   exact⟨⟨_,rfl⟩,.inl ⟨_,FIN.out,hJ2⟩⟩
end Go.Proofs.YtpfgdfpaoldhcaaGreatDoor
namespace Go.Proofs.YtpfgdfpaoldhcaaGreatDoor
open Go.RowKit
theorem zqor3 {P:Prop} (h:P:=by
 go_enter Tryz.func29,Tryz.ntmps29
 go_wp2
 go_ret
 exact⟨rfl,rfl⟩):P:=h
theorem zSv (w:World):Calls Tryz.prog 29 #[(1:Int)] w fun e w'=>e=.returned (12:Int)∧w=w':=by
 exact zqor3
theorem zSw (w:World):Calls Tryz.prog 29 #[(2:Int)] w fun e w'=>e=.returned (6:Int)∧w=w':=by
 exact zqor3
theorem zSx (w:World):Calls Tryz.prog 29 #[(3:Int)] w fun e w'=>e=.returned (4:Int)∧w=w':=by
 exact zqor3
theorem zSy (w:World):Calls Tryz.prog 29 #[(4:Int)] w fun e w'=>e=.returned (3:Int)∧w=w':=by
 exact zqor3
theorem zSz (w:World):Calls Tryz.prog 29 #[(6:Int)] w fun e w'=>e=.returned (2:Int)∧w=w':=by
 exact zqor3
theorem zOr (w:World):Calls Tryz.prog 29 #[(12:Int)] w fun e w'=>e=.returned (1:Int)∧w=w':=by
 exact zqor3
theorem zLp (m:Int) (w:World) (h:¬Mo m):Calls Tryz.prog 29 #[m] w fun e w'=>e=.returned (0:Int)∧w=w':=by
 unfold Mo at h
 have n1:(m==1)=false:=beq_eq_false_iff_ne.2 zo
 have n2:(m==2)=false:=beq_eq_false_iff_ne.2 zo
 have n3:(m==3)=false:=beq_eq_false_iff_ne.2 zo
 have n4:(m==4)=false:=beq_eq_false_iff_ne.2 zo
 have n6:(m==6)=false:=beq_eq_false_iff_ne.2 zo
 have n12:(m==12)=false:=beq_eq_false_iff_ne.2 zo
 clear h
 exact zqor3
theorem zSu (m r:Int) (w:World) (h:fr m=r):Calls Tryz.prog 29 #[m] w fun e w'=>e=.returned r∧Below w w w':=by
 subst h
 by_cases h:Mo m
 ·rcases h with rfl | rfl | rfl | rfl | rfl | rfl
  ·exact Calls.same (zSv w)
  ·exact Calls.same (zSw w)
  ·exact Calls.same (zSx w)
  ·exact Calls.same (zSy w)
  ·exact Calls.same (zSz w)
  ·exact Calls.same (zOr w)
 ·rw[fr_no h]
  exact Calls.same (zLp m w h)
theorem zq5ju {P:Prop} (h:P:=by
 go_enter Tryz.func121,Tryz.ntmps121
 go_wp2
 go_ret
 exact⟨rfl,rfl⟩):P:=h
theorem zOt (w:World) (hL:FactsT w):Calls Tryz.prog 121 #[(0:Int)] w fun e w'=>e=.returned (.string (rn 0))∧w=w':=by
 have z:=hL.2.1 0 zd
 rw[show (((0:Nat)):Int)=0 from rfl] at z
 have lz:=zA0 z
 clear hL
 exact zq5ju
theorem zOu (w:World) (hL:FactsT w):Calls Tryz.prog 121 #[(1:Int)] w fun e w'=>e=.returned (.string (rn 1))∧w=w':=by
 have z:=hL.2.1 1 zd
 rw[show (((1:Nat)):Int)=1 from rfl] at z
 have lz:=zA0 z
 clear hL
 exact zq5ju
theorem zOv (w:World) (hL:FactsT w):Calls Tryz.prog 121 #[(2:Int)] w fun e w'=>e=.returned (.string (rn 2))∧w=w':=by
 have z:=hL.2.1 2 zd
 rw[show (((2:Nat)):Int)=2 from rfl] at z
 have lz:=zA0 z
 clear hL
 exact zq5ju
theorem zOw (w:World) (hL:FactsT w):Calls Tryz.prog 121 #[(3:Int)] w fun e w'=>e=.returned (.string (rn 3))∧w=w':=by
 have z:=hL.2.1 3 zd
 rw[show (((3:Nat)):Int)=3 from rfl] at z
 have lz:=zA0 z
 clear hL
 exact zq5ju
theorem zOx (w:World) (hL:FactsT w):Calls Tryz.prog 121 #[(4:Int)] w fun e w'=>e=.returned (.string (rn 4))∧w=w':=by
 have z:=hL.2.1 4 zd
 rw[show (((4:Nat)):Int)=4 from rfl] at z
 have lz:=zA0 z
 clear hL
 exact zq5ju
theorem zK5 (k:Int) (w:World) (h:k<0∨4<k):Calls Tryz.prog 121 #[k] w fun e w'=>e=.returned (.string (rn k))∧w=w':=by
 rw[rn_out k h]
 by_cases h0:k<0
 ·have t0:decide (k<0)=true:=decide_eq_true h0
  exact zq5ju
 ·have t0:decide (k<0)=false:=decide_eq_false h0
  have t1:decide (k≥5)=true:=decide_eq_true zo
  exact zq5ju
theorem rlname15 (k:Int) (s:ByteArray) (w:World) (hL:FactsT w) (hs:rn k=s):Calls Tryz.prog 121 #[k] w fun e w'=>e=.returned (.string s)∧Below w w w':=by
 subst hs
 by_cases h:k<0∨4<k
 ·exact Calls.same (zK5 k w h)
 ·rcases of5 k zo with rfl | rfl | rfl | rfl | rfl
  ·exact Calls.same (zOt w hL)
  ·exact Calls.same (zOu w hL)
  ·exact Calls.same (zOv w hL)
  ·exact Calls.same (zOw w hL)
  ·exact Calls.same (zOx w hL)
theorem zqw8w {P:Prop} (h:P:=by
 go_enter Tryz.func119,Tryz.ntmps119
 go_wp2
 go_ret
 exact⟨rfl,rfl⟩):P:=h
theorem zUb (w:World) (hL:FactsT w):Calls Tryz.prog 119 #[(0:Int)] w fun e w'=>e=.returned (.string (tn 0))∧w=w':=by
 have z:=hL.2.2.1 0 zd
 rw[show (((0:Nat)):Int)=0 from rfl] at z
 have lz:=zA0 z
 clear hL
 exact zqw8w
theorem zUc (w:World) (hL:FactsT w):Calls Tryz.prog 119 #[(1:Int)] w fun e w'=>e=.returned (.string (tn 1))∧w=w':=by
 have z:=hL.2.2.1 1 zd
 rw[show (((1:Nat)):Int)=1 from rfl] at z
 have lz:=zA0 z
 clear hL
 exact zqw8w
theorem zUd (w:World) (hL:FactsT w):Calls Tryz.prog 119 #[(2:Int)] w fun e w'=>e=.returned (.string (tn 2))∧w=w':=by
 have z:=hL.2.2.1 2 zd
 rw[show (((2:Nat)):Int)=2 from rfl] at z
 have lz:=zA0 z
 clear hL
 exact zqw8w
theorem zMc (k:Int) (w:World) (h:k<0∨2<k):Calls Tryz.prog 119 #[k] w fun e w'=>e=.returned (.string (tn k))∧w=w':=by
 rw[tn_out k h]
 by_cases h0:k<0
 ·have t0:decide (k<0)=true:=decide_eq_true h0
  exact zqw8w
 ·have t0:decide (k<0)=false:=decide_eq_false h0
  have t1:decide (k≥3)=true:=decide_eq_true zo
  exact zqw8w
theorem tname15 (k:Int) (s:ByteArray) (w:World) (hL:FactsT w) (hs:tn k=s):Calls Tryz.prog 119 #[k] w fun e w'=>e=.returned (.string s)∧Below w w w':=by
 subst hs
 by_cases h:k<0∨2<k
 ·exact Calls.same (zMc k w h)
 ·rcases of3 k zo with rfl | rfl | rfl
  ·exact Calls.same (zUb w hL)
  ·exact Calls.same (zUc w hL)
  ·exact Calls.same (zUd w hL)
theorem zqbjy {P:Prop} (h:P:=by
 go_enter Tryz.func87,Tryz.ntmps87
 go_wp2
 go_ret
 exact⟨rfl,rfl⟩):P:=h
theorem zU5 (w:World):Calls Tryz.prog 87 #[(1:Int)] w fun e w'=>e=.returned (12:Int)∧w=w':=by
 exact zqbjy
theorem zU6 (w:World):Calls Tryz.prog 87 #[(2:Int)] w fun e w'=>e=.returned (6:Int)∧w=w':=by
 exact zqbjy
theorem zU7 (w:World):Calls Tryz.prog 87 #[(3:Int)] w fun e w'=>e=.returned (4:Int)∧w=w':=by
 exact zqbjy
theorem zU8 (w:World):Calls Tryz.prog 87 #[(4:Int)] w fun e w'=>e=.returned (3:Int)∧w=w':=by
 exact zqbjy
theorem zU9 (w:World):Calls Tryz.prog 87 #[(6:Int)] w fun e w'=>e=.returned (2:Int)∧w=w':=by
 exact zqbjy
theorem zPf (w:World):Calls Tryz.prog 87 #[(12:Int)] w fun e w'=>e=.returned (1:Int)∧w=w':=by
 exact zqbjy
theorem zMb (m:Int) (w:World) (h:¬Mo m):Calls Tryz.prog 87 #[m] w fun e w'=>e=.returned (0:Int)∧w=w':=by
 unfold Mo at h
 have n1:(m==1)=false:=beq_eq_false_iff_ne.2 zo
 have n2:(m==2)=false:=beq_eq_false_iff_ne.2 zo
 have n3:(m==3)=false:=beq_eq_false_iff_ne.2 zo
 have n4:(m==4)=false:=beq_eq_false_iff_ne.2 zo
 have n6:(m==6)=false:=beq_eq_false_iff_ne.2 zo
 have n12:(m==12)=false:=beq_eq_false_iff_ne.2 zo
 clear h
 exact zqbjy
theorem zU4 (m r:Int) (w:World) (h:fr m=r):Calls Tryz.prog 87 #[m] w fun e w'=>e=.returned r∧Below w w w':=by
 subst h
 by_cases h:Mo m
 ·rcases h with rfl | rfl | rfl | rfl | rfl | rfl
  ·exact Calls.same (zU5 w)
  ·exact Calls.same (zU6 w)
  ·exact Calls.same (zU7 w)
  ·exact Calls.same (zU8 w)
  ·exact Calls.same (zU9 w)
  ·exact Calls.same (zPf w)
 ·rw[fr_no h]
  exact Calls.same (zMb m w h)
theorem zRx (k:Int):(nm k).toList.isEmpty=decide (k<0∨6<k):=by
 by_cases h:k<0∨6<k
 ·rw[nm_out k h,decide_eq_true h];decide +kernel
 ·rw[decide_eq_false h]
  rcases of7 k zo with rfl | rfl | rfl | rfl | rfl | rfl | rfl <;> decide +kernel
theorem cname_is (k:Int) (s:ByteArray) (w:World) (hs:nm k=s):Calls Tryz.prog 120 #[k] w fun e w'=>e=.returned (.string s)∧Below w w w':=by
 subst hs;exact zQj k w
theorem zqgnj {P:Prop} (h:P:=by
 clear hg h0 h1 h2 h3 n01 n02 n03 n12 n13 n23 r0 r1 r2 r3 l0 l1 l2 l3
 go_wp2_with fail
 go_ret
 exact⟨rfl,H.old⟩):P:=h
theorem rcode_0 (s:ByteArray) (a0 a1 a2 a3:Addr) (w:World) (h:ErrT a0 a1 a2 a3 w):Calls Tryz.prog 118 #[.agg #[.string s,.iface 270 (.pointer (some a0))]] w fun e w'=>e=.returned (1:Int)∧Below w w w':=by
 have H:=(Held.start w).add (f:=zGk a0 a1 a2 a3) h
 clear h
 go_enter Tryz.func118,Tryz.ntmps118
 obtain⟨hg,b0,b1,b2,b3,s0,s1,s2,s3,⟨h0,h1,h2,h3⟩,⟨n01,n02,n03,n12,n13,n23⟩,r0,r1,r2,r3⟩:=H.errT
 have l0:=zA0 h0
 have l1:=zA0 h1
 have l2:=zA0 h2
 have l3:=zA0 h3
 go_wp2_with fail
 clear hg h0 h1 h2 h3 n01 n02 n03 n12 n13 n23 r0 r1 r2 r3 l0 l1 l2 l3
 replace H:=H.pair w (.string s) (.iface 270 (.pointer (some a0))) 152 rfl
 obtain⟨hg,b0,b1,b2,b3,s0,s1,s2,s3,⟨h0,h1,h2,h3⟩,⟨n01,n02,n03,n12,n13,n23⟩,r0,r1,r2,r3⟩:=H.errT
 have l0:=zA0 h0
 have l1:=zA0 h1
 have l2:=zA0 h2
 have l3:=zA0 h3
 revert H
 with_reducible refine zG (fun _=>zGp s a0 a0 _ rfl) ?_
 intro w1 H
 exact zqgnj
theorem rcode_1 (s:ByteArray) (a0 a1 a2 a3:Addr) (w:World) (h:ErrT a0 a1 a2 a3 w):Calls Tryz.prog 118 #[.agg #[.string s,.iface 270 (.pointer (some a1))]] w fun e w'=>e=.returned (3:Int)∧Below w w w':=by
 have H:=(Held.start w).add (f:=zGk a0 a1 a2 a3) h
 clear h
 go_enter Tryz.func118,Tryz.ntmps118
 obtain⟨hg,b0,b1,b2,b3,s0,s1,s2,s3,⟨h0,h1,h2,h3⟩,⟨n01,n02,n03,n12,n13,n23⟩,r0,r1,r2,r3⟩:=H.errT
 have l0:=zA0 h0
 have l1:=zA0 h1
 have l2:=zA0 h2
 have l3:=zA0 h3
 go_wp2_with fail
 clear hg h0 h1 h2 h3 n01 n02 n03 n12 n13 n23 r0 r1 r2 r3 l0 l1 l2 l3
 replace H:=H.pair w (.string s) (.iface 270 (.pointer (some a1))) 152 rfl
 obtain⟨hg,b0,b1,b2,b3,s0,s1,s2,s3,⟨h0,h1,h2,h3⟩,⟨n01,n02,n03,n12,n13,n23⟩,r0,r1,r2,r3⟩:=H.errT
 have l0:=zA0 h0
 have l1:=zA0 h1
 have l2:=zA0 h2
 have l3:=zA0 h3
 revert H
 with_reducible refine zG (fun _=>zDp s a1 a0 _ b1 b0 s1 s0 (Ne.symm n01) r1 r0) ?_
 intro w1 H
 clear hg h0 h1 h2 h3 n01 n02 n03 n12 n13 n23 r0 r1 r2 r3 l0 l1 l2 l3
 obtain⟨hg,b0,b1,b2,b3,s0,s1,s2,s3,⟨h0,h1,h2,h3⟩,⟨n01,n02,n03,n12,n13,n23⟩,r0,r1,r2,r3⟩:=H.errT
 have l0:=zA0 h0
 have l1:=zA0 h1
 have l2:=zA0 h2
 have l3:=zA0 h3
 obtain⟨cr0,cr1⟩:=H.cells2 w
 have lr:=zA0 cr0
 go_wp2_with fail
 clear cr0 cr1 lr
 clear hg h0 h1 h2 h3 n01 n02 n03 n12 n13 n23 r0 r1 r2 r3 l0 l1 l2 l3
 obtain⟨hg,b0,b1,b2,b3,s0,s1,s2,s3,⟨h0,h1,h2,h3⟩,⟨n01,n02,n03,n12,n13,n23⟩,r0,r1,r2,r3⟩:=H.errT
 have l0:=zA0 h0
 have l1:=zA0 h1
 have l2:=zA0 h2
 have l3:=zA0 h3
 revert H
 with_reducible refine zG (fun _=>zGp s a1 a1 _ rfl) ?_
 intro w2 H
 exact zqgnj
theorem rcode_2 (s:ByteArray) (a0 a1 a2 a3:Addr) (w:World) (h:ErrT a0 a1 a2 a3 w):Calls Tryz.prog 118 #[.agg #[.string s,.iface 270 (.pointer (some a2))]] w fun e w'=>e=.returned (4:Int)∧Below w w w':=by
 have H:=(Held.start w).add (f:=zGk a0 a1 a2 a3) h
 clear h
 go_enter Tryz.func118,Tryz.ntmps118
 obtain⟨hg,b0,b1,b2,b3,s0,s1,s2,s3,⟨h0,h1,h2,h3⟩,⟨n01,n02,n03,n12,n13,n23⟩,r0,r1,r2,r3⟩:=H.errT
 have l0:=zA0 h0
 have l1:=zA0 h1
 have l2:=zA0 h2
 have l3:=zA0 h3
 go_wp2_with fail
 clear hg h0 h1 h2 h3 n01 n02 n03 n12 n13 n23 r0 r1 r2 r3 l0 l1 l2 l3
 replace H:=H.pair w (.string s) (.iface 270 (.pointer (some a2))) 152 rfl
 obtain⟨hg,b0,b1,b2,b3,s0,s1,s2,s3,⟨h0,h1,h2,h3⟩,⟨n01,n02,n03,n12,n13,n23⟩,r0,r1,r2,r3⟩:=H.errT
 have l0:=zA0 h0
 have l1:=zA0 h1
 have l2:=zA0 h2
 have l3:=zA0 h3
 revert H
 with_reducible refine zG (fun _=>zDp s a2 a0 _ b2 b0 s2 s0 (Ne.symm n02) r2 r0) ?_
 intro w1 H
 clear hg h0 h1 h2 h3 n01 n02 n03 n12 n13 n23 r0 r1 r2 r3 l0 l1 l2 l3
 obtain⟨hg,b0,b1,b2,b3,s0,s1,s2,s3,⟨h0,h1,h2,h3⟩,⟨n01,n02,n03,n12,n13,n23⟩,r0,r1,r2,r3⟩:=H.errT
 have l0:=zA0 h0
 have l1:=zA0 h1
 have l2:=zA0 h2
 have l3:=zA0 h3
 obtain⟨cr0,cr1⟩:=H.cells2 w
 have lr:=zA0 cr0
 go_wp2_with fail
 clear cr0 cr1 lr
 clear hg h0 h1 h2 h3 n01 n02 n03 n12 n13 n23 r0 r1 r2 r3 l0 l1 l2 l3
 obtain⟨hg,b0,b1,b2,b3,s0,s1,s2,s3,⟨h0,h1,h2,h3⟩,⟨n01,n02,n03,n12,n13,n23⟩,r0,r1,r2,r3⟩:=H.errT
 have l0:=zA0 h0
 have l1:=zA0 h1
 have l2:=zA0 h2
 have l3:=zA0 h3
 revert H
 with_reducible refine zG (fun _=>zDp s a2 a1 _ b2 b1 s2 s1 (Ne.symm n12) r2 r1) ?_
 intro w2 H
 clear hg h0 h1 h2 h3 n01 n02 n03 n12 n13 n23 r0 r1 r2 r3 l0 l1 l2 l3
 obtain⟨hg,b0,b1,b2,b3,s0,s1,s2,s3,⟨h0,h1,h2,h3⟩,⟨n01,n02,n03,n12,n13,n23⟩,r0,r1,r2,r3⟩:=H.errT
 have l0:=zA0 h0
 have l1:=zA0 h1
 have l2:=zA0 h2
 have l3:=zA0 h3
 obtain⟨cr0,cr1⟩:=H.cells2 w
 have lr:=zA0 cr0
 go_wp2_with fail
 clear cr0 cr1 lr
 clear hg h0 h1 h2 h3 n01 n02 n03 n12 n13 n23 r0 r1 r2 r3 l0 l1 l2 l3
 obtain⟨hg,b0,b1,b2,b3,s0,s1,s2,s3,⟨h0,h1,h2,h3⟩,⟨n01,n02,n03,n12,n13,n23⟩,r0,r1,r2,r3⟩:=H.errT
 have l0:=zA0 h0
 have l1:=zA0 h1
 have l2:=zA0 h2
 have l3:=zA0 h3
 revert H
 with_reducible refine zG (fun _=>zGp s a2 a2 _ rfl) ?_
 intro w3 H
 exact zqgnj
theorem rcode_3 (s:ByteArray) (a0 a1 a2 a3:Addr) (w:World) (h:ErrT a0 a1 a2 a3 w):Calls Tryz.prog 118 #[.agg #[.string s,.iface 270 (.pointer (some a3))]] w fun e w'=>e=.returned (2:Int)∧Below w w w':=by
 have H:=(Held.start w).add (f:=zGk a0 a1 a2 a3) h
 clear h
 go_enter Tryz.func118,Tryz.ntmps118
 obtain⟨hg,b0,b1,b2,b3,s0,s1,s2,s3,⟨h0,h1,h2,h3⟩,⟨n01,n02,n03,n12,n13,n23⟩,r0,r1,r2,r3⟩:=H.errT
 have l0:=zA0 h0
 have l1:=zA0 h1
 have l2:=zA0 h2
 have l3:=zA0 h3
 go_wp2_with fail
 clear hg h0 h1 h2 h3 n01 n02 n03 n12 n13 n23 r0 r1 r2 r3 l0 l1 l2 l3
 replace H:=H.pair w (.string s) (.iface 270 (.pointer (some a3))) 152 rfl
 obtain⟨hg,b0,b1,b2,b3,s0,s1,s2,s3,⟨h0,h1,h2,h3⟩,⟨n01,n02,n03,n12,n13,n23⟩,r0,r1,r2,r3⟩:=H.errT
 have l0:=zA0 h0
 have l1:=zA0 h1
 have l2:=zA0 h2
 have l3:=zA0 h3
 revert H
 with_reducible refine zG (fun _=>zDp s a3 a0 _ b3 b0 s3 s0 (Ne.symm n03) r3 r0) ?_
 intro w1 H
 clear hg h0 h1 h2 h3 n01 n02 n03 n12 n13 n23 r0 r1 r2 r3 l0 l1 l2 l3
 obtain⟨hg,b0,b1,b2,b3,s0,s1,s2,s3,⟨h0,h1,h2,h3⟩,⟨n01,n02,n03,n12,n13,n23⟩,r0,r1,r2,r3⟩:=H.errT
 have l0:=zA0 h0
 have l1:=zA0 h1
 have l2:=zA0 h2
 have l3:=zA0 h3
 obtain⟨cr0,cr1⟩:=H.cells2 w
 have lr:=zA0 cr0
 go_wp2_with fail
 clear cr0 cr1 lr
 clear hg h0 h1 h2 h3 n01 n02 n03 n12 n13 n23 r0 r1 r2 r3 l0 l1 l2 l3
 obtain⟨hg,b0,b1,b2,b3,s0,s1,s2,s3,⟨h0,h1,h2,h3⟩,⟨n01,n02,n03,n12,n13,n23⟩,r0,r1,r2,r3⟩:=H.errT
 have l0:=zA0 h0
 have l1:=zA0 h1
 have l2:=zA0 h2
 have l3:=zA0 h3
 revert H
 with_reducible refine zG (fun _=>zDp s a3 a1 _ b3 b1 s3 s1 (Ne.symm n13) r3 r1) ?_
 intro w2 H
 clear hg h0 h1 h2 h3 n01 n02 n03 n12 n13 n23 r0 r1 r2 r3 l0 l1 l2 l3
 obtain⟨hg,b0,b1,b2,b3,s0,s1,s2,s3,⟨h0,h1,h2,h3⟩,⟨n01,n02,n03,n12,n13,n23⟩,r0,r1,r2,r3⟩:=H.errT
 have l0:=zA0 h0
 have l1:=zA0 h1
 have l2:=zA0 h2
 have l3:=zA0 h3
 obtain⟨cr0,cr1⟩:=H.cells2 w
 have lr:=zA0 cr0
 go_wp2_with fail
 clear cr0 cr1 lr
 clear hg h0 h1 h2 h3 n01 n02 n03 n12 n13 n23 r0 r1 r2 r3 l0 l1 l2 l3
 obtain⟨hg,b0,b1,b2,b3,s0,s1,s2,s3,⟨h0,h1,h2,h3⟩,⟨n01,n02,n03,n12,n13,n23⟩,r0,r1,r2,r3⟩:=H.errT
 have l0:=zA0 h0
 have l1:=zA0 h1
 have l2:=zA0 h2
 have l3:=zA0 h3
 revert H
 with_reducible refine zG (fun _=>zDp s a3 a2 _ b3 b2 s3 s2 (Ne.symm n23) r3 r2) ?_
 intro w3 H
 exact zqgnj
theorem zU3 (w:World):Calls Tryz.prog 107 #[.nilIface] w fun e w'=>e=.returned (0:Int)∧Below w w w':=by
 have H:=Held.start w
 go_enter Tryz.func107,Tryz.ntmps107
 go_wp2_with fail
 replace H:=H.pair w (.string ⟨#[]⟩) .nilIface 152 rfl
 with_reducible refine (zQ0 _ _).mono ?_
 rintro e w1 ⟨rfl,rfl⟩
 go_wp2_with fail
 go_ret
 exact⟨rfl,H.old⟩
theorem zqgpi {P:Prop} (h:P:=by
 rw[hw]
 refine World.cell?_setCell_same' _ _ _ ?_
 rw[World.cell?_setCell_other _ _ _ _ zs]
 rw[World.cell?_alloc_lt _ _ _ zx,World.cell?_alloc_lt _ _ _ zx,World.cell?_alloc_lt _ _ _ zx,World.cell?_alloc_lt _ _ _ l0,c1]
 rfl):P:=h
theorem zqlw1 {P:Prop} (h:P:=by
 rintro e w2 ⟨rfl,hb⟩
 replace H:=H.below hb
 clear hb d0 d1 ld
 go_wp2_with fail
 go_ret
 exact⟨rfl,H.old⟩):P:=h
theorem tcode_0 (s:ByteArray) (a0 a1 a2 a3:Addr) (w:World) (h:ErrT a0 a1 a2 a3 w):Calls Tryz.prog 107 #[.iface 152 (.agg #[.string s,.iface 270 (.pointer (some a0))])] w fun e w'=>e=.returned (1:Int)∧Below w w w':=by
 have HE:=zh h
 have H:=(Held.start w).add (f:=.cell 4 0 _) h.1
 clear h
 go_enter Tryz.func107,Tryz.ntmps107
 go_wp2_with fail
 replace H:=H.pair w (.string ⟨#[]⟩) .nilIface 152 rfl
 with_reducible refine (zEk s 270 (.pointer (some a0)) (.string ⟨#[]⟩) .nilIface w.heap.size _ (H.cell _ _ _) (H.cell _ _ _) (H.cell _ _ _) (H.frozen _ _) (H.frozen _ _)).mono ?_
 rintro e w1 ⟨rfl,hw⟩
 have B0:=H.old
 obtain⟨c0,c1⟩:=H.cells2 w
 obtain⟨W0,hW0⟩:∃W0,w.alloc (.cells #[.string ⟨#[]⟩,.nilIface] 152)=W0:=⟨_,rfl⟩
 rw[hW0] at hw H c0 c1 B0
 have l0:=zA0 c0
 have B1:Below w w w1:=by
  exact zqgr0
 have d0:w1.cell? ⟨w,0,none⟩=some (.string s):=by
  exact zqo6k
 have d1:w1.cell? ⟨w,1,none⟩=some (.iface 270 (.pointer (some a0))):=by
  exact zqgpi
 clear hw H B0 c0 c1 l0 hW0
 have H:=((Held.start w).add (f:=zGk a0 a1 a2 a3) HE.out).below B1
 have ld:=zA0 d0
 go_wp2_with fail
 with_reducible refine (rcode_0 s a0 a1 a2 a3 _ (H.errT)).mono ?_
 exact zqlw1
theorem tcode_1 (s:ByteArray) (a0 a1 a2 a3:Addr) (w:World) (h:ErrT a0 a1 a2 a3 w):Calls Tryz.prog 107 #[.iface 152 (.agg #[.string s,.iface 270 (.pointer (some a1))])] w fun e w'=>e=.returned (3:Int)∧Below w w w':=by
 have HE:=zh h
 have H:=(Held.start w).add (f:=.cell 4 0 _) h.1
 clear h
 go_enter Tryz.func107,Tryz.ntmps107
 go_wp2_with fail
 replace H:=H.pair w (.string ⟨#[]⟩) .nilIface 152 rfl
 with_reducible refine (zEk s 270 (.pointer (some a1)) (.string ⟨#[]⟩) .nilIface w.heap.size _ (H.cell _ _ _) (H.cell _ _ _) (H.cell _ _ _) (H.frozen _ _) (H.frozen _ _)).mono ?_
 rintro e w1 ⟨rfl,hw⟩
 have B0:=H.old
 obtain⟨c0,c1⟩:=H.cells2 w
 obtain⟨W0,hW0⟩:∃W0,w.alloc (.cells #[.string ⟨#[]⟩,.nilIface] 152)=W0:=⟨_,rfl⟩
 rw[hW0] at hw H c0 c1 B0
 have l0:=zA0 c0
 have B1:Below w w w1:=by
  exact zqgr0
 have d0:w1.cell? ⟨w,0,none⟩=some (.string s):=by
  exact zqo6k
 have d1:w1.cell? ⟨w,1,none⟩=some (.iface 270 (.pointer (some a1))):=by
  exact zqgpi
 clear hw H B0 c0 c1 l0 hW0
 have H:=((Held.start w).add (f:=zGk a0 a1 a2 a3) HE.out).below B1
 have ld:=zA0 d0
 go_wp2_with fail
 with_reducible refine (rcode_1 s a0 a1 a2 a3 _ (H.errT)).mono ?_
 exact zqlw1
theorem tcode_2 (s:ByteArray) (a0 a1 a2 a3:Addr) (w:World) (h:ErrT a0 a1 a2 a3 w):Calls Tryz.prog 107 #[.iface 152 (.agg #[.string s,.iface 270 (.pointer (some a2))])] w fun e w'=>e=.returned (4:Int)∧Below w w w':=by
 have HE:=zh h
 have H:=(Held.start w).add (f:=.cell 4 0 _) h.1
 clear h
 go_enter Tryz.func107,Tryz.ntmps107
 go_wp2_with fail
 replace H:=H.pair w (.string ⟨#[]⟩) .nilIface 152 rfl
 with_reducible refine (zEk s 270 (.pointer (some a2)) (.string ⟨#[]⟩) .nilIface w.heap.size _ (H.cell _ _ _) (H.cell _ _ _) (H.cell _ _ _) (H.frozen _ _) (H.frozen _ _)).mono ?_
 rintro e w1 ⟨rfl,hw⟩
 have B0:=H.old
 obtain⟨c0,c1⟩:=H.cells2 w
 obtain⟨W0,hW0⟩:∃W0,w.alloc (.cells #[.string ⟨#[]⟩,.nilIface] 152)=W0:=⟨_,rfl⟩
 rw[hW0] at hw H c0 c1 B0
 have l0:=zA0 c0
 have B1:Below w w w1:=by
  exact zqgr0
 have d0:w1.cell? ⟨w,0,none⟩=some (.string s):=by
  exact zqo6k
 have d1:w1.cell? ⟨w,1,none⟩=some (.iface 270 (.pointer (some a2))):=by
  exact zqgpi
 clear hw H B0 c0 c1 l0 hW0
 have H:=((Held.start w).add (f:=zGk a0 a1 a2 a3) HE.out).below B1
 have ld:=zA0 d0
 go_wp2_with fail
 with_reducible refine (rcode_2 s a0 a1 a2 a3 _ (H.errT)).mono ?_
 exact zqlw1
theorem tcode_3 (s:ByteArray) (a0 a1 a2 a3:Addr) (w:World) (h:ErrT a0 a1 a2 a3 w):Calls Tryz.prog 107 #[.iface 152 (.agg #[.string s,.iface 270 (.pointer (some a3))])] w fun e w'=>e=.returned (2:Int)∧Below w w w':=by
 have HE:=zh h
 have H:=(Held.start w).add (f:=.cell 4 0 _) h.1
 clear h
 go_enter Tryz.func107,Tryz.ntmps107
 go_wp2_with fail
 replace H:=H.pair w (.string ⟨#[]⟩) .nilIface 152 rfl
 with_reducible refine (zEk s 270 (.pointer (some a3)) (.string ⟨#[]⟩) .nilIface w.heap.size _ (H.cell _ _ _) (H.cell _ _ _) (H.cell _ _ _) (H.frozen _ _) (H.frozen _ _)).mono ?_
 rintro e w1 ⟨rfl,hw⟩
 have B0:=H.old
 obtain⟨c0,c1⟩:=H.cells2 w
 obtain⟨W0,hW0⟩:∃W0,w.alloc (.cells #[.string ⟨#[]⟩,.nilIface] 152)=W0:=⟨_,rfl⟩
 rw[hW0] at hw H c0 c1 B0
 have l0:=zA0 c0
 have B1:Below w w w1:=by
  exact zqgr0
 have d0:w1.cell? ⟨w,0,none⟩=some (.string s):=by
  exact zqo6k
 have d1:w1.cell? ⟨w,1,none⟩=some (.iface 270 (.pointer (some a3))):=by
  exact zqgpi
 clear hw H B0 c0 c1 l0 hW0
 have H:=((Held.start w).add (f:=zGk a0 a1 a2 a3) HE.out).below B1
 have ld:=zA0 d0
 go_wp2_with fail
 with_reducible refine (rcode_3 s a0 a1 a2 a3 _ (H.errT)).mono ?_
 exact zqlw1
theorem zL2 (n y m d e:Int) (b:Bool) (w:World) (hL:FactsT w) (hd:zAf n y m d e) (hb:(e==0)=b):Calls Tryz.prog 122 #[n] w fun e w'=>e=.returned b∧Below w w w':=by
 have H:=(Held.start w).add (f:=zCm) hL
 have HD:=zh hd
 clear hL hd
 go_enter Tryz.func122,Tryz.ntmps122
 go_wp2_with fail
 revert H
 with_reducible refine zG (fun H=>zAx n y m d e _ (H.lensT) HD.out) ?_
 intro w1 H
 go_wp2_with fail
 go_ret
 exact⟨rfl,(H.alloc _).old⟩
theorem zRf (n:Int) (b:Bool) (w:World) (hL:FactsT w) (h:decide (1≤n∧n≤3652059)=b):Calls Tryz.prog 122 #[n] w fun e w'=>e=.returned b∧Below w w w':=by
 obtain⟨y,m,d,e,hd⟩:=day_is n
 refine zL2 n y m d e b w hL hd ?_
 rw[←h]
 rcases hd with⟨h1,h2,rfl⟩ | ⟨h1,_,_,_,rfl⟩
 ·have:=zAd _ _ _ h1
  rw[h2] at this
  exact (decide_eq_true this).symm
 ·rw[decide_eq_false zo];rfl
theorem beyond15 (m r:Int) (b:Bool) (w:World) (hm:1≤m∧m≤1000000000000000) (hr:0≤r∧r≤1000000) (h:decide (9000000000000000000<m*r)=b):Calls Tryz.prog 123 #[m,r] w fun e w'=>e=.returned b∧Below w w w':=by
 by_cases h0:r>0
 ·have t0:decide (r>0)=true:=decide_eq_true h0
  have q0:(r==0)=false:=beq_eq_false_iff_ne.2 zo
  have hq:=Int.ediv_nonneg (a:=9000000000000000000) (b:=r) zo zo
  have hq2:=Int.ediv_le_self (a:=9000000000000000000) r zo
  have hd:IntKind.i64.wrap ((9000000000000000000:Int).tdiv r)=9000000000000000000/r:=by
   rw[Int.tdiv_eq_ediv_of_nonneg zo]
   rw[IntKind.wrap_i64]
   omega
  have t1:decide (m>9000000000000000000/r)=b:=by
   rw[←h]
   exact decide_eq_decide.2 (zQ4 h0)
  obtain⟨q,hqq⟩:∃q,(9000000000000000000:Int)/r=q:=⟨_,rfl⟩
  rw[hqq] at hd t1
  clear h hq hq2 hqq
  go_enter Tryz.func123,Tryz.ntmps123
  go_wp2
  go_ret
  exact⟨rfl,Below.refl _ _⟩
 ·obtain rfl:r=0:=zo
  rw[Int.mul_zero] at h
  have hb:b=false:=h.symm.trans (decide_eq_false zo)
  subst hb
  clear h h0
  go_enter Tryz.func123,Tryz.ntmps123
  go_wp2
  go_ret
  exact⟨rfl,Below.refl _ _⟩
def FaultOut (c:Int) (a0 a1 a2 a3:Addr) (e:Ending):Prop:=(c=0∧e=.returned .nilIface)∨(c=1∧∃s,e=.returned (.iface 152 (.agg #[.string s,.iface 270 (.pointer (some a0))])))∨(c=3∧∃s,e=.returned (.iface 152 (.agg #[.string s,.iface 270 (.pointer (some a1))])))∨(c=4∧∃s,e=.returned (.iface 152 (.agg #[.string s,.iface 270 (.pointer (some a2))])))∨(c=2∧∃s,e=.returned (.iface 152 (.agg #[.string s,.iface 270 (.pointer (some a3))])))
theorem zq9io {P:Prop} (h:P:=by
 clear CC
 obtain⟨hg,b0,b1,b2,b3,s0,s1,s2,s3,⟨h0,h1,h2,h3⟩,⟨n01,n02,n03,n12,n13,n23⟩,r0,r1,r2,r3⟩:=H.errT
 have l0:=zA0 h0
 have l1:=zA0 h1
 have l2:=zA0 h2
 have l3:=zA0 h3
 obtain⟨ct0,ct1,ct2,ct3,ct4,ct5,ct6,ct7,ct8,ct9,ct10⟩:=H.cells11 w
 have lt:=zA0 ct0
 go_wp2_with fail
 clear ct0 ct1 ct2 ct3 ct4 ct5 ct6 ct7 ct8 ct9 ct10 lt
 go_ret
 exact⟨Or.inr (Or.inr (Or.inr (Or.inr ⟨cc,_,rfl⟩))),H.old⟩):P:=h
theorem zqyl6 {P:Prop} (h:P:=by
 clear CC
 obtain⟨hg,b0,b1,b2,b3,s0,s1,s2,s3,⟨h0,h1,h2,h3⟩,⟨n01,n02,n03,n12,n13,n23⟩,r0,r1,r2,r3⟩:=H.errT
 have l0:=zA0 h0
 have l1:=zA0 h1
 have l2:=zA0 h2
 have l3:=zA0 h3
 obtain⟨ct0,ct1,ct2,ct3,ct4,ct5,ct6,ct7,ct8,ct9,ct10⟩:=H.cells11 w
 have lt:=zA0 ct0
 go_wp2_with fail
 clear ct0 ct1 ct2 ct3 ct4 ct5 ct6 ct7 ct8 ct9 ct10 lt
 go_ret
 exact⟨Or.inr (Or.inl ⟨cc,_,rfl⟩),H.old⟩):P:=h
theorem zqx77 {P:Prop} (h:P:=by
 clear CC
 obtain⟨hg,b0,b1,b2,b3,s0,s1,s2,s3,⟨h0,h1,h2,h3⟩,⟨n01,n02,n03,n12,n13,n23⟩,r0,r1,r2,r3⟩:=H.errT
 have l0:=zA0 h0
 have l1:=zA0 h1
 have l2:=zA0 h2
 have l3:=zA0 h3
 obtain⟨ct0,ct1,ct2,ct3,ct4,ct5,ct6,ct7,ct8,ct9,ct10⟩:=H.cells11 w
 have lt:=zA0 ct0
 go_wp2_with fail
 clear ct0 ct1 ct2 ct3 ct4 ct5 ct6 ct7 ct8 ct9 ct10 lt
 go_ret
 exact⟨Or.inr (Or.inr (Or.inl ⟨cc,_,rfl⟩)),H.old⟩):P:=h
theorem fault15 (mo ra ki co st en ms:Int) (bk lg eo:Bool) (ro:Int) (a0 a1 a2 a3:Addr) (c:Int) (w:World) (hL:FactsT w) (hE:ErrT a0 a1 a2 a3 w) (hc:(Tm.mk mo ra ki co st en ms bk lg eo ro).code=c):Calls Tryz.prog 108 #[.agg #[mo,ra,ki,co,st,en,ms,bk,lg,eo,ro]] w fun e w'=>FaultOut c a0 a1 a2 a3 e∧Below w w w':=by
 have H:=((Held.start w).add (f:=zCm) hL).add (f:=zGk a0 a1 a2 a3) hE
 have CC:=zh hc
 clear hL hE hc
 go_enter Tryz.func108,Tryz.ntmps108
 obtain⟨S1,hs⟩:∃S,tn ki=S:=⟨_,rfl⟩
 replace hs:=zh hs
 go_wp2_with fail
 replace H:=H.box_11 w mo ra ki co st en ms bk lg eo ro 23 rfl
 revert H
 with_reducible refine zG (fun H=>tname15 ki S1 _ (H.factsT) hs.out) ?_
 intro w1 H
 by_cases hk:0≤ki∧ki≤2
 rotate_left
 ·have e1:S1.toList.isEmpty=true:=by rw[←hs.out,zUa];exact decide_eq_true zo
  clear hs
  have cc:c=1:=CC.out.symm.trans (Tm.bad (fun g=>hk g.1))
  exact zqyl6
 have e1:S1.toList.isEmpty=false:=by rw[←hs.out,zUa];exact decide_eq_false zo
 have KS1:=zh hk
 clear hs hk
 obtain⟨S2,hs⟩:∃S,nm co=S:=⟨_,rfl⟩
 replace hs:=zh hs
 obtain⟨ct0,ct1,ct2,ct3,ct4,ct5,ct6,ct7,ct8,ct9,ct10⟩:=H.cells11 w
 have lt:=zA0 ct0
 go_wp2_with fail
 clear ct0 ct1 ct2 ct3 ct4 ct5 ct6 ct7 ct8 ct9 ct10 lt
 revert H
 with_reducible refine zG (fun _=>cname_is co S2 _ hs.out) ?_
 intro w2 H
 by_cases hk:0≤co∧co≤6
 rotate_left
 ·have e2:S2.toList.isEmpty=true:=by rw[←hs.out,zRx];exact decide_eq_true zo
  clear hs
  have cc:c=1:=CC.out.symm.trans (Tm.bad (fun g=>hk g.2.1))
  exact zqyl6
 have e2:S2.toList.isEmpty=false:=by rw[←hs.out,zRx];exact decide_eq_false zo
 have KS2:=zh hk
 clear hs hk
 obtain⟨S3,hs⟩:∃S,rn ro=S:=⟨_,rfl⟩
 replace hs:=zh hs
 obtain⟨ct0,ct1,ct2,ct3,ct4,ct5,ct6,ct7,ct8,ct9,ct10⟩:=H.cells11 w
 have lt:=zA0 ct0
 go_wp2_with fail
 clear ct0 ct1 ct2 ct3 ct4 ct5 ct6 ct7 ct8 ct9 ct10 lt
 revert H
 with_reducible refine zG (fun H=>rlname15 ro S3 _ (H.factsT) hs.out) ?_
 intro w3 H
 by_cases hk:0≤ro∧ro≤4
 rotate_left
 ·have e3:S3.toList.isEmpty=true:=by rw[←hs.out,zT6];exact decide_eq_true zo
  clear hs
  have cc:c=1:=CC.out.symm.trans (Tm.bad (fun g=>hk g.2.2.1))
  exact zqyl6
 have e3:S3.toList.isEmpty=false:=by rw[←hs.out,zT6];exact decide_eq_false zo
 have KS3:=zh hk
 clear hs hk
 obtain⟨r4,hs⟩:∃S,fr ms=S:=⟨_,rfl⟩
 replace hs:=zh hs
 obtain⟨ct0,ct1,ct2,ct3,ct4,ct5,ct6,ct7,ct8,ct9,ct10⟩:=H.cells11 w
 have lt:=zA0 ct0
 go_wp2_with fail
 clear ct0 ct1 ct2 ct3 ct4 ct5 ct6 ct7 ct8 ct9 ct10 lt
 revert H
 with_reducible refine zG (fun _=>zU4 ms r4 _ hs.out) ?_
 intro w4 H
 by_cases hk:Mo ms
 rotate_left
 ·have e4:(r4==0)=true:=by rw[←hs.out,zIc];exact decide_eq_true hk
  clear hs
  have cc:c=1:=CC.out.symm.trans (Tm.bad (fun g=>hk g.2.2.2))
  exact zqyl6
 have e4:(r4==0)=false:=by rw[←hs.out,zIc];exact decide_eq_false (fun g=>g hk)
 have HF:Hid (Tm.mk mo ra ki co st en ms bk lg eo ro).Form:=zh ⟨KS1.out,KS2.out,KS3.out,hk⟩
 clear hs hk KS1 KS2 KS3
 obtain⟨p,hs⟩:∃S,decide (1≤st∧st≤3652059)=S:=⟨_,rfl⟩
 replace hs:=zh hs
 obtain⟨ct0,ct1,ct2,ct3,ct4,ct5,ct6,ct7,ct8,ct9,ct10⟩:=H.cells11 w
 have lt:=zA0 ct0
 go_wp2_with fail
 clear ct0 ct1 ct2 ct3 ct4 ct5 ct6 ct7 ct8 ct9 ct10 lt
 revert H
 with_reducible refine zG (fun H=>zRf st p _ (H.factsT) hs.out) ?_
 intro w5 H
 cases p
 ·have cc:c=3:=CC.out.symm.trans (Tm.noDay HF.out (fun g=>of_decide_eq_false hs.out g.1))
  exact zqx77
 have Kp:=zh (of_decide_eq_true hs.out)
 clear hs
 obtain⟨q,hs⟩:∃S,decide (1≤en∧en≤3652059)=S:=⟨_,rfl⟩
 replace hs:=zh hs
 obtain⟨ct0,ct1,ct2,ct3,ct4,ct5,ct6,ct7,ct8,ct9,ct10⟩:=H.cells11 w
 have lt:=zA0 ct0
 go_wp2_with fail
 clear ct0 ct1 ct2 ct3 ct4 ct5 ct6 ct7 ct8 ct9 ct10 lt
 revert H
 with_reducible refine zG (fun H=>zRf en q _ (H.factsT) hs.out) ?_
 intro w6 H
 cases q
 ·have cc:c=3:=CC.out.symm.trans (Tm.noDay HF.out (fun g=>of_decide_eq_false hs.out g.2))
  exact zqx77
 have Kq:=zh (of_decide_eq_true hs.out)
 clear hs
 have HD:Hid (Tm.mk mo ra ki co st en ms bk lg eo ro).Days:=zh ⟨Kp.out,Kq.out⟩
 clear Kp Kq
 by_cases e7:decide (st≥en)=true
 ·have cc:c=4:=CC.out.symm.trans (Tm.turned HF.out HD.out (by have:=of_decide_eq_true e7;dsimp only;omega))
  clear CC
  obtain⟨hg,b0,b1,b2,b3,s0,s1,s2,s3,⟨h0,h1,h2,h3⟩,⟨n01,n02,n03,n12,n13,n23⟩,r0,r1,r2,r3⟩:=H.errT
  have l0:=zA0 h0
  have l1:=zA0 h1
  have l2:=zA0 h2
  have l3:=zA0 h3
  obtain⟨ct0,ct1,ct2,ct3,ct4,ct5,ct6,ct7,ct8,ct9,ct10⟩:=H.cells11 w
  have lt:=zA0 ct0
  go_wp2_with fail
  clear ct0 ct1 ct2 ct3 ct4 ct5 ct6 ct7 ct8 ct9 ct10 lt
  go_ret
  exact⟨Or.inr (Or.inr (Or.inr (Or.inl ⟨cc,_,rfl⟩))),H.old⟩
 rw[Bool.not_eq_true] at e7
 have HT:Hid (st<en):=zh (by have:=of_decide_eq_false e7;omega)
 by_cases e8:decide (mo<1)=true
 ·have cc:c=2:=CC.out.symm.trans (Tm.over HF.out HD.out HT.out (by have:=of_decide_eq_true e8;unfold Tm.Own;dsimp only;omega))
  exact zq9io
 rw[Bool.not_eq_true] at e8
 by_cases e9:decide (mo>1000000000000000)=true
 ·have cc:c=2:=CC.out.symm.trans (Tm.over HF.out HD.out HT.out (by have:=of_decide_eq_true e9;unfold Tm.Own;dsimp only;omega))
  exact zq9io
 rw[Bool.not_eq_true] at e9
 by_cases e10:decide (ra<0)=true
 ·have cc:c=2:=CC.out.symm.trans (Tm.over HF.out HD.out HT.out (by have:=of_decide_eq_true e10;unfold Tm.Own;dsimp only;omega))
  exact zq9io
 rw[Bool.not_eq_true] at e10
 by_cases e11:decide (ra>1000000)=true
 ·have cc:c=2:=CC.out.symm.trans (Tm.over HF.out HD.out HT.out (by have:=of_decide_eq_true e11;unfold Tm.Own;dsimp only;omega))
  exact zq9io
 rw[Bool.not_eq_true] at e11
 have hm:Hid (1≤mo∧mo≤1000000000000000):=zh ⟨by have:=of_decide_eq_false e8;omega,by have:=of_decide_eq_false e9;omega⟩
 have hr:Hid (0≤ra∧ra≤1000000):=zh ⟨by have:=of_decide_eq_false e10;omega,by have:=of_decide_eq_false e11;omega⟩
 obtain⟨b,hs⟩:∃S,decide (9000000000000000000<mo*ra)=S:=⟨_,rfl⟩
 replace hs:=zh hs
 obtain⟨ct0,ct1,ct2,ct3,ct4,ct5,ct6,ct7,ct8,ct9,ct10⟩:=H.cells11 w
 have lt:=zA0 ct0
 go_wp2_with fail
 clear ct0 ct1 ct2 ct3 ct4 ct5 ct6 ct7 ct8 ct9 ct10 lt
 revert H
 with_reducible refine zG (fun _=>beyond15 mo ra b _ hm.out hr.out hs.out) ?_
 intro w7 H
 cases b
 rotate_left
 ·have cc:c=2:=CC.out.symm.trans (Tm.both HF.out HD.out HT.out ⟨hm.out,hr.out⟩ (of_decide_eq_true hs.out))
  exact zq9io
 have cc:c=0:=CC.out.symm.trans (Tm.may HF.out HD.out HT.out ⟨hm.out,hr.out⟩ (Int.not_lt.1 (of_decide_eq_false hs.out)))
 clear CC
 obtain⟨ct0,ct1,ct2,ct3,ct4,ct5,ct6,ct7,ct8,ct9,ct10⟩:=H.cells11 w
 have lt:=zA0 ct0
 go_wp2_with fail
 clear ct0 ct1 ct2 ct3 ct4 ct5 ct6 ct7 ct8 ct9 ct10 lt
 go_ret
 exact⟨Or.inl ⟨cc,rfl⟩,H.old⟩
theorem zKv (mo ra ki co st en ms:Int) (bk lg eo:Bool) (ro:Int) (c:Int) (w:World) (hL:FactsT w) (h:(Tm.mk mo ra ki co st en ms bk lg eo ro).code=c):Calls Tryz.prog 94 #[.agg #[mo,ra,ki,co,st,en,ms,bk,lg,eo,ro]] w fun e w'=>e=.returned c∧Below w w w':=by
 obtain⟨a0,a1,a2,a3,hE⟩:=hL.2.2.2
 have H:=((Held.start w).add (f:=zCm) hL).add (f:=zGk a0 a1 a2 a3) hE
 have CC:=zh h
 clear hL hE h
 go_enter Tryz.func94,Tryz.ntmps94
 go_wp2_with fail
 replace H:=H.box_11 w mo ra ki co st en ms bk lg eo ro 23 rfl
 with_reducible refine (fault15 mo ra ki co st en ms bk lg eo ro a0 a1 a2 a3 c _ (H.factsT) (H.errT) CC.out).mono ?_
 rintro e w1 ⟨hf,hb⟩
 replace H:=H.below hb
 clear hb CC
 rcases hf with⟨rfl,rfl⟩ | ⟨rfl,s,rfl⟩ | ⟨rfl,s,rfl⟩ | ⟨rfl,s,rfl⟩ | ⟨rfl,s,rfl⟩
 ·go_wp2_with fail
  revert H
  with_reducible refine zG (fun _=>zU3 _) ?_
  intro w2 H
  go_wp2_with fail
  go_ret
  exact⟨rfl,H.old⟩
 ·go_wp2_with fail
  revert H
  with_reducible refine zG (fun H=>tcode_0 s a0 a1 a2 a3 _ (H.errT)) ?_
  intro w2 H
  go_wp2_with fail
  go_ret
  exact⟨rfl,H.old⟩
 ·go_wp2_with fail
  revert H
  with_reducible refine zG (fun H=>tcode_1 s a0 a1 a2 a3 _ (H.errT)) ?_
  intro w2 H
  go_wp2_with fail
  go_ret
  exact⟨rfl,H.old⟩
 ·go_wp2_with fail
  revert H
  with_reducible refine zG (fun H=>tcode_2 s a0 a1 a2 a3 _ (H.errT)) ?_
  intro w2 H
  go_wp2_with fail
  go_ret
  exact⟨rfl,H.old⟩
 ·go_wp2_with fail
  revert H
  with_reducible refine zG (fun H=>tcode_3 s a0 a1 a2 a3 _ (H.errT)) ?_
  intro w2 H
  go_wp2_with fail
  go_ret
  exact⟨rfl,H.old⟩
end Go.Proofs.YtpfgdfpaoldhcaaGreatDoor
