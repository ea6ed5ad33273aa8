/- Several texts in one: RefVal, Fit, RKit, RefMade, RefNew. -/
import Derived.Test.YtpfgdfpaoldhcaaGreatDoorSuAC
import Derived.Test.YtpfgdfpaoldhcaaGreatDoorSuAG
import Derived.Deep.RegionWith
set_option maxHeartbeats 8000000
set_option maxRecDepth 100000
set_option linter.unusedVariables false
set_option linter.unusedSimpArgs false
namespace Go.Proofs.YtpfgdfpaoldhcaaGreatDoor
open Go.RowKit
theorem BigN.none {W:World} {a:Option Addr} {k c m:Nat} (h:BigN W (.slice a k c) 0 m):k=0:=by
 obtain⟨ds,h1,h2,h3,h4,h5⟩:=h
 obtain⟨aa,ac,e⟩:=h1.slice
 rw[h5 h3] at e
 cases e;rfl
theorem BigN.some {W:World} {a:Option Addr} {k c m:Nat} {n:Int} (h:BigN W (.slice a k c) n m) (hn:0<n):0<k:=by
 obtain⟨ds,h1,h2,h3,h4,h5⟩:=h
 obtain⟨aa,ac,e⟩:=h1.slice
 cases e
 rcases Nat.eq_zero_or_pos ds.length with hz | hz
 ·have:=List.eq_nil_of_length_eq_zero hz
  subst this
  rw[zD9] at h3;omega
 ·exact hz
def NumIs (n:Int) (m:Nat) (w:World) (e:Ending) (w':World):Prop:=∃a k c,e=.returned (.agg #[.slice a k c])∧BigN w' (.slice a k c) n m∧Below w w w'
structure Turning (w W:World) (B m:Nat) (s1 s2:Value) (p q:Int):Prop where
 ca:W.cell? ⟨B,0,none⟩=some s1
 fa:W.frozen? ⟨B,0,none⟩=false
 cb:W.cell? ⟨B+1,0,none⟩=some s2
 fb:W.frozen? ⟨B+1,0,none⟩=false
 cr:W.cell? ⟨B+2,0,none⟩=some (.slice none 0 0)
 fr:W.frozen? ⟨B+2,0,none⟩=false
 na:BigN W s1 p m
 nb:BigN W s2 q m
 oa:∀i,s1.ownBlock=some i→i<B∨B+3≤i
 ob:∀i,s2.ownBlock=some i→i<B∨B+3≤i
 old:Below B w W
 size:B+3≤W.heap.size
theorem Turning.below {w W W':World} {B m:Nat} {s1 s2:Value} {p q:Int} (h:Turning w W B m s1 s2 p q) (hb:Below W W W'):Turning w W' B m s1 s2 p q:=
 ⟨keep hb (zA0 h.ca) h.ca,zA6 hb (zA0 h.ca) h.fa,keep hb (zA0 h.cb) h.cb,zA6 hb (zA0 h.cb) h.fb,keep hb (zA0 h.cr) h.cr,zA6 hb (zA0 h.cr) h.fr,h.na.below hb,h.nb.below hb,h.oa,h.ob,h.old.trans (hb.mono (by have:=h.size;omega)),Nat.le_trans h.size hb.size⟩
theorem Turning.turn {w W:World} {B m:Nat} {s1 s2:Value} {p q:Int} (h:Turning w W B m s1 s2 p q) {s4:Value} {r:Int} (hn:BigN W s4 r m) (ho:∀i,s4.ownBlock=some i→B+3≤i) :
  Turning w ((W.setCell ⟨B,0,none⟩ s2).setCell ⟨B+1,0,none⟩ s4) B m s2 s4 q r:=by
 have far:∀(x:Addr),x.block≠B→x.block≠B+1→((W.setCell ⟨B,0,none⟩ s2).setCell ⟨B+1,0,none⟩ s4).cell? x=W.cell? x:=fun x h1 h2=>
  (World.cell?_setCell_far _ _ _ _ (Ne.symm h2)).trans (World.cell?_setCell_far _ _ _ _ (Ne.symm h1))
 have nn:∀{v:Value} {n:Int},BigN W v n m→(∀i,v.ownBlock=some i→i<B∨B+3≤i)→BigN ((W.setCell ⟨B,0,none⟩ s2).setCell ⟨B+1,0,none⟩ s4) v n m:=fun hv hi=>
  (hv.setCell (p:=⟨B,0,none⟩) (fun e=>by have:=hi _ e;simp at this;omega) s2).setCell (p:=⟨B+1,0,none⟩) (fun e=>by have:=hi _ e;simp at this;omega) s4
 refine⟨?_,by rw[World.frozen?_setCell,World.frozen?_setCell];exact h.fa,?_,by rw[World.frozen?_setCell,World.frozen?_setCell];exact h.fb,(far _ zs zs).trans h.cr,by rw[World.frozen?_setCell,World.frozen?_setCell];exact h.fr,
  nn h.nb h.ob,nn hn (fun i hi=>Or.inr (ho i hi)),h.ob,fun i hi=>Or.inr (ho i hi),(h.old.setCell zs _).setCell zs _,by simpa using h.size⟩
 ·exact (World.cell?_setCell_far _ _ _ _ zs).trans (World.cell?_setCell_same W _ _ h.ca)
 ·exact World.cell?_setCell_same _ _ _ ((World.cell?_setCell_far _ _ _ _ zs).trans h.cb)
theorem zIx {w:World} {B m:Nat} {s1 s2:Value} {p q:Int} {t1 t2 t3:TypeId} (hB:w.heap.size=B) (h1:BigN w s1 p m) (h2:BigN w s2 q m) :
  Turning w (((w.alloc (.cells #[s1] t1)).alloc (.cells #[s2] t2)).alloc (.cells #[.slice none 0 0] t3)) B m s1 s2 p q:=by
 subst hB
 exact⟨by simp[go_sem],by simp[go_sem],by simp[go_sem],by simp[go_sem],by simp[go_sem],by simp[go_sem],((h1.alloc _).alloc _).alloc _,((h2.alloc _).alloc _).alloc _,
  fun i hi=>Or.inl (h1.old i hi),fun i hi=>Or.inl (h2.old i hi),(((Below.refl _ _).alloc (Nat.le_refl _) _).alloc zs _).alloc zw _,zs⟩
theorem zT0 (aa:Option Addr) (ak ac:Nat) (ba:Option Addr) (bk bc:Nat) (x y:Int) (m:Nat) (w:World) (ha:BigN w (.slice aa ak ac) x m) (hb:BigN w (.slice ba bk bc) y m) (hm:m≤30000) :
  Calls Tryz.prog 62 #[.agg #[.slice aa ak ac],.agg #[.slice ba bk bc]] w (NumIs (gi x y) m w):=by
 obtain⟨B,hB⟩:∃B,w.heap.size=B:=⟨_,rfl⟩
 have T0:=zh (zIx (t1:=68) (t2:=68) (t3:=68) hB ha hb)
 obtain⟨g,HG⟩:∃g,Hid (gi x y=g):=⟨_,zh rfl⟩
 rw[HG.out]
 have x0:=ha.nonneg
 have y0:=hb.nonneg
 clear ha hb
 have HB:=zh hB
 clear hB
 go_enter Tryz.func62,Tryz.ntmps62
 go_wp2
 rw[HB.out]
 go_loopg [5] y.toNat (fun k s5 wr=>∃(p q:Int) (a1:Option Addr) (k1 c1:Nat) (a2:Option Addr) (k2 c2:Nat),k=q.toNat∧0≤p∧0≤q∧gi p q=g∧Turning w wr B m (.slice a1 k1 c1) (.slice a2 k2 c2) p q)
 case atStart=>exact⟨x,y,aa,ak,ac,ba,bk,bc,rfl,x0,y0,HG.out,T0.out⟩
 case round=>
  obtain⟨p,q,a1,k1,c1,a2,k2,c2,rfl,p0,q0,hg,T⟩:=hrel
  have HH:=zh hg
  have TT:=zh T
  have ca:=T.ca
  have cb:=T.cb
  have cr:=T.cr
  have fa:=T.fa
  have fb:=T.fb
  have fr:=T.fr
  clear hg T
  by_cases hz:q=0
  ·subst hz
   have e2:=TT.out.nb.none
   subst e2
   have hp:p=g:=by rw[←HH.out,zKz p p0]
   have HP:=zh hp
   clear hp
   go_wp2
   have BN:=TT.out.na.setCell (p:=⟨B+2,0,none⟩) (fun e=>by have:=TT.out.oa _ e;simp at this;omega) (.slice a1 k1 c1)
   rw[HP.out] at BN
   exact bodyPost_ret (v:=.agg #[.slice a1 k1 c1]) (by simp[results,Tryz.results62,go_sem,cr]) rfl ⟨_,_,_,rfl,BN,by rw[HB.out];exact TT.out.old.setCell zw _⟩
  ·have k0:=TT.out.nb.some zo
   have hq:0<q:=zo
   go_wp2_with fail
   with_reducible refine (zGw (.slice a1 k1 c1) a2 k2 c2 p q m m _ TT.out.na TT.out.nb hm hm hq).mono ?_
   rintro e w1 ⟨a3,k3,c3,a4,k4,c4,rfl,N3,N4,F3,F4,hb⟩
   have T1:=TT.out.below hb
   have T2:=zh ((T1.turn N4 (fun i hi=>Nat.le_trans TT.out.size (F4 i hi))).below (((Below.refl _ _).alloc (Nat.le_refl _) (.cells #[.slice a3 k3 c3] 68)).alloc zs (.cells #[.slice a4 k4 c4] 68)))
   have ca:=T1.ca
   have cb:=T1.cb
   have cr:=T1.cr
   have fa:=T1.fa
   have fb:=T1.fb
   have la:B<w1.heap.size:=zA0 ca
   have lb:B+1<w1.heap.size:=zA0 cb
   have k5:Hid (gi q (p%q)=g):=zh ((zIf p q p0 q0).trans HH.out)
   have k6:0≤p%q:=Int.emod_nonneg _ hz
   have k7:p%q<q:=Int.emod_lt_of_pos _ hq
   clear T1 hb N3 N4 F3 F4
   go_wp2
   go_roundg (p%q).toNat
   case measure=>omega
   case rel=>exact⟨q,p%q,a2,k2,c2,a4,k4,c4,rfl,q0,k6,k5.out,T2.out⟩
theorem zHh (ds:List Int) (hd:Dig ds) (k:Nat):0≤bv (ds.drop k)∧bv (ds.drop k)≤bv ds:=by
 have dd:∀j,Dig (ds.drop j):=fun j d h=>hd d (List.mem_of_mem_drop h)
 refine⟨(zD8 (dd k)).1,?_⟩
 induction k with
 | zero=>exact Int.le_refl _
 | succ k ih=>
  by_cases hk:k<ds.length
  ·have e:=zIb ds k hk
   have a:=(zD8 (dd (k+1))).1
   have b:=(zB4 hd k).1
   omega
  ·rw[List.drop_of_length_le zo,zD9];exact (zD8 hd).1
theorem zUt (aa:Option Addr) (ak ac:Nat) (x:Int) (m:Nat) (w:World) (ha:BigN w (.slice aa ak ac) x m) (hm:m≤30000) (hx:x≤4611686018427387904) :
  Calls Tryz.prog 64 #[.agg #[.slice aa ak ac]] w fun e w'=>e=.returned x∧Below w w w':=by
 obtain⟨ds,hbig,hdig,hval,hlen,-⟩:=ha
 obtain⟨a',c',e'⟩:=hbig.slice
 cases e'
 have HBG:=zh hbig
 have HD:=zh hdig
 have HV:=zh hval
 have hl:ds.length≤30000:=zo
 clear hbig hdig hval hlen
 go_enter Tryz.func64,Tryz.ntmps64
 go_wp2
 go_loop [3,4] (fun n i=>∃k:Nat,k≤ds.length∧i=.int .i64 ((k:Int)-1)∧n=.int .i64 (bv (ds.drop k))) (fun _ i=>(intOf i+1).toNat)
 case atStart=>exact⟨ds.length,Nat.le_refl _,rfl,by rw[List.drop_of_length_le (Nat.le_refl _),zD9]⟩
 case round=>
  obtain⟨k,hk,rfl,rfl⟩:=hrel
  by_cases hz:k=0
  ·subst hz
   have e:bv (ds.drop 0)=x:=by rw[List.drop_zero];exact HV.out
   have HE:=zh e
   clear e
   go_wp2
   go_ret
   exact⟨by rw[←HE.out];rfl,(Below.refl _ _).alloc (Nat.le_refl _) _⟩
  ·obtain⟨j,rfl⟩:∃j,k=j+1:=⟨k-1,zo⟩
   have hjl:j<ds.length:=zo
   have e1:((j+1:Nat):Int)-1=(j:Int):=zo
   rw[e1]
   have b1:=zHh ds HD.out (j+1)
   have b2:=zHh ds HD.out j
   have st:=zIb ds j hjl
   have d1:=zB4 HD.out j
   rw[HV.out] at b1 b2
   obtain⟨g,cap,e2,hc⟩:=HBG.out.cell hjl
   obtain⟨N,HN⟩:∃N,Hid (bv (ds.drop (j+1))=N):=⟨_,zh rfl⟩
   obtain⟨d,HDj⟩:∃d,Hid (ds.getD j 0=d):=⟨_,zh rfl⟩
   rw[HN.out] at b1 st ⊢
   rw[HDj.out] at st d1 hc
   rw[st] at b2
   have ST:=zh st
   obtain⟨b11,b12⟩:=b1
   obtain⟨b21,b22⟩:=b2
   obtain⟨d11,d12⟩:=d1
   cases e2
   clear st e1
   have m1:IntKind.i64.wrap (10000*N)=10000*N:=IntWalk.i64_in _ zo
   have m2:IntKind.i64.wrap (10000*N+d)=10000*N+d:=IntWalk.i64_in _ zo
   have gl:g<w.heap.size:=zA0 hc
   go_wp2
   go_round
   case rel=>exact⟨j,zo,rfl,by rw[ST.out,Int.add_comm]⟩
   case measure=>simp[intOf]
theorem zEf (n:Int):wn 0 n=n:=by unfold wn;omega
theorem fit_ok (nh nl dh dl N D:Int) (w:World) (k1:0≤nl) (k2:nl<18446744073709551616) (k3:0≤dl) (k4:dl<18446744073709551616) (hN:wn nh nl=N) (hD:wn dh dl=D) (hh:0≤nh) (hh2:0≤dh) (hn:N≤4611686018427387904) (hd:D≤4611686018427387904) :
  Calls Tryz.prog 182 #[.agg #[.int .u64 nh,.int .u64 nl],.agg #[.int .u64 dh,.int .u64 dl]] w fun e w'=>e=.returned (.tuple #[.agg #[N,D],(0:Int)])∧Below w w w':=by
 have H:=Held.start w
 have HN:=zh hN
 have HD:=zh hD
 obtain⟨cN,hcN⟩:∃c,Hid (cmpI N 4611686018427387904=c):=⟨_,zh rfl⟩
 obtain⟨cD,hcD⟩:∃c,Hid (cmpI D 4611686018427387904=c):=⟨_,zh rfl⟩
 have tN:decide (0<cN)=false:=by rw[←hcN.out];exact zF6 hn
 have tD:decide (0<cD)=false:=by rw[←hcD.out];exact zF6 hd
 have eN:nl=N:=by rw[←hN] at hn ⊢;unfold wn at *;omega
 have eD:dl=D:=by rw[←hD] at hd ⊢;unfold wn at *;omega
 rw[←eN,←eD]
 have wN:IntKind.i64.wrap nl=nl:=IntWalk.i64_in _ zo
 have wD:IntKind.i64.wrap dl=dl:=IntWalk.i64_in _ zo
 clear eN eD
 clear hN hD
 go_enter Tryz.func182,Tryz.ntmps182
 go_wp2_with fail
 replace H:=(((H.pair w (.int .u64 nh) (.int .u64 nl) 226 rfl).pair (w+1) (.int .u64 dh) (.int .u64 dl) 226 zs).pair (w+2) (0:Int) (0:Int) 48 zs)
 revert H
 with_reducible refine zG (fun _=>zJq 4611686018427387904 _) ?_
 intro w1 H
 obtain⟨cn0,cn1⟩:=H.cells2 w
 have ln:=H.lt w 0 (.int .u64 nh) i8_
 go_wp2_with fail
 clear cn0 cn1 ln
 replace H:=(H.pair w1 (.int .u64 0) (.int .u64 4611686018427387904) 226 rfl)
 with_reducible refine (zGg nh nl 0 4611686018427387904 _ k1 k2 zo zo).mono ?_
 rw[HN.out,zEf,hcN.out]
 rintro e w2 ⟨rfl,hb⟩
 replace H:=H.below hb
 clear hb
 obtain⟨cd0,cd1⟩:=H.cells2 (w+1)
 have ld:=H.lt (w+1) 0 (.int .u64 dh) i8_
 obtain⟨cm0,cm1⟩:=H.cells2 w1
 have lm:=H.lt w1 0 (.int .u64 0) i0_
 go_wp2_with fail
 clear cd0 cd1 ld cm0 cm1 lm
 with_reducible refine (zGg dh dl 0 4611686018427387904 _ k3 k4 zo zo).mono ?_
 rw[HD.out,zEf,hcD.out]
 rintro e w3 ⟨rfl,hb⟩
 replace H:=H.below hb
 clear hb
 obtain⟨cn0,cn1⟩:=H.cells2 w
 have ln:=H.lt w 0 (.int .u64 nh) i12_
 obtain⟨cd0,cd1⟩:=H.cells2 (w+1)
 have ld:=H.lt (w+1) 0 (.int .u64 dh) i8_
 obtain⟨cr0,cr1⟩:=H.cells2 (w+2)
 have lr:=H.lt (w+2) 0 (0:Int) i4_
 obtain⟨fr0,fr1⟩:=H.frozens2 (w+2)
 go_wp2_with fail
 exact bodyPost_ret (v:=.tuple #[.agg #[nl,dl],(0:Int)]) (by simp[results,Tryz.results182,go_sem,cr0,cr1]) rfl ⟨rfl,(H.old.setCell zw _).setCell zw _⟩
theorem zqc7g {P:Prop} (h:P:=by
 replace H:=H.below hb
 clear hb
 obtain⟨cn0,cn1⟩:=H.cells2 w
 have ln:=H.lt w 0 (.int .u64 nh) i12_
 obtain⟨cd0,cd1⟩:=H.cells2 (w+1)
 have ld:=H.lt (w+1) 0 (.int .u64 dh) i8_
 obtain⟨cr0,cr1⟩:=H.cells2 (w+2)
 have lr:=H.lt (w+2) 0 (0:Int) i4_
 obtain⟨fr0,fr1⟩:=H.frozens2 (w+2)
 go_wp2_with fail
 exact bodyPost_ret (v:=.tuple #[.agg #[(0:Int),(0:Int)],(6:Int)]) (by simp[results,Tryz.results182,go_sem,cr0,cr1]) rfl ⟨rfl,(H.old.setCell zw _).setCell zw _⟩):P:=h
theorem zR3 (nh nl dh dl N D:Int) (w:World) (k1:0≤nl) (k2:nl<18446744073709551616) (k3:0≤dl) (k4:dl<18446744073709551616) (hN:wn nh nl=N) (hD:wn dh dl=D) (hn:4611686018427387904<N) :
  Calls Tryz.prog 182 #[.agg #[.int .u64 nh,.int .u64 nl],.agg #[.int .u64 dh,.int .u64 dl]] w fun e w'=>e=.returned (.tuple #[.agg #[(0:Int),(0:Int)],(6:Int)])∧Below w w w':=by
 have H:=Held.start w
 have HN:=zh hN
 have HD:=zh hD
 obtain⟨cN,hcN⟩:∃c,Hid (cmpI N 4611686018427387904=c):=⟨_,zh rfl⟩
 obtain⟨cD,hcD⟩:∃c,Hid (cmpI D 4611686018427387904=c):=⟨_,zh rfl⟩
 have tN:decide (0<cN)=true:=by rw[←hcN.out,zF5 hn];rfl
 clear hN hD
 go_enter Tryz.func182,Tryz.ntmps182
 go_wp2_with fail
 replace H:=(((H.pair w (.int .u64 nh) (.int .u64 nl) 226 rfl).pair (w+1) (.int .u64 dh) (.int .u64 dl) 226 zs).pair (w+2) (0:Int) (0:Int) 48 zs)
 revert H
 with_reducible refine zG (fun _=>zJq 4611686018427387904 _) ?_
 intro w1 H
 obtain⟨cn0,cn1⟩:=H.cells2 w
 have ln:=H.lt w 0 (.int .u64 nh) i8_
 go_wp2_with fail
 clear cn0 cn1 ln
 replace H:=(H.pair w1 (.int .u64 0) (.int .u64 4611686018427387904) 226 rfl)
 with_reducible refine (zGg nh nl 0 4611686018427387904 _ k1 k2 zo zo).mono ?_
 rw[HN.out,zEf,hcN.out]
 rintro e w2 ⟨rfl,hb⟩
 exact zqc7g
theorem zR4 (nh nl dh dl N D:Int) (w:World) (k1:0≤nl) (k2:nl<18446744073709551616) (k3:0≤dl) (k4:dl<18446744073709551616) (hN:wn nh nl=N) (hD:wn dh dl=D) (hn:N≤4611686018427387904) (hd:4611686018427387904<D) :
  Calls Tryz.prog 182 #[.agg #[.int .u64 nh,.int .u64 nl],.agg #[.int .u64 dh,.int .u64 dl]] w fun e w'=>e=.returned (.tuple #[.agg #[(0:Int),(0:Int)],(6:Int)])∧Below w w w':=by
 have H:=Held.start w
 have HN:=zh hN
 have HD:=zh hD
 obtain⟨cN,hcN⟩:∃c,Hid (cmpI N 4611686018427387904=c):=⟨_,zh rfl⟩
 obtain⟨cD,hcD⟩:∃c,Hid (cmpI D 4611686018427387904=c):=⟨_,zh rfl⟩
 have tN:decide (0<cN)=false:=by rw[←hcN.out];exact zF6 hn
 have tD:decide (0<cD)=true:=by rw[←hcD.out,zF5 hd];rfl
 clear hN hD
 go_enter Tryz.func182,Tryz.ntmps182
 go_wp2_with fail
 replace H:=(((H.pair w (.int .u64 nh) (.int .u64 nl) 226 rfl).pair (w+1) (.int .u64 dh) (.int .u64 dl) 226 zs).pair (w+2) (0:Int) (0:Int) 48 zs)
 revert H
 with_reducible refine zG (fun _=>zJq 4611686018427387904 _) ?_
 intro w1 H
 obtain⟨cn0,cn1⟩:=H.cells2 w
 have ln:=H.lt w 0 (.int .u64 nh) i8_
 go_wp2_with fail
 clear cn0 cn1 ln
 replace H:=(H.pair w1 (.int .u64 0) (.int .u64 4611686018427387904) 226 rfl)
 with_reducible refine (zGg nh nl 0 4611686018427387904 _ k1 k2 zo zo).mono ?_
 rw[HN.out,zEf,hcN.out]
 rintro e w2 ⟨rfl,hb⟩
 replace H:=H.below hb
 clear hb
 obtain⟨cd0,cd1⟩:=H.cells2 (w+1)
 have ld:=H.lt (w+1) 0 (.int .u64 dh) i8_
 obtain⟨cm0,cm1⟩:=H.cells2 w1
 have lm:=H.lt w1 0 (.int .u64 0) i0_
 go_wp2_with fail
 clear cd0 cd1 ld cm0 cm1 lm
 with_reducible refine (zGg dh dl 0 4611686018427387904 _ k3 k4 zo zo).mono ?_
 rw[HD.out,zEf,hcD.out]
 rintro e w3 ⟨rfl,hb⟩
 exact zqc7g
theorem zL7 (a b p:Int) (w:World) (h1:0≤a) (h2:a<18446744073709551616) (h3:0≤b) (h4:b<18446744073709551616) (hp:a*b=p) :
  Calls Tryz.prog 187 #[.int .u64 a,.int .u64 b] w fun e w'=>e=.returned (.agg #[.int .u64 (hi p),.int .u64 (lo p)])∧Below w w w':=by
 subst hp;exact mul_any a b w h1 h2 h3 h4
theorem zPr (p q:Int) (w:World) (p0:0≤p) (p1:p<top) (q0:0≤q) (q1:q<top) (h:p+q<top) :
  Calls Tryz.prog 186 #[.agg #[.int .u64 (hi p),.int .u64 (lo p)],.agg #[.int .u64 (hi q),.int .u64 (lo q)]] w fun e w'=>e=.returned (.tuple #[.agg #[.int .u64 (hi (p+q)),.int .u64 (lo (p+q))],(0:Int)])∧Below w w w':=by
 have a:=hi_bd p p0 p1
 have b:=hi_bd q q0 q1
 have:=add_yes (hi p) (lo p) (hi q) (lo q) w (zIk p).1 (zIk p).2 a.1 a.2 (zIk q).1 (zIk q).2 b.1 b.2 (by rw[zD2,zD2];exact h)
 rwa [zD2,zD2] at this
theorem div_hl (p d:Int) (w:World) (p0:0≤p) (p1:p<top) (d0:0<d) (d1:d<18446744073709551616) :
  Calls Tryz.prog 188 #[.agg #[.int .u64 (hi p),.int .u64 (lo p)],.int .u64 d] w fun e w'=>e=.returned (.tuple #[.agg #[.int .u64 (hi (p/d)),.int .u64 (lo (p/d))],.int .u64 (p%d),(0:Int)])∧Below w w w':=by
 have a:=hi_bd p p0 p1
 have b:=zIk p
 have:=div_yes (hi p) (lo p) d w b.1 b.2 a.1 a.2 d0 d1
 rwa [zD2] at this
theorem zJl (n d:Int) (w:World) (n0:0≤n) (n1:n<18446744073709551616) (d0:0≤d) (d1:d<18446744073709551616) (hp:0<n∨0<d) :
  Calls Tryz.prog 181 #[.int .u64 n,.int .u64 d] w fun e w'=>e=.returned (.tuple #[.int .u64 (mN n d),.int .u64 (mD n d)])∧Below w w w':=
 (zOa n d w n0 n1 d0 d1 hp).mono fun _ _ h=>⟨h.1,by obtain⟨k,hk⟩:=h.2;rw[hk];exact zBi k⟩
theorem zR2 (nh nl dh dl n d:Int) (w:World) (k1:0≤nl) (k2:nl<18446744073709551616) (k3:0≤dl) (k4:dl<18446744073709551616) (hh:0≤nh) (hh2:0≤dh) (hN:wn nh nl=mN n d) (hD:wn dh dl=mD n d) :
  Calls Tryz.prog 182 #[.agg #[.int .u64 nh,.int .u64 nl],.agg #[.int .u64 dh,.int .u64 dl]] w fun e w'=>e=.returned (.tuple #[.agg #[(rN n d),(rD n d)],(rE n d)])∧Below w w w':=by
 by_cases h:fitB n d=true
 ·have k:=(zCa n d).1 h
  obtain⟨a,b,c⟩:=zCo h
  rw[a,b,c]
  exact fit_ok nh nl dh dl _ _ w k1 k2 k3 k4 hN hD hh hh2 k.1 k.2
 ·obtain⟨a,b,c⟩:=r_no h
  rw[a,b,c]
  by_cases h1:mN n d≤4611686018427387904
  ·have h2:4611686018427387904<mD n d:=by
    by_cases h2:mD n d≤4611686018427387904
    ·exact absurd ((zCa n d).2 ⟨h1,h2⟩) h
    ·omega
   exact zR4 nh nl dh dl _ _ w k1 k2 k3 k4 hN hD h1 h2
  ·exact zR3 nh nl dh dl _ _ w k1 k2 k3 k4 hN hD zo
theorem fit_hl (p q n d:Int) (w:World) (p0:0≤p) (q0:0≤q) (hN:p=mN n d) (hD:q=mD n d) :
  Calls Tryz.prog 182 #[.agg #[.int .u64 (hi p),.int .u64 (lo p)],.agg #[.int .u64 (hi q),.int .u64 (lo q)]] w fun e w'=>e=.returned (.tuple #[.agg #[(rN n d),(rD n d)],(rE n d)])∧Below w w w':=
 zR2 (hi p) (lo p) (hi q) (lo q) n d w (zIk p).1 (zIk p).2 (zIk q).1 (zIk q).2 (by unfold hi;omega) (by unfold hi;omega) (by rw[zD2];exact hN) (by rw[zD2];exact hD)
theorem made_ok (aa:Option Addr) (ak ac:Nat) (ba:Option Addr) (bk bc:Nat) (x y:Int) (m:Nat) (w:World) (ha:BigN w (.slice aa ak ac) x m) (hb:BigN w (.slice ba bk bc) y m) (hm:m≤30000) (hy:0<y) (hX:mN x y≤4611686018427387904) (hY:mD x y≤4611686018427387904) :
  Calls Tryz.prog 42 #[.agg #[.slice aa ak ac],.agg #[.slice ba bk bc]] w fun e w'=>e=.returned (.tuple #[.agg #[(mN x y),(mD x y)],(0:Int)])∧Below w w w':=by
 have H:=((Held.start w).num ha).num hb
 have x0:=ha.nonneg
 have gp:=zFn x y (Or.inr hy)
 have X0:=zC1 x y x0
 have Y0:=zE1 x y hy
 obtain⟨g,HG⟩:∃g,Hid (gi x y=g):=⟨_,zh rfl⟩
 obtain⟨X,HX'⟩:∃z,Hid (mN x y=z):=⟨_,zh rfl⟩
 obtain⟨Y,HY'⟩:∃z,Hid (mD x y=z):=⟨_,zh rfl⟩
 have HX:Hid (x/g=X):=zh (by rw[←HG.out];exact HX'.out)
 have HY:Hid (y/g=Y):=zh (by rw[←HG.out];exact HY'.out)
 rw[HG.out] at gp
 rw[HX'.out] at hX X0
 rw[HY'.out] at hY Y0
 rw[HX'.out,HY'.out]
 obtain⟨c1,hc1⟩:∃c,Hid (cmpI X 4611686018427387904=c):=⟨_,zh rfl⟩
 obtain⟨c2,hc2⟩:∃c,Hid (cmpI Y 4611686018427387904=c):=⟨_,zh rfl⟩
 have t1:decide (0<c1)=false:=by rw[←hc1.out];exact zF6 hX
 have t2:decide (0<c2)=false:=by rw[←hc2.out];exact zF6 hY
 clear ha hb
 go_enter Tryz.func42,Tryz.ntmps42
 go_wp2_with fail
 replace H:=(((H.lone w (.slice aa ak ac) 68 rfl).lone (w+1) (.slice ba bk bc) 68 zs).pair (w+2) (0:Int) (0:Int) 48 zs)
 with_reducible refine (zT0 aa ak ac ba bk bc x y m _ (H.big (.slice aa ak ac) (x) m i9_) (H.big (.slice ba bk bc) (y) m i8_) hm).mono ?_
 rw[HG.out]
 rintro e w1 ⟨ga,gk,gc,rfl,NN,hb⟩
 replace H:=H.below hb
 clear hb
 replace H:=H.num NN
 clear NN
 have cba0:=H.cell w 0 _ i7_
 have lba:=H.lt w 0 (.slice aa ak ac) i7_
 go_wp2_with fail
 clear cba0 lba
 replace H:=(H.lone w1 (.slice ga gk gc) 68 rfl)
 with_reducible refine (zGw (.slice aa ak ac) ga gk gc x g m m _ (H.big (.slice aa ak ac) (x) m i12_) (H.big (.slice ga gk gc) (g) m i2_) hm hm gp).mono ?_
 rintro e w2 ⟨qa,qk,qc,ua,uk,uc,rfl,N1,N2,F1,F2,hb⟩
 replace H:=H.below hb
 clear hb
 rw[HX.out] at N1
 replace H:=(H.num N1).num N2
 clear N1 N2 F1 F2
 have cbb0:=H.cell (w+1) 0 _ i9_
 have lbb:=H.lt (w+1) 0 (.slice ba bk bc) i9_
 have lbb_0:=Nat.lt_trans (show w.heap.size<w.heap.size+1 by omega) lbb
 have cbg0:=H.cell w1 0 _ i2_
 have lbg:=H.lt w1 0 (.slice ga gk gc) i2_
 go_wp2_with fail
 clear cbb0 lbb lbb_0 cbg0 lbg
 replace H:=((H.lone w2 (.slice qa qk qc) 68 rfl).lone (w2+1) (.slice ua uk uc) 68 zs)
 with_reducible refine (zGw (.slice ba bk bc) ga gk gc y g m m _ (H.big (.slice ba bk bc) (y) m i17_) (H.big (.slice ga gk gc) (g) m i8_) hm hm gp).mono ?_
 rintro e w3 ⟨pa,pk,pc,va,vk,vc,rfl,N1,N2,F1,F2,hb⟩
 replace H:=H.below hb
 clear hb
 rw[HY.out] at N1
 replace H:=(H.num N1).num N2
 clear N1 N2 F1 F2
 go_wp2_with fail
 replace H:=((H.lone w3 (.slice pa pk pc) 68 rfl).lone (w3+1) (.slice va vk vc) 68 zs)
 with_reducible refine (zId 4611686018427387904 _ zo zo).mono ?_
 rintro e w4 ⟨fa,fk,fc,rfl,NN,-,hb⟩
 replace H:=H.below hb
 clear hb
 replace H:=H.num NN
 clear NN
 have cbq0:=H.cell w2 0 _ i9_
 have lbq:=H.lt w2 0 (.slice qa qk qc) i9_
 go_wp2_with fail
 clear cbq0 lbq
 replace H:=(H.lone w4 (.slice fa fk fc) 68 rfl)
 with_reducible refine (zH8 (.slice qa qk qc) (.slice fa fk fc) X 4611686018427387904 m 5 _ (H.big (.slice qa qk qc) (X) m i14_) (H.big (.slice fa fk fc) (4611686018427387904) 5 i2_) zo zo).mono ?_
 rw[hc1.out]
 rintro e w5 ⟨rfl,hb⟩
 replace H:=H.below hb
 clear hb
 have cbp0:=H.cell w3 0 _ i5_
 have lbp:=H.lt w3 0 (.slice pa pk pc) i5_
 have cbf0:=H.cell w4 0 _ i0_
 have lbf:=H.lt w4 0 (.slice fa fk fc) i0_
 go_wp2_with fail
 clear cbp0 lbp cbf0 lbf
 with_reducible refine (zH8 (.slice pa pk pc) (.slice fa fk fc) Y 4611686018427387904 m 5 _ (H.big (.slice pa pk pc) (Y) m i8_) (H.big (.slice fa fk fc) (4611686018427387904) 5 i2_) zo zo).mono ?_
 rw[hc2.out]
 rintro e w6 ⟨rfl,hb⟩
 replace H:=H.below hb
 clear hb
 go_wp2_with fail
 have cbq0:=H.cell w2 0 _ i11_
 have lbq:=H.lt w2 0 (.slice qa qk qc) i11_
 have cbp0:=H.cell w3 0 _ i5_
 have lbp:=H.lt w3 0 (.slice pa pk pc) i5_
 obtain⟨cr0,cr1⟩:=H.cells2 (w+2)
 have lr:=H.lt (w+2) 0 (0:Int) i18_
 obtain⟨fr0,fr1⟩:=H.frozens2 (w+2)
 replace H:=H.drew
 go_region_with
  (first
   | (go_at_call 64;(with_reducible refine (zUt qa qk qc X m _ (H.big (.slice qa qk qc) (X) m i14_) hm hX).mono ?_);rintro e w' ⟨rfl,hb⟩;replace H:=H.below hb;clear hb;replace cbq0:=H.cell w2 0 (.slice qa qk qc) i11_;replace lbq:=H.lt w2 0 (.slice qa qk qc) i11_;replace cbp0:=H.cell w3 0 (.slice pa pk pc) i5_;replace lbp:=H.lt w3 0 (.slice pa pk pc) i5_;replace cr0:=H.cell (w+2) 0 (0:Int) i18_;replace cr1:=H.cell (w+2) 1 (0:Int) i19_;replace lr:=H.lt (w+2) 0 (0:Int) i18_;replace fr0:=H.frozen (w+2) 0 i20_;replace fr1:=H.frozen (w+2) 1 i21_)
   | (go_at_call 64;(with_reducible refine (zUt pa pk pc Y m _ (H.big (.slice pa pk pc) (Y) m i8_) hm hY).mono ?_);rintro e w' ⟨rfl,hb⟩;replace H:=H.below hb;clear hb;replace cbq0:=H.cell w2 0 (.slice qa qk qc) i11_;replace lbq:=H.lt w2 0 (.slice qa qk qc) i11_;replace cbp0:=H.cell w3 0 (.slice pa pk pc) i5_;replace lbp:=H.lt w3 0 (.slice pa pk pc) i5_;replace cr0:=H.cell (w+2) 0 (0:Int) i18_;replace cr1:=H.cell (w+2) 1 (0:Int) i19_;replace lr:=H.lt (w+2) 0 (0:Int) i18_;replace fr0:=H.frozen (w+2) 0 i20_;replace fr1:=H.frozen (w+2) 1 i21_))
 all_goals
  go_wp2_with fail
  exact bodyPost_ret (v:=.tuple #[.agg #[X,Y],(0:Int)]) (by simp[results,Tryz.results42,go_sem,cr0,cr1]) rfl ⟨rfl,(H.old.setCell zw _).setCell zw _⟩
theorem zqm4e {P:Prop} (h:P:=by
 replace H:=H.below hb
 clear hb
 obtain⟨cr0,cr1⟩:=H.cells2 (w+2)
 have lr:=H.lt (w+2) 0 (0:Int) i18_
 obtain⟨fr0,fr1⟩:=H.frozens2 (w+2)
 go_wp2_with fail
 exact bodyPost_ret (v:=.tuple #[.agg #[(0:Int),(0:Int)],(6:Int)]) (by simp[results,Tryz.results42,go_sem,cr0,cr1]) rfl ⟨rfl,(H.old.setCell zw _).setCell zw _⟩):P:=h
theorem zOc (aa:Option Addr) (ak ac:Nat) (ba:Option Addr) (bk bc:Nat) (x y:Int) (m:Nat) (w:World) (ha:BigN w (.slice aa ak ac) x m) (hb:BigN w (.slice ba bk bc) y m) (hm:m≤30000) (hy:0<y) (hX:4611686018427387904<mN x y) :
  Calls Tryz.prog 42 #[.agg #[.slice aa ak ac],.agg #[.slice ba bk bc]] w fun e w'=>e=.returned (.tuple #[.agg #[(0:Int),(0:Int)],(6:Int)])∧Below w w w':=by
 have H:=((Held.start w).num ha).num hb
 have x0:=ha.nonneg
 have gp:=zFn x y (Or.inr hy)
 have X0:=zC1 x y x0
 have Y0:=zE1 x y hy
 obtain⟨g,HG⟩:∃g,Hid (gi x y=g):=⟨_,zh rfl⟩
 obtain⟨X,HX'⟩:∃z,Hid (mN x y=z):=⟨_,zh rfl⟩
 obtain⟨Y,HY'⟩:∃z,Hid (mD x y=z):=⟨_,zh rfl⟩
 have HX:Hid (x/g=X):=zh (by rw[←HG.out];exact HX'.out)
 have HY:Hid (y/g=Y):=zh (by rw[←HG.out];exact HY'.out)
 rw[HG.out] at gp
 rw[HX'.out] at hX X0
 rw[HY'.out] at Y0
 obtain⟨c1,hc1⟩:∃c,Hid (cmpI X 4611686018427387904=c):=⟨_,zh rfl⟩
 obtain⟨c2,hc2⟩:∃c,Hid (cmpI Y 4611686018427387904=c):=⟨_,zh rfl⟩
 have t1:decide (0<c1)=true:=by rw[←hc1.out,zF5 hX];rfl
 clear ha hb
 go_enter Tryz.func42,Tryz.ntmps42
 go_wp2_with fail
 replace H:=(((H.lone w (.slice aa ak ac) 68 rfl).lone (w+1) (.slice ba bk bc) 68 zs).pair (w+2) (0:Int) (0:Int) 48 zs)
 with_reducible refine (zT0 aa ak ac ba bk bc x y m _ (H.big (.slice aa ak ac) (x) m i9_) (H.big (.slice ba bk bc) (y) m i8_) hm).mono ?_
 rw[HG.out]
 rintro e w1 ⟨ga,gk,gc,rfl,NN,hb⟩
 replace H:=H.below hb
 clear hb
 replace H:=H.num NN
 clear NN
 have cba0:=H.cell w 0 _ i7_
 have lba:=H.lt w 0 (.slice aa ak ac) i7_
 go_wp2_with fail
 clear cba0 lba
 replace H:=(H.lone w1 (.slice ga gk gc) 68 rfl)
 with_reducible refine (zGw (.slice aa ak ac) ga gk gc x g m m _ (H.big (.slice aa ak ac) (x) m i12_) (H.big (.slice ga gk gc) (g) m i2_) hm hm gp).mono ?_
 rintro e w2 ⟨qa,qk,qc,ua,uk,uc,rfl,N1,N2,F1,F2,hb⟩
 replace H:=H.below hb
 clear hb
 rw[HX.out] at N1
 replace H:=(H.num N1).num N2
 clear N1 N2 F1 F2
 have cbb0:=H.cell (w+1) 0 _ i9_
 have lbb:=H.lt (w+1) 0 (.slice ba bk bc) i9_
 have lbb_0:=Nat.lt_trans (show w.heap.size<w.heap.size+1 by omega) lbb
 have cbg0:=H.cell w1 0 _ i2_
 have lbg:=H.lt w1 0 (.slice ga gk gc) i2_
 go_wp2_with fail
 clear cbb0 lbb lbb_0 cbg0 lbg
 replace H:=((H.lone w2 (.slice qa qk qc) 68 rfl).lone (w2+1) (.slice ua uk uc) 68 zs)
 with_reducible refine (zGw (.slice ba bk bc) ga gk gc y g m m _ (H.big (.slice ba bk bc) (y) m i17_) (H.big (.slice ga gk gc) (g) m i8_) hm hm gp).mono ?_
 rintro e w3 ⟨pa,pk,pc,va,vk,vc,rfl,N1,N2,F1,F2,hb⟩
 replace H:=H.below hb
 clear hb
 rw[HY.out] at N1
 replace H:=(H.num N1).num N2
 clear N1 N2 F1 F2
 go_wp2_with fail
 replace H:=((H.lone w3 (.slice pa pk pc) 68 rfl).lone (w3+1) (.slice va vk vc) 68 zs)
 with_reducible refine (zId 4611686018427387904 _ zo zo).mono ?_
 rintro e w4 ⟨fa,fk,fc,rfl,NN,-,hb⟩
 replace H:=H.below hb
 clear hb
 replace H:=H.num NN
 clear NN
 have cbq0:=H.cell w2 0 _ i9_
 have lbq:=H.lt w2 0 (.slice qa qk qc) i9_
 go_wp2_with fail
 clear cbq0 lbq
 replace H:=(H.lone w4 (.slice fa fk fc) 68 rfl)
 with_reducible refine (zH8 (.slice qa qk qc) (.slice fa fk fc) X 4611686018427387904 m 5 _ (H.big (.slice qa qk qc) (X) m i14_) (H.big (.slice fa fk fc) (4611686018427387904) 5 i2_) zo zo).mono ?_
 rw[hc1.out]
 rintro e w5 ⟨rfl,hb⟩
 exact zqm4e
theorem zOd (aa:Option Addr) (ak ac:Nat) (ba:Option Addr) (bk bc:Nat) (x y:Int) (m:Nat) (w:World) (ha:BigN w (.slice aa ak ac) x m) (hb:BigN w (.slice ba bk bc) y m) (hm:m≤30000) (hy:0<y) (hX:mN x y≤4611686018427387904) (hY:4611686018427387904<mD x y) :
  Calls Tryz.prog 42 #[.agg #[.slice aa ak ac],.agg #[.slice ba bk bc]] w fun e w'=>e=.returned (.tuple #[.agg #[(0:Int),(0:Int)],(6:Int)])∧Below w w w':=by
 have H:=((Held.start w).num ha).num hb
 have x0:=ha.nonneg
 have gp:=zFn x y (Or.inr hy)
 have X0:=zC1 x y x0
 have Y0:=zE1 x y hy
 obtain⟨g,HG⟩:∃g,Hid (gi x y=g):=⟨_,zh rfl⟩
 obtain⟨X,HX'⟩:∃z,Hid (mN x y=z):=⟨_,zh rfl⟩
 obtain⟨Y,HY'⟩:∃z,Hid (mD x y=z):=⟨_,zh rfl⟩
 have HX:Hid (x/g=X):=zh (by rw[←HG.out];exact HX'.out)
 have HY:Hid (y/g=Y):=zh (by rw[←HG.out];exact HY'.out)
 rw[HG.out] at gp
 rw[HX'.out] at hX X0
 rw[HY'.out] at hY Y0
 obtain⟨c1,hc1⟩:∃c,Hid (cmpI X 4611686018427387904=c):=⟨_,zh rfl⟩
 obtain⟨c2,hc2⟩:∃c,Hid (cmpI Y 4611686018427387904=c):=⟨_,zh rfl⟩
 have t1:decide (0<c1)=false:=by rw[←hc1.out];exact zF6 hX
 have t2:decide (0<c2)=true:=by rw[←hc2.out,zF5 hY];rfl
 clear ha hb
 go_enter Tryz.func42,Tryz.ntmps42
 go_wp2_with fail
 replace H:=(((H.lone w (.slice aa ak ac) 68 rfl).lone (w+1) (.slice ba bk bc) 68 zs).pair (w+2) (0:Int) (0:Int) 48 zs)
 with_reducible refine (zT0 aa ak ac ba bk bc x y m _ (H.big (.slice aa ak ac) (x) m i9_) (H.big (.slice ba bk bc) (y) m i8_) hm).mono ?_
 rw[HG.out]
 rintro e w1 ⟨ga,gk,gc,rfl,NN,hb⟩
 replace H:=H.below hb
 clear hb
 replace H:=H.num NN
 clear NN
 have cba0:=H.cell w 0 _ i7_
 have lba:=H.lt w 0 (.slice aa ak ac) i7_
 go_wp2_with fail
 clear cba0 lba
 replace H:=(H.lone w1 (.slice ga gk gc) 68 rfl)
 with_reducible refine (zGw (.slice aa ak ac) ga gk gc x g m m _ (H.big (.slice aa ak ac) (x) m i12_) (H.big (.slice ga gk gc) (g) m i2_) hm hm gp).mono ?_
 rintro e w2 ⟨qa,qk,qc,ua,uk,uc,rfl,N1,N2,F1,F2,hb⟩
 replace H:=H.below hb
 clear hb
 rw[HX.out] at N1
 replace H:=(H.num N1).num N2
 clear N1 N2 F1 F2
 have cbb0:=H.cell (w+1) 0 _ i9_
 have lbb:=H.lt (w+1) 0 (.slice ba bk bc) i9_
 have lbb_0:=Nat.lt_trans (show w.heap.size<w.heap.size+1 by omega) lbb
 have cbg0:=H.cell w1 0 _ i2_
 have lbg:=H.lt w1 0 (.slice ga gk gc) i2_
 go_wp2_with fail
 clear cbb0 lbb lbb_0 cbg0 lbg
 replace H:=((H.lone w2 (.slice qa qk qc) 68 rfl).lone (w2+1) (.slice ua uk uc) 68 zs)
 with_reducible refine (zGw (.slice ba bk bc) ga gk gc y g m m _ (H.big (.slice ba bk bc) (y) m i17_) (H.big (.slice ga gk gc) (g) m i8_) hm hm gp).mono ?_
 rintro e w3 ⟨pa,pk,pc,va,vk,vc,rfl,N1,N2,F1,F2,hb⟩
 replace H:=H.below hb
 clear hb
 rw[HY.out] at N1
 replace H:=(H.num N1).num N2
 clear N1 N2 F1 F2
 go_wp2_with fail
 replace H:=((H.lone w3 (.slice pa pk pc) 68 rfl).lone (w3+1) (.slice va vk vc) 68 zs)
 with_reducible refine (zId 4611686018427387904 _ zo zo).mono ?_
 rintro e w4 ⟨fa,fk,fc,rfl,NN,-,hb⟩
 replace H:=H.below hb
 clear hb
 replace H:=H.num NN
 clear NN
 have cbq0:=H.cell w2 0 _ i9_
 have lbq:=H.lt w2 0 (.slice qa qk qc) i9_
 go_wp2_with fail
 clear cbq0 lbq
 replace H:=(H.lone w4 (.slice fa fk fc) 68 rfl)
 with_reducible refine (zH8 (.slice qa qk qc) (.slice fa fk fc) X 4611686018427387904 m 5 _ (H.big (.slice qa qk qc) (X) m i14_) (H.big (.slice fa fk fc) (4611686018427387904) 5 i2_) zo zo).mono ?_
 rw[hc1.out]
 rintro e w5 ⟨rfl,hb⟩
 replace H:=H.below hb
 clear hb
 have cbp0:=H.cell w3 0 _ i5_
 have lbp:=H.lt w3 0 (.slice pa pk pc) i5_
 have cbf0:=H.cell w4 0 _ i0_
 have lbf:=H.lt w4 0 (.slice fa fk fc) i0_
 go_wp2_with fail
 clear cbp0 lbp cbf0 lbf
 with_reducible refine (zH8 (.slice pa pk pc) (.slice fa fk fc) Y 4611686018427387904 m 5 _ (H.big (.slice pa pk pc) (Y) m i8_) (H.big (.slice fa fk fc) (4611686018427387904) 5 i2_) zo zo).mono ?_
 rw[hc2.out]
 rintro e w6 ⟨rfl,hb⟩
 exact zqm4e
theorem made_n (aa:Option Addr) (ak ac:Nat) (ba:Option Addr) (bk bc:Nat) (x y:Int) (m:Nat) (w:World) (ha:BigN w (.slice aa ak ac) x m) (hb:BigN w (.slice ba bk bc) y m) (hm:m≤30000) (hy:0<y) :
  Calls Tryz.prog 42 #[.agg #[.slice aa ak ac],.agg #[.slice ba bk bc]] w fun e w'=>e=.returned (.tuple #[.agg #[(rN x y),(rD x y)],(rE x y)])∧Below w w w':=by
 by_cases h:fitB x y=true
 ·have k:=(zCa x y).1 h
  obtain⟨a,b,c⟩:=zCo h
  rw[a,b,c]
  exact made_ok aa ak ac ba bk bc x y m w ha hb hm hy k.1 k.2
 ·obtain⟨a,b,c⟩:=r_no h
  rw[a,b,c]
  by_cases h1:mN x y≤4611686018427387904
  ·have h2:4611686018427387904<mD x y:=by
    by_cases h2:mD x y≤4611686018427387904
    ·exact absurd ((zCa x y).2 ⟨h1,h2⟩) h
    ·omega
   exact zOd aa ak ac ba bk bc x y m w ha hb hm hy h1 h2
  ·exact zOc aa ak ac ba bk bc x y m w ha hb hm hy zo
theorem zDt (n d:Int) (w:World) (n0:0≤n) (n1:n<9223372036854775808) (d0:0<d) (d1:d<9223372036854775808) :
  Calls Tryz.prog 70 #[n,d] w fun e w'=>e=.returned (.tuple #[.agg #[(rN n d),(rD n d)],(rE n d)])∧Below w w w':=by
 have H:=Held.start w
 obtain⟨rn,RN⟩:∃x,Hid (rN n d=x):=⟨_,zh rfl⟩
 obtain⟨rd,RD⟩:∃x,Hid (rD n d=x):=⟨_,zh rfl⟩
 obtain⟨re,RE⟩:∃x,Hid (rE n d=x):=⟨_,zh rfl⟩
 rw[RN.out,RD.out,RE.out]
 have t1:decide (n<0)=false:=zx
 have t2:decide (d<0)=false:=zx
 have t3:(d==0)=false:=beq_eq_false_iff_ne.2 zo
 go_enter Tryz.func70,Tryz.ntmps70
 go_wp2_with fail
 replace H:=(H.pair w (0:Int) (0:Int) 48 rfl)
 with_reducible refine (zCb n _ zo zo).mono ?_
 rintro e w1 ⟨pa,pk,pc,rfl,NN,-,hb⟩
 replace H:=H.below hb
 clear hb
 replace H:=H.num NN
 clear NN
 go_wp2_with fail
 with_reducible refine (zCb d _ zo zo).mono ?_
 rintro e w2 ⟨qa,qk,qc,rfl,NN,-,hb⟩
 replace H:=H.below hb
 clear hb
 replace H:=H.num NN
 clear NN
 go_wp2_with fail
 with_reducible refine (made_n pa pk pc qa qk qc n d 5 _ (H.big (.slice pa pk pc) (n) 5 i1_) (H.big (.slice qa qk qc) (d) 5 i0_) zo d0).mono ?_
 rw[RN.out,RD.out,RE.out]
 rintro e w3 ⟨rfl,hb⟩
 replace H:=H.below hb
 clear hb
 obtain⟨cr0,cr1⟩:=H.cells2 w
 have lr:=H.lt w 0 (0:Int) i2_
 obtain⟨fr0,fr1⟩:=H.frozens2 w
 go_wp2_with fail
 exact bodyPost_ret (v:=.tuple #[.agg #[rn,rd],re]) (by simp[results,Tryz.results70,go_sem,cr0,cr1]) rfl ⟨rfl,(H.old.setCell zw _).setCell zw _⟩
end Go.Proofs.YtpfgdfpaoldhcaaGreatDoor
