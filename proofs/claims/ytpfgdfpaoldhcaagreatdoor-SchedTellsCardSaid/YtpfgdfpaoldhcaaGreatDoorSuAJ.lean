/- Several texts in one: MoCut, MoMonths, RefBig, RefArith, Quad, New. -/
import Derived.Test.YtpfgdfpaoldhcaaGreatDoorSuAD
import Derived.Test.YtpfgdfpaoldhcaaGreatDoorSuAH
set_option maxHeartbeats 8000000
set_option maxRecDepth 100000
set_option linter.unusedVariables false
set_option linter.unusedSimpArgs false
namespace Go.Proofs.YtpfgdfpaoldhcaaGreatDoor
open Go.RowKit
theorem on_in (y m d k Y M:Int) (w:World) (h:may y m d) (h1:1≤Y) (h2:Y≤9999) (h3:1≤M) (h4:M≤12) (hM:12*Y+M=12*y+m+k) :
  Calls Tryz.prog 143 #[.agg #[y,m,d],k] w fun e w'=>e=.returned (.tuple #[Y,M,(0:Int)])∧Below w w w':=by
 have D:∀w:World,Below w w (w.alloc (.cells #[y,m,d] 86)):=fun w=>(Below.refl _ _).alloc (Nat.le_refl _) _
 obtain⟨a1,a2,a3,a4,a5,a6⟩:=h
 clear a6
 have t1:¬k < -((y-1)*12+m-1):=zo
 have t2:¬k>119987-((y-1)*12+m-1):=zo
 have e1:1+((y-1)*12+m-1+k)/12=Y:=zo
 have e2:1+((y-1)*12+m-1+k)%12=M:=zo
 go_enter Tryz.func143,Tryz.ntmps143
 go_wp2
 exact bodyPost_ret (v:=.tuple #[Y,M,(0:Int)]) (by simp[results,Tryz.results143,go_sem]) rfl ⟨rfl,D _⟩
theorem zqwv5 {P:Prop} (h:P:=by
 go_enter Tryz.func143,Tryz.ntmps143
 go_wp2
 exact bodyPost_ret (v:=.tuple #[(0:Int),(0:Int),(3:Int)]) (by simp[results,Tryz.results143,go_sem]) rfl ⟨rfl,D _⟩):P:=h
theorem on_far (y m d k:Int) (w:World) (h:may y m d) (hk:12*y+m+k<13∨120000<12*y+m+k) :
  Calls Tryz.prog 143 #[.agg #[y,m,d],k] w fun e w'=>e=.returned (.tuple #[(0:Int),(0:Int),(3:Int)])∧Below w w w':=by
 have D:∀w:World,Below w w (w.alloc (.cells #[y,m,d] 86)):=fun w=>(Below.refl _ _).alloc (Nat.le_refl _) _
 obtain⟨a1,a2,a3,a4,a5,a6⟩:=h
 clear a6
 by_cases t1:k < -((y-1)*12+m-1)
 ·exact zqwv5
 ·have t2:k>119987-((y-1)*12+m-1):=zo
  exact zqwv5
theorem zQp (y m d n e:Int) (w:World) (hL:Lens w) (hn:nN y m (min d (ln y m))=n∧nE y m (min d (ln y m))=e) :
  Calls Tryz.prog 144 #[y,m,d,.func (.func 145) #[] #[]] w fun e' w'=>e'=.returned (.tuple #[n,e])∧Below w w w':=by
 have HL:=zh hL
 have C1:=zh (fun v h=>zBt y m v h)
 have HN:=zh hn
 clear hL hn
 obtain⟨l,HB⟩:∃l,Hid (ln y m=l):=⟨_,zh rfl⟩
 rw[HB.out] at C1 HN
 go_enter Tryz.func144,Tryz.ntmps144
 go_wp2_with fail
 with_reducible refine (C1.out _ HL.out).mono ?_
 rintro e w1 ⟨rfl,rfl⟩
 go_wp2_with fail
 all_goals first
  | ((with_reducible refine (zCc y m (min d l) n e _ HL.out HN.out).mono ?_);rintro e w1 ⟨rfl,hb⟩;go_wp2;go_ret2;exact⟨rfl,hb⟩)
  | (rw[Int.min_eq_right zo] at HN;(with_reducible refine (zCc y m l n e _ HL.out HN.out).mono ?_);rintro e w1 ⟨rfl,hb⟩;go_wp2;go_ret2;exact⟨rfl,hb⟩)
  | (rw[Int.min_eq_left zo] at HN;(with_reducible refine (zCc y m d n e _ HL.out HN.out).mono ?_);rintro e w1 ⟨rfl,hb⟩;go_wp2;go_ret2;exact⟨rfl,hb⟩)
theorem same_any (y m d D:Int) (B:Nat) (w:World) (b:Bool) (h0:w.cell? ⟨B,0,none⟩=some (.int .i64 y)) (h1:w.cell? ⟨B,1,none⟩=some (.int .i64 m)) (h2:w.cell? ⟨B,2,none⟩=some (.int .i64 d))
  (hb:decide (d=D)=b) :
  Calls Tryz.prog 147 #[.agg #[y,m,D],.pointer (some ⟨B,0,none⟩)] w fun e w'=>e=.returned (.tuple #[b,(0:Int)])∧Below w w w':=by
 have A:∀w:World,Below w w (w.alloc (.cells #[y,m,D] 86)):=fun w=>(Below.refl _ _).alloc (Nat.le_refl _) _
 have l0:=zA0 h0
 by_cases hd:d=D
 ·subst hd
  obtain rfl:true=b:=by rw[←hb];simp
  clear hb
  go_enter Tryz.func147,Tryz.ntmps147
  go_wp2
  go_ret2
  exact⟨rfl,A _⟩
 ·obtain rfl:false=b:=by rw[←hb];simp[hd]
  clear hb
  go_enter Tryz.func147,Tryz.ntmps147
  go_wp2
  go_ret2
  exact⟨rfl,A _⟩
theorem cutb_any (y m d:Int) (B:Nat) (b:Bool) (w:World) (hL:Lens w) (h0:w.cell? ⟨B,0,none⟩=some (.int .i64 y)) (h1:w.cell? ⟨B,1,none⟩=some (.int .i64 m)) (h2:w.cell? ⟨B,2,none⟩=some (.int .i64 d))
    (hb:decide (d=ln y m)=b) :
    Calls Tryz.prog 146 #[y,m,(31:Int),.func (.func 147) #[] #[.pointer (some ⟨B,0,none⟩)]] w fun e' w'=>e'=.returned (.tuple #[b,(0:Int)])∧Below w w w':=by
  have C1:=zh (zBt y m w hL)
  have b31:=(zAh y m).2
  obtain⟨l,HB⟩:∃l,Hid (ln y m=l):=⟨_,zh rfl⟩
  rw[HB.out] at C1 b31 hb
  have C2:=zh (same_any y m d l B w b h0 h1 h2 hb)
  clear hL hb h0 h1 h2
  have t:¬l>31:=zo
  go_enter Tryz.func146,Tryz.ntmps146
  go_wp2_with fail
  with_reducible refine C1.out.mono ?_
  rintro e w1 ⟨rfl,rfl⟩
  go_wp2_with fail
  all_goals first
    | ((with_reducible refine C2.out.mono ?_);rintro e w1 ⟨rfl,hb⟩;go_wp2;go_ret2;exact⟨rfl,hb⟩)
    | (rw[show min 31 l=l from Int.min_eq_right b31];(with_reducible refine C2.out.mono ?_);rintro e w1 ⟨rfl,hb⟩;go_wp2;go_ret2;exact⟨rfl,hb⟩)
    | (have e31:l=31:=zo
       subst e31
       (with_reducible refine C2.out.mono ?_);rintro e w1 ⟨rfl,hb⟩;go_wp2;go_ret2;exact⟨rfl,hb⟩)
theorem zL3 (n y m d:Int) (b:Bool) (w:World) (hL:Lens w) (h:may y m d) (hn:nb y m d=n) (hb:decide (d=ln y m)=b) :
  Calls Tryz.prog 125 #[n] w fun e' w'=>e'=.returned b∧Below w w w':=by
 have H:=(Held.start w).add (f:=zAa) hL
 clear hL
 have O1:Hid (zAf n y m d 0):=zh (Or.inl ⟨h,hn,rfl⟩)
 have HB:=zh hb
 clear h hn hb
 go_enter Tryz.func125,Tryz.ntmps125
 go_wp2_with fail
 revert H
 with_reducible refine zG (fun H=>zAx n y m d 0 _ (H.lens i0_) O1.out) ?_
 intro w1 H
 go_wp2_with fail
 replace H:=(H.triple w1 y m d 86 rfl)
 obtain⟨cc0,cc1,cc2⟩:=H.cells3 w1
 have lc:=H.lt w1 0 y i0_
 revert H
 with_reducible refine zG (fun H=>cutb_any y m d w1 b _ (H.lens i6_) cc0 cc1 cc2 HB.out) ?_
 intro w2 H
 go_wp2
 go_ret
 exact⟨rfl,H.old⟩
theorem zJi (n:Int) (w:World) (hL:Lens w) (h:n<1∨3652059<n) :
  Calls Tryz.prog 125 #[n] w fun e' w'=>e'=.returned false∧Below w w w':=by
 have H:=(Held.start w).add (f:=zAa) hL
 clear hL
 have O1:Hid (zAf n 0 0 0 3):=zh (Or.inr ⟨h,rfl,rfl,rfl,rfl⟩)
 clear h
 go_enter Tryz.func125,Tryz.ntmps125
 go_wp2_with fail
 revert H
 with_reducible refine zG (fun H=>zAx n 0 0 0 3 _ (H.lens i0_) O1.out) ?_
 intro w1 H
 exact zqq9b
theorem zIi (n:Int) (b:Bool) (w:World) (hL:Lens w) (h:zB6 n b):Calls Tryz.prog 125 #[n] w fun e' w'=>e'=.returned b∧Below w w w':=by
 rcases h with⟨y,m,d,h1,h2,rfl⟩ | ⟨h,rfl⟩
 ·exact zL3 n y m d _ w hL h1 h2 rfl
 ·exact zJi n w hL h
theorem zO2 (n y m d r:Int) (w:World) (hL:Lens w) (h:may y m d) (hn:nb y m d=n) (hr:nb y m (ln y m)=r) :
  Calls Tryz.prog 126 #[n] w fun e' w'=>e'=.returned (.tuple #[r,(0:Int)])∧Below w w w':=by
 have H:=(Held.start w).add (f:=zAa) hL
 clear hL
 have O1:Hid (zAf n y m d 0):=zh (Or.inl ⟨h,hn,rfl⟩)
 have HB:Hid (nN y m (min 31 (ln y m))=r∧nE y m (min 31 (ln y m))=0):=zh (by
  rw[Int.min_eq_right (zAh y m).2,←hr];exact zEa (end_may y m d h))
 clear h hn hr
 go_enter Tryz.func126,Tryz.ntmps126
 go_wp2_with fail
 revert H
 with_reducible refine zG (fun H=>zAx n y m d 0 _ (H.lens i0_) O1.out) ?_
 intro w1 H
 go_wp2_with fail
 replace H:=(H.triple w1 y m d 86 rfl)
 revert H
 with_reducible refine zG (fun H=>zQp y m 31 r 0 _ (H.lens i6_) HB.out) ?_
 intro w2 H
 go_wp2
 go_ret2
 exact⟨rfl,H.old⟩
theorem zqcz7 {P:Prop} (h:P:=by
 go_wp2_with fail
 revert H
 with_reducible refine zG (fun H=>zAx n 0 0 0 3 _ (H.lens i0_) O1.out) ?_
 exact zq3y8):P:=h
theorem zKw (n:Int) (w:World) (hL:Lens w) (h:n<1∨3652059<n) :
  Calls Tryz.prog 126 #[n] w fun e' w'=>e'=.returned (.tuple #[(0:Int),(3:Int)])∧Below w w w':=by
 have H:=(Held.start w).add (f:=zAa) hL
 clear hL
 have O1:Hid (zAf n 0 0 0 3):=zh (Or.inr ⟨h,rfl,rfl,rfl,rfl⟩)
 clear h
 go_enter Tryz.func126,Tryz.ntmps126
 exact zqcz7
theorem end_any (n r e:Int) (w:World) (hL:Lens w) (h:EndIs n r e):Calls Tryz.prog 126 #[n] w fun e' w'=>e'=.returned (.tuple #[r,e])∧Below w w w':=by
 rcases h with⟨y,m,d,h1,h2,rfl,rfl⟩ | ⟨h,rfl,rfl⟩
 ·exact zO2 n y m d _ w hL h1 h2 rfl
 ·exact zKw n w hL h
theorem zKd (n k y m d Y M r:Int) (w:World) (hL:Lens w) (h:may y m d) (hn:nb y m d=n) (h1:1≤Y) (h2:Y≤9999) (h3:1≤M) (h4:M≤12) (hM:12*Y+M=12*y+m+k) (hr:nb Y M (min d (ln Y M))=r) :
  Calls Tryz.prog 124 #[n,k] w fun e' w'=>e'=.returned (.tuple #[r,(0:Int)])∧Below w w w':=by
 have H:=(Held.start w).add (f:=zAa) hL
 clear hL
 have O1:Hid (zAf n y m d 0):=zh (Or.inl ⟨h,hn,rfl⟩)
 have HB:Hid (nN Y M (min d (ln Y M))=r∧nE Y M (min d (ln Y M))=0):=zh (by
  rw[←hr];have:=zQu false y m d Y M h h1 h2 h3 h4;unfold dm at this;simp only[Bool.false_eq_true,false_and,if_false] at this;exact zEa this)
 have C1:=zh (fun v=>on_in y m d k Y M v h h1 h2 h3 h4 hM)
 clear h hn hr hM
 go_enter Tryz.func124,Tryz.ntmps124
 go_wp2_with fail
 revert H
 with_reducible refine zG (fun H=>zAx n y m d 0 _ (H.lens i0_) O1.out) ?_
 intro w1 H
 go_wp2_with fail
 replace H:=(H.triple w1 y m d 86 rfl)
 revert H
 with_reducible refine zG (fun _=>C1.out _) ?_
 intro w2 H
 obtain⟨cc0,cc1,cc2⟩:=H.cells3 w1
 have lc:=H.lt w1 0 y i0_
 go_wp2_with fail
 clear cc0 cc1 cc2 lc
 revert H
 with_reducible refine zG (fun H=>zQp Y M d r 0 _ (H.lens i6_) HB.out) ?_
 intro w3 H
 go_wp2
 go_ret2
 exact⟨rfl,H.old⟩
theorem zIt (n k y m d:Int) (w:World) (hL:Lens w) (h:may y m d) (hn:nb y m d=n) (hk:12*y+m+k<13∨120000<12*y+m+k) :
  Calls Tryz.prog 124 #[n,k] w fun e' w'=>e'=.returned (.tuple #[(0:Int),(3:Int)])∧Below w w w':=by
 have H:=(Held.start w).add (f:=zAa) hL
 clear hL
 have O1:Hid (zAf n y m d 0):=zh (Or.inl ⟨h,hn,rfl⟩)
 have C1:=zh (fun v=>on_far y m d k v h hk)
 clear h hn hk
 go_enter Tryz.func124,Tryz.ntmps124
 go_wp2_with fail
 revert H
 with_reducible refine zG (fun H=>zAx n y m d 0 _ (H.lens i0_) O1.out) ?_
 intro w1 H
 go_wp2_with fail
 replace H:=(H.triple w1 y m d 86 rfl)
 revert H
 with_reducible refine zG (fun _=>C1.out _) ?_
 intro w2 H
 go_wp2
 go_ret2
 exact⟨rfl,H.old⟩
theorem zIu (n k:Int) (w:World) (hL:Lens w) (h:n<1∨3652059<n) :
  Calls Tryz.prog 124 #[n,k] w fun e' w'=>e'=.returned (.tuple #[(0:Int),(3:Int)])∧Below w w w':=by
 have H:=(Held.start w).add (f:=zAa) hL
 clear hL
 have O1:Hid (zAf n 0 0 0 3):=zh (Or.inr ⟨h,rfl,rfl,rfl,rfl⟩)
 clear h
 go_enter Tryz.func124,Tryz.ntmps124
 exact zqcz7
theorem zDj (n k r e:Int) (w:World) (hL:Lens w) (h:zD3 n k false r e):Calls Tryz.prog 124 #[n,k] w fun e' w'=>e'=.returned (.tuple #[r,e])∧Below w w w':=by
 rcases h with⟨y,m,d,Y,M,h,hn,h1,h2,h3,h4,hM,rfl,rfl⟩ | ⟨⟨y,m,d,h,hn,hk⟩,rfl,rfl⟩ | ⟨h,rfl,rfl⟩
 ·exact zKd n k y m d Y M _ w hL h hn h1 h2 h3 h4 hM (by unfold dm;simp)
 ·exact zIt n k y m d w hL h hn hk
 ·exact zIu n k w hL h
theorem zJn (n k y m Y M r:Int) (w:World) (hL:Lens w) (h:may y m (ln y m)) (hn:nb y m (ln y m)=n) (h1:1≤Y) (h2:Y≤9999) (h3:1≤M) (h4:M≤12) (hM:12*Y+M=12*y+m+k) (hr:nb Y M (ln Y M)=r) :
  Calls Tryz.prog 110 #[n,k,true] w fun e' w'=>e'=.returned (.tuple #[r,(0:Int)])∧Below w w w':=by
 have H:=(Held.start w).add (f:=zAa) hL
 clear hL
 obtain⟨s,hs⟩:∃s,nb Y M (min (ln y m) (ln Y M))=s:=⟨_,rfl⟩
 have hD:=zQu false y m (ln y m) Y M h h1 h2 h3 h4
 have e:dm false y m (ln y m) Y M=min (ln y m) (ln Y M):=by unfold dm;simp
 rw[e] at hD
 have M1:Hid (zD3 n k false s 0):=zh (zIl y m (ln y m) Y M _ h hn h1 h2 h3 h4 hM e hs)
 have L1:Hid (zB6 n true):=zh (zAy y m (ln y m) h hn zs)
 have E1:Hid (EndIs s r 0):=zh (end_in Y M _ hD hs hr)
 clear h hn hM hr hs hD e
 go_enter Tryz.func110,Tryz.ntmps110
 go_wp2_with fail
 revert H
 with_reducible refine zG (fun H=>zDj n k s 0 _ (H.lens i0_) M1.out) ?_
 intro w1 H
 go_wp2_with fail
 revert H
 with_reducible refine zG (fun H=>zIi n true _ (H.lens i0_) L1.out) ?_
 intro w2 H
 go_wp2_with fail
 revert H
 with_reducible refine zG (fun H=>end_any s r 0 _ (H.lens i0_) E1.out) ?_
 intro w3 H
 go_wp2
 go_ret2
 exact⟨rfl,H.old⟩
theorem zJo (n k r:Int) (w:World) (hL:Lens w) (hm:zD3 n k false r 0) (hl:zB6 n false) :
  Calls Tryz.prog 110 #[n,k,true] w fun e' w'=>e'=.returned (.tuple #[r,(0:Int)])∧Below w w w':=by
 have H:=(Held.start w).add (f:=zAa) hL
 clear hL
 have M1:=zh hm
 have L1:=zh hl
 clear hm hl
 go_enter Tryz.func110,Tryz.ntmps110
 go_wp2_with fail
 revert H
 with_reducible refine zG (fun H=>zDj n k r 0 _ (H.lens i0_) M1.out) ?_
 intro w1 H
 go_wp2_with fail
 revert H
 with_reducible refine zG (fun H=>zIi n false _ (H.lens i0_) L1.out) ?_
 intro w2 H
 go_wp2
 go_ret2
 exact⟨rfl,H.old⟩
theorem zqmvr {P:Prop} (h:P:=by
 go_enter Tryz.func110,Tryz.ntmps110
 go_wp2_with fail
 revert H
 with_reducible refine zG (fun H=>zDj n k r 3 _ (H.lens i0_) M1.out) ?_
 intro w1 H
 go_wp2
 go_ret2
 exact⟨rfl,H.old⟩):P:=h
theorem zHa (n k r e:Int) (w:World) (hL:Lens w) (hm:zD3 n k false r e) (he:e=0∨e=3) :
  Calls Tryz.prog 110 #[n,k,false] w fun e' w'=>e'=.returned (.tuple #[r,e])∧Below w w w':=by
 have H:=(Held.start w).add (f:=zAa) hL
 clear hL
 have M1:=zh hm
 clear hm
 rcases he with rfl | rfl
 ·go_enter Tryz.func110,Tryz.ntmps110
  go_wp2_with fail
  revert H
  with_reducible refine zG (fun H=>zDj n k r 0 _ (H.lens i0_) M1.out) ?_
  intro w1 H
  go_wp2
  go_ret2
  exact⟨rfl,H.old⟩
 ·exact zqmvr
theorem zFq (n k r:Int) (b:Bool) (w:World) (hL:Lens w) (hm:zD3 n k false r 3) :
  Calls Tryz.prog 110 #[n,k,b] w fun e' w'=>e'=.returned (.tuple #[r,(3:Int)])∧Below w w w':=by
 have H:=(Held.start w).add (f:=zAa) hL
 clear hL
 have M1:=zh hm
 clear hm
 exact zqmvr
theorem move_any (n k r e:Int) (b:Bool) (w:World) (hL:Lens w) (h:zD3 n k b r e):Calls Tryz.prog 110 #[n,k,b] w fun e' w'=>e'=.returned (.tuple #[r,e])∧Below w w w':=by
 rcases h with⟨y,m,d,Y,M,h,hn,h1,h2,h3,h4,hM,hr,rfl⟩ | ⟨⟨y,m,d,h,hn,hk⟩,rfl,rfl⟩ | ⟨h,rfl,rfl⟩
 ·cases b
  ·exact zHa n k r 0 w hL (zIl y m d Y M _ h hn h1 h2 h3 h4 hM rfl hr) (Or.inl rfl)
  ·by_cases hd:d=ln y m
   ·subst hd
    exact zJn n k y m Y M r w hL h hn h1 h2 h3 h4 hM (by unfold dm at hr;simpa using hr)
   ·refine zJo n k r w hL (zIl y m d Y M _ h hn h1 h2 h3 h4 hM rfl ?_) (zAy y m d h hn (by simp[hd]))
    unfold dm at hr ⊢;simpa [hd] using hr
 ·exact zFq n k 0 b w hL (zN5 y m d h hn hk)
 ·exact zFq n k 0 b w hL (move_out h)
def TwoOut (n d:Int) (w:World) (e:Ending) (w':World):Prop:=∃a k c a2 k2 c2,e=.returned (.tuple #[.agg #[.slice a k c],.agg #[.slice a2 k2 c2]])∧BigN w' (.slice a k c) n 5∧BigN w' (.slice a2 k2 c2) d 5 ∧
 (∀g,(Value.slice a k c).ownBlock=some g→w.heap.size≤g)∧(∀g,(Value.slice a2 k2 c2).ownBlock=some g→w.heap.size≤g)∧Below w w w'
theorem two_out {w W:World} {B:Nat} {n d:Int} {a a2:Option Addr} {k c k2 c2:Nat} (hB:w.heap.size=B) (h1:BigN W (.slice a k c) n 5) (h2:BigN W (.slice a2 k2 c2) d 5) (f1:∀g,(Value.slice a k c).ownBlock=some g→B+3≤g) (f2:∀g,(Value.slice a2 k2 c2).ownBlock=some g→B+3≤g) (old:Below B w W) :
  TwoOut n d w (.returned (.tuple #[.agg #[.slice a k c],.agg #[.slice a2 k2 c2]])) ((W.setCell ⟨B+1,0,none⟩ (.slice a k c)).setCell ⟨B+2,0,none⟩ (.slice a2 k2 c2)):=by
 subst hB
 refine⟨a,k,c,a2,k2,c2,rfl,zAz (zAz h1 f1 zs) f1 zs,zAz (zAz h2 f2 zs) f2 zs,fun g hg=>by have:=f1 g hg;omega,fun g hg=>by have:=f2 g hg;omega,(old.setCell zs _).setCell zs _⟩
theorem big_n (n d:Int) (w:World) (n0:0≤n) (n1:n<9223372036854775808) (d0:0≤d) (d1:d<9223372036854775808) :
  Calls Tryz.prog 41 #[.agg #[n,d]] w (TwoOut n d w):=by
 have H:=Held.start w
 obtain⟨B,hB⟩:∃B,w.heap.size=B:=⟨_,rfl⟩
 have HB:=zh hB
 clear hB
 go_enter Tryz.func41,Tryz.ntmps41
 go_wp2_with fail
 replace H:=(((H.pair w n d 48 rfl).lone (w+1) (.slice none 0 0) 68 zs).lone (w+2) (.slice none 0 0) 68 zs)
 obtain⟨ca0,ca1⟩:=H.cells2 w
 have la:=H.lt w 0 n i4_
 have cp0:=H.cell (w+1) 0 _ i2_
 have lp:=H.lt (w+1) 0 (.slice none 0 0) i2_
 have cq0:=H.cell (w+2) 0 _ i0_
 have lq:=H.lt (w+2) 0 (.slice none 0 0) i0_
 have fp0:=H.frozen (w+1) 0 i3_
 have fq0:=H.frozen (w+2) 0 i1_
 replace H:=H.drew
 go_region_with
  (first
   | (go_at_call 33;(with_reducible refine (zCb n _ zo zo).mono ?_);rintro e w' ⟨sa,sk,sc,rfl,NN,FN,hb⟩;have FS:=zh (fun g hg=>show w.heap.size+3≤g from Nat.le_trans (H.lt (w+2) 0 (.slice none 0 0)) (FN g hg));replace H:=(H.below hb).num NN;clear hb NN FN;replace ca0:=H.cell w 0 n;replace ca1:=H.cell w 1 d;replace la:=H.lt w 0 n;replace cp0:=H.cell (w+1) 0 (.slice none 0 0);replace lp:=H.lt (w+1) 0 (.slice none 0 0);replace cq0:=H.cell (w+2) 0 (.slice none 0 0);replace lq:=H.lt (w+2) 0 (.slice none 0 0);replace fp0:=H.frozen (w+1) 0;replace fq0:=H.frozen (w+2) 0)
   | (go_at_call 33;(with_reducible refine (zCb d _ zo zo).mono ?_);rintro e w' ⟨ta,tk,tc,rfl,NN,FN,hb⟩;have FT:=zh (fun g hg=>show w.heap.size+3≤g from Nat.le_trans (H.lt (w+2) 0 (.slice none 0 0)) (FN g hg));replace H:=(H.below hb).num NN;clear hb NN FN;replace ca0:=H.cell w 0 n;replace ca1:=H.cell w 1 d;replace la:=H.lt w 0 n;replace cp0:=H.cell (w+1) 0 (.slice none 0 0);replace lp:=H.lt (w+1) 0 (.slice none 0 0);replace cq0:=H.cell (w+2) 0 (.slice none 0 0);replace lq:=H.lt (w+2) 0 (.slice none 0 0);replace fp0:=H.frozen (w+1) 0;replace fq0:=H.frozen (w+2) 0))
 all_goals
  have FIN:=zh (two_out rfl (H.big (.slice sa sk sc) n 5) (H.big (.slice ta tk tc) d 5) FS.out FT.out H.old)
  go_wp2
  exact bodyPost_ret (v:=.tuple #[.agg #[.slice sa sk sc],.agg #[.slice ta tk tc]]) (by simp[results,Tryz.results41,go_sem,cp0,cq0]) rfl FIN.out
theorem zHu (an ad bn bd:Int) (w:World) (ha:zAi an ad=true) (hb:zAi bn bd=true) :
  Calls Tryz.prog 18 #[.agg #[an,ad],.agg #[bn,bd]] w fun e w'=>e=.returned (.tuple #[.agg #[(rN (an*bd+bn*ad) (ad*bd):Int),(rD (an*bd+bn*ad) (ad*bd):Int)],(rE (an*bd+bn*ad) (ad*bd):Int)])∧Below w w w':=by
 have H:=Held.start w
 obtain⟨a0,a1,a2,a3,-⟩:=(zBb an ad).1 ha
 obtain⟨b0,b1,b2,b3,-⟩:=(zBb bn bd).1 hb
 have tp:0<ad*bd:=Int.mul_pos zo zo
 obtain⟨rn,RN⟩:∃x,Hid (rN (an*bd+bn*ad) (ad*bd)=x):=⟨_,zh rfl⟩
 obtain⟨rd,RD⟩:∃x,Hid (rD (an*bd+bn*ad) (ad*bd)=x):=⟨_,zh rfl⟩
 obtain⟨re,RE⟩:∃x,Hid (rE (an*bd+bn*ad) (ad*bd)=x):=⟨_,zh rfl⟩
 rw[RN.out,RD.out,RE.out]
 clear ha hb
 go_enter Tryz.func18,Tryz.ntmps18
 go_wp2_with fail
 replace H:=(((H.pair w an ad 48 rfl).pair (w+1) bn bd 48 zs).pair (w+2) (0:Int) (0:Int) 48 zs)
 have lz:=H.lt (w+2) 0 (0:Int)
 with_reducible refine (big_n an ad _ zo zo zo zo).mono ?_
 rintro e w1 ⟨pa,pk,pc,qa,qk,qc,rfl,N1,N2,F1,F2,hb⟩
 replace H:=H.below hb
 clear hb
 have Fp:=zh (fun g hg=>show w.heap.size+3≤g from Nat.le_trans lz (F1 g hg))
 have Fq:=zh (fun g hg=>show w.heap.size+3≤g from Nat.le_trans lz (F2 g hg))
 replace H:=(H.num N1).num N2
 have z0:=H.lt (w+2) 0 (0:Int)
 clear N1 N2 F1 F2 lz
 obtain⟨cb0,cb1⟩:=H.cells2 (w+1)
 have lb:=H.lt (w+1) 0 bn i6_
 have lb_0:=Nat.lt_trans (show w.heap.size<w.heap.size+1 by omega) lb
 go_wp2_with fail
 clear cb0 cb1 lb lb_0
 replace H:=((H.lone w1 (.slice pa pk pc) 68 rfl).lone (w1+1) (.slice qa qk qc) 68 zs)
 have lz:=H.lt (w+2) 0 (0:Int)
 with_reducible refine (big_n bn bd _ zo zo zo zo).mono ?_
 rintro e w2 ⟨ra,rk,rc,sa,sk,sc,rfl,N1,N2,F1,F2,hb⟩
 replace H:=H.below hb
 clear hb
 have Fr:=zh (fun g hg=>show w.heap.size+3≤g from Nat.le_trans lz (F1 g hg))
 have Fs:=zh (fun g hg=>show w.heap.size+3≤g from Nat.le_trans lz (F2 g hg))
 replace H:=(H.num N1).num N2
 have z1:=H.lt (w+2) 0 (0:Int)
 clear N1 N2 F1 F2 lz
 go_wp2_with fail
 replace H:=((H.lone w2 (.slice ra rk rc) 68 rfl).lone (w2+1) (.slice sa sk sc) 68 zs)
 replace H:=H.is (w+2) 1 (0:Int)
 replace H:=H.is (w+2) 0 (0:Int)
 replace H:Held w [.is (w+2) 0,.is (w+2) 1,.free (w+2) 0,.free (w+2) 1,.cell w1 0 (.slice pa pk pc),.cell (w1+1) 0 (.slice qa qk qc),.cell w2 0 (.slice ra rk rc),.cell (w2+1) 0 (.slice sa sk sc),.num (.slice pa pk pc) (an) 5,.num (.slice qa qk qc) (ad) 5,.num (.slice ra rk rc) (bn) 5,.num (.slice sa sk sc) (bd) 5] _:=H.sub (fun f hf=>by
  simp only[List.mem_cons,List.not_mem_nil,or_false] at hf
  rcases hf with rfl | rfl | rfl | rfl | rfl | rfl | rfl | rfl | rfl | rfl | rfl | rfl
  all_goals exact zm)
 have KS:Hid (∀w':World,Held w [.is (w+2) 0,.is (w+2) 1,.free (w+2) 0,.free (w+2) 1,.cell w1 0 (.slice pa pk pc),.cell (w1+1) 0 (.slice qa qk qc),.cell w2 0 (.slice ra rk rc),.cell (w2+1) 0 (.slice sa sk sc),.num (.slice pa pk pc) (an) 5,.num (.slice qa qk qc) (ad) 5,.num (.slice ra rk rc) (bn) 5,.num (.slice sa sk sc) (bd) 5] w'→w'.cell? ⟨w1,0,none⟩=some (.slice pa pk pc)∧w'.cell? ⟨w1+1,0,none⟩=some (.slice qa qk qc)∧w'.cell? ⟨w2,0,none⟩=some (.slice ra rk rc)∧w'.cell? ⟨w2+1,0,none⟩=some (.slice sa sk sc)∧w'.frozen? ⟨w+2,0,none⟩=false∧(w'.cell? ⟨w+2,0,none⟩).isSome=true∧w'.frozen? ⟨w+2,1,none⟩=false∧(w'.cell? ⟨w+2,1,none⟩).isSome=true∧Held w [.is (w+2) 0,.is (w+2) 1,.free (w+2) 0,.free (w+2) 1,.cell w1 0 (.slice pa pk pc),.cell (w1+1) 0 (.slice qa qk qc),.cell w2 0 (.slice ra rk rc),.cell (w2+1) 0 (.slice sa sk sc),.num (.slice pa pk pc) (an) 5,.num (.slice qa qk qc) (ad) 5,.num (.slice ra rk rc) (bn) 5,.num (.slice sa sk sc) (bd) 5] w'):=zh (fun _ h=>⟨h.cell w1 0 (.slice pa pk pc) i4_,h.cell (w1+1) 0 (.slice qa qk qc) i5_,h.cell w2 0 (.slice ra rk rc) i6_,h.cell (w2+1) 0 (.slice sa sk sc) i7_,h.frozen (w+2) 0 i2_,h.some (w+2) 0 i0_,h.frozen (w+2) 1 i3_,h.some (w+2) 1 i1_,h⟩)
 have KH:Hid (∀w':World,w'.cell? ⟨w1,0,none⟩=some (.slice pa pk pc)∧w'.cell? ⟨w1+1,0,none⟩=some (.slice qa qk qc)∧w'.cell? ⟨w2,0,none⟩=some (.slice ra rk rc)∧w'.cell? ⟨w2+1,0,none⟩=some (.slice sa sk sc)∧w'.frozen? ⟨w+2,0,none⟩=false∧(w'.cell? ⟨w+2,0,none⟩).isSome=true∧w'.frozen? ⟨w+2,1,none⟩=false∧(w'.cell? ⟨w+2,1,none⟩).isSome=true∧Held w [.is (w+2) 0,.is (w+2) 1,.free (w+2) 0,.free (w+2) 1,.cell w1 0 (.slice pa pk pc),.cell (w1+1) 0 (.slice qa qk qc),.cell w2 0 (.slice ra rk rc),.cell (w2+1) 0 (.slice sa sk sc),.num (.slice pa pk pc) (an) 5,.num (.slice qa qk qc) (ad) 5,.num (.slice ra rk rc) (bn) 5,.num (.slice sa sk sc) (bd) 5] w'→Held w [.is (w+2) 0,.is (w+2) 1,.free (w+2) 0,.free (w+2) 1,.cell w1 0 (.slice pa pk pc),.cell (w1+1) 0 (.slice qa qk qc),.cell w2 0 (.slice ra rk rc),.cell (w2+1) 0 (.slice sa sk sc),.num (.slice pa pk pc) (an) 5,.num (.slice qa qk qc) (ad) 5,.num (.slice ra rk rc) (bn) 5,.num (.slice sa sk sc) (bd) 5] w'):=zh (fun _ h=>h.2.2.2.2.2.2.2.2)
 have ST0:Hid (∀(W:World) (u:Value) (o:Nat),Held w [.is (w+2) 0,.is (w+2) 1,.free (w+2) 0,.free (w+2) 1,.cell w1 0 (.slice pa pk pc),.cell (w1+1) 0 (.slice qa qk qc),.cell w2 0 (.slice ra rk rc),.cell (w2+1) 0 (.slice sa sk sc),.num (.slice pa pk pc) (an) 5,.num (.slice qa qk qc) (ad) 5,.num (.slice ra rk rc) (bn) 5,.num (.slice sa sk sc) (bd) 5] W→Held w [.is (w+2) 0,.is (w+2) 1,.free (w+2) 0,.free (w+2) 1,.cell w1 0 (.slice pa pk pc),.cell (w1+1) 0 (.slice qa qk qc),.cell w2 0 (.slice ra rk rc),.cell (w2+1) 0 (.slice sa sk sc),.num (.slice pa pk pc) (an) 5,.num (.slice qa qk qc) (ad) 5,.num (.slice ra rk rc) (bn) 5,.num (.slice sa sk sc) (bd) 5] (W.setCell ⟨w+2,o,none⟩ u)):=zh (fun W u o h=>h.set (w+2) o u zo (fun f hf=>by
  simp only[List.mem_cons,List.not_mem_nil,or_false] at hf
  rcases hf with rfl | rfl | rfl | rfl | rfl | rfl | rfl | rfl | rfl | rfl | rfl | rfl
  ·trivial
  ·trivial
  ·trivial
  ·trivial
  ·exact (show _≠_ by omega)
  ·exact (show _≠_ by omega)
  ·exact (show _≠_ by omega)
  ·exact (show _≠_ by omega)
  ·exact fun W o u h=>BigN.setCell (p:=⟨w+2,o,none⟩) h (fun e=>by have:=Fp.out _ e;simp at this) u
  ·exact fun W o u h=>BigN.setCell (p:=⟨w+2,o,none⟩) h (fun e=>by have:=Fq.out _ e;simp at this) u
  ·exact fun W o u h=>BigN.setCell (p:=⟨w+2,o,none⟩) h (fun e=>by have:=Fr.out _ e;simp at this) u
  ·exact fun W o u h=>BigN.setCell (p:=⟨w+2,o,none⟩) h (fun e=>by have:=Fs.out _ e;simp at this) u))
 have HS:=zh (KS.out _ H.drew)
 go_region_held3 (fun w'=>w'.cell? ⟨w1,0,none⟩=some (.slice pa pk pc)∧w'.cell? ⟨w1+1,0,none⟩=some (.slice qa qk qc)∧w'.cell? ⟨w2,0,none⟩=some (.slice ra rk rc)∧w'.cell? ⟨w2+1,0,none⟩=some (.slice sa sk sc)∧w'.frozen? ⟨w+2,0,none⟩=false∧(w'.cell? ⟨w+2,0,none⟩).isSome=true∧w'.frozen? ⟨w+2,1,none⟩=false∧(w'.cell? ⟨w+2,1,none⟩).isSome=true∧Held w [.is (w+2) 0,.is (w+2) 1,.free (w+2) 0,.free (w+2) 1,.cell w1 0 (.slice pa pk pc),.cell (w1+1) 0 (.slice qa qk qc),.cell w2 0 (.slice ra rk rc),.cell (w2+1) 0 (.slice sa sk sc),.num (.slice pa pk pc) (an) 5,.num (.slice qa qk qc) (ad) 5,.num (.slice ra rk rc) (bn) 5,.num (.slice sa sk sc) (bd) 5] w')
  (first | exact HS.out | (refine KS.out _ (Held.below (KH.out _ ?_) hb);assumption) | (refine KS.out _ (ST0.out _ _ _ (ST0.out _ _ _ (KH.out _ ?_)));assumption))
  (first
   | (go_at_call 32;(with_reducible refine (zEu (.slice pa pk pc) (.slice sa sk sc) an bd 5 5 _ (Held.big (KH.out _ za) (.slice pa pk pc) (an) 5) (Held.big (KH.out _ za) (.slice sa sk sc) (bd) 5) zo zo).mono ?_);rintro e w' ⟨xa,xk,xc,rfl,NN,-,hb⟩;(try replace Nx:=Nx.below hb);(try replace Ny:=Ny.below hb);(try replace Nz:=Nz.below hb);(try replace Nt:=Nt.below hb);have Nx:=NN;clear NN)
   | (go_at_call 32;(with_reducible refine (zEu (.slice ra rk rc) (.slice qa qk qc) bn ad 5 5 _ (Held.big (KH.out _ za) (.slice ra rk rc) (bn) 5) (Held.big (KH.out _ za) (.slice qa qk qc) (ad) 5) zo zo).mono ?_);rintro e w' ⟨ya,yk,yc,rfl,NN,-,hb⟩;(try replace Nx:=Nx.below hb);(try replace Ny:=Ny.below hb);(try replace Nz:=Nz.below hb);(try replace Nt:=Nt.below hb);have Ny:=NN;clear NN)
   | (go_at_call 32;(with_reducible refine (zEu (.slice qa qk qc) (.slice sa sk sc) ad bd 5 5 _ (Held.big (KH.out _ za) (.slice qa qk qc) (ad) 5) (Held.big (KH.out _ za) (.slice sa sk sc) (bd) 5) zo zo).mono ?_);rintro e w' ⟨ta,tk,tc,rfl,NN,-,hb⟩;(try replace Nx:=Nx.below hb);(try replace Ny:=Ny.below hb);(try replace Nz:=Nz.below hb);(try replace Nt:=Nt.below hb);have Nt:=NN;clear NN)
   | (go_at_call 43;(with_reducible refine (plus_n (.slice xa xk xc) (.slice ya yk yc) (an*bd) (bn*ad) 11 11 _ Nx Ny zo zo).mono ?_);rintro e w' ⟨za_,zk_,zc,rfl,NN,-,hb⟩;(try replace Nx:=Nx.below hb);(try replace Ny:=Ny.below hb);(try replace Nz:=Nz.below hb);(try replace Nt:=Nt.below hb);have Nz:=NN;clear NN)
   | (go_at_call 42;(with_reducible refine (made_n za_ zk_ zc ta tk tc (an*bd+bn*ad) (ad*bd) 12 _ (Nz.more zd) (Nt.more zd) zo tp).mono ?_);rw[RN.out,RD.out,RE.out];rintro e w' ⟨rfl,hb⟩;have H2:=(KH.out _ za).below hb;obtain⟨v0,is0⟩:=Option.isSome_iff_exists.1 (H2.some (w+2) 0);have fr0:=H2.frozen (w+2) 0;obtain⟨v1,is1⟩:=Option.isSome_iff_exists.1 (H2.some (w+2) 1);have fr1:=H2.frozen (w+2) 1;have OLD:=H2.old;clear H2))
 all_goals
  go_wp2_with fail
  exact bodyPost_ret (v:=.tuple #[.agg #[rn,rd],re]) (by simp[results,Tryz.results18,go_sem,is0,is1]) rfl ⟨rfl,(OLD.setCell zw _).setCell zw _⟩
theorem Held.quad {w W:World} {fs:List Fact} (h:Held w fs W) (B:Nat) (u v x z:Value) (t:TypeId) (hB:W.heap.size=B) :
  Held w (.cell B 0 u::.cell B 1 v::.cell B 2 x::.cell B 3 z::.free B 0::.free B 1::.free B 2::.free B 3::fs) (W.alloc (.cells #[u,v,x,z] t)):=by
 subst hB
 exact ((((((((h.alloc _).add (f:=.free W.heap.size 3) ⟨zs,by simp[go_sem]⟩).add (f:=.free W.heap.size 2) ⟨zs,by simp[go_sem]⟩).add (f:=.free W.heap.size 1) ⟨zs,by simp[go_sem]⟩).add (f:=.free W.heap.size 0) ⟨zs,by simp[go_sem]⟩).add (f:=.cell W.heap.size 3 z) zf).add (f:=.cell W.heap.size 2 x) zf).add (f:=.cell W.heap.size 1 v) zf).add (f:=.cell W.heap.size 0 u) zf
theorem zGs (n d:Int) (w:World) (n0:0≤n) (n1:n<9223372036854775808) (d0:0<d) (d1:d<9223372036854775808) :
  Calls Tryz.prog 158 #[n,d] w fun e w'=>e=.returned (.tuple #[.agg #[(rN n d),(rD n d)],(rE n d)])∧Below w w w':=by
 have H:=Held.start w
 obtain⟨x,HX⟩:∃x,Hid (mN n d=x):=⟨_,zh rfl⟩
 obtain⟨y,HY⟩:∃y,Hid (mD n d=y):=⟨_,zh rfl⟩
 have bx:=zC1 n d n0
 have b2:=m_le n d n0 zo
 have b3:=zE1 n d d0
 rw[HX.out] at bx
 rw[HY.out] at b3
 rw[HX.out,HY.out] at b2
 obtain⟨b4,b5⟩:=b2
 obtain⟨rn,RN⟩:∃x,Hid (rN n d=x):=⟨_,zh rfl⟩
 obtain⟨rd,RD⟩:∃x,Hid (rD n d=x):=⟨_,zh rfl⟩
 obtain⟨re,RE⟩:∃x,Hid (rE n d=x):=⟨_,zh rfl⟩
 have hx:=zh (show wn 0 x=mN n d by rw[zEf,HX.out])
 have hy:=zh (show wn 0 y=mD n d by rw[zEf,HY.out])
 rw[RN.out,RD.out,RE.out]
 have t1:decide (n<0)=false:=zx
 have t2:decide (d<0)=false:=zx
 have t3:(d==0)=false:=beq_eq_false_iff_ne.2 zo
 have wn:IntKind.u64.wrap n=n:=IntWalk.u64_in _ zo
 have wd:IntKind.u64.wrap d=d:=IntWalk.u64_in _ zo
 go_enter Tryz.func158,Tryz.ntmps158
 go_wp2_with fail
 replace H:=(H.pair w (0:Int) (0:Int) 48 rfl)
 with_reducible refine (zJl n d _ zo zo zo zo (Or.inr d0)).mono ?_
 rw[HX.out,HY.out]
 rintro e w1 ⟨rfl,hb⟩
 replace H:=H.below hb
 clear hb
 go_wp2_with fail
 revert H
 with_reducible refine zG (fun _=>zJq x _) ?_
 intro w2 H
 go_wp2_with fail
 revert H
 with_reducible refine zG (fun _=>zJq y _) ?_
 intro w3 H
 go_wp2_with fail
 with_reducible refine (zR2 0 x 0 y n d _ zo zo zo zo zo zo hx.out hy.out).mono ?_
 rw[RN.out,RD.out,RE.out]
 rintro e w4 ⟨rfl,hb⟩
 replace H:=H.below hb
 clear hb
 obtain⟨cr0,cr1⟩:=H.cells2 w
 have lr:=H.lt w 0 (0:Int) i0_
 obtain⟨fr0,fr1⟩:=H.frozens2 w
 go_wp2_with fail
 exact bodyPost_ret (v:=.tuple #[.agg #[rn,rd],re]) (by simp[results,Tryz.results158,go_sem,cr0,cr1]) rfl ⟨rfl,(H.old.setCell zw _).setCell zw _⟩
end Go.Proofs.YtpfgdfpaoldhcaaGreatDoor
