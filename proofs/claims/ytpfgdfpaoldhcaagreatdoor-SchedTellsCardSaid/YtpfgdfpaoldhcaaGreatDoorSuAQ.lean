/- Several texts in one: CoNum, CaUn, TeNum, DaNum, DaList, DaSeq, ScNum, TeBox, TeErr, TeFacts. -/
import Derived.Test.YtpfgdfpaoldhcaaGreatDoorSuAO
import Derived.Test.YtpfgdfpaoldhcaaGreatDoorSuAP
import Derived.LoopTactic
set_option maxHeartbeats 8000000
set_option maxRecDepth 100000
set_option linter.unusedVariables false
set_option linter.unusedSimpArgs false
namespace Go.Proofs.YtpfgdfpaoldhcaaGreatDoor
open Go.RowKit
def CoIs (k a b:Int) (t:Bool) (en f:Int) (X:Nat→Int) (n:Nat) (p q c:Int):Prop:=
 (k=0∧zBd (uX t) a b p q c)∨(k=1∧zBd eX a b p q c)∨(k=2∧zBd (iX (decide (b=en))) a b p q c)∨(k=3∧AcIs aX 360 a b p q c)∨(k=4∧AcIs aX 365 a b p q c) ∨
 (k=5∧AcIs yX 133590 a b p q c)∨(k=6∧IcIs X n f a b p q c)∨((k<0∨6<k)∧p=0∧q=0∧c=1)
theorem co_is (k a b:Int) (t:Bool) (en f:Int) (X:Nat→Int) (n:Nat):∃p q c,CoIs k a b t en f X n p q c:=by
 by_cases h:k<0∨6<k
 ·exact⟨0,0,1,Or.inr (Or.inr (Or.inr (Or.inr (Or.inr (Or.inr (Or.inr ⟨h,rfl,rfl,rfl⟩))))))⟩
 ·have:k=0∨k=1∨k=2∨k=3∨k=4∨k=5∨k=6:=zo
  rcases this with e | e | e | e | e | e | e
  ·obtain⟨p,q,c,h⟩:=zLb (uX t) a b;exact⟨p,q,c,Or.inl ⟨e,h⟩⟩
  ·obtain⟨p,q,c,h⟩:=zLb eX a b;exact⟨p,q,c,Or.inr (Or.inl ⟨e,h⟩)⟩
  ·obtain⟨p,q,c,h⟩:=zLb (iX (decide (b=en))) a b;exact⟨p,q,c,Or.inr (Or.inr (Or.inl ⟨e,h⟩))⟩
  ·obtain⟨p,q,c,h⟩:=ac_is aX 360 a b;exact⟨p,q,c,Or.inr (Or.inr (Or.inr (Or.inl ⟨e,h⟩)))⟩
  ·obtain⟨p,q,c,h⟩:=ac_is aX 365 a b;exact⟨p,q,c,Or.inr (Or.inr (Or.inr (Or.inr (Or.inl ⟨e,h⟩))))⟩
  ·obtain⟨p,q,c,h⟩:=ac_is yX 133590 a b;exact⟨p,q,c,Or.inr (Or.inr (Or.inr (Or.inr (Or.inr (Or.inl ⟨e,h⟩)))))⟩
  ·obtain⟨p,q,c,h⟩:=ic_is X n f a b;exact⟨p,q,c,Or.inr (Or.inr (Or.inr (Or.inr (Or.inr (Or.inr (Or.inl ⟨e,h⟩))))))⟩
end Go.Proofs.YtpfgdfpaoldhcaaGreatDoor
namespace Go.Proofs.YtpfgdfpaoldhcaaGreatDoor
def dl (X:Nat→Int) (n:Nat):List Int:=(List.range n).map X
def ld (l:List Int) (i:Nat):Int:=l.getD i 0
theorem zB7 (X:Nat→Int) (n:Nat):(dl X n).length=n:=by simp[dl]
theorem zMo {X:Nat→Int} {n:Nat} {z:Int}:z∈dl X n↔∃j,j<n∧X j=z:=by simp[dl]
theorem dl_ld (l:List Int):dl (ld l) l.length=l:=by
 apply List.ext_getElem
 ·rw[zB7]
 ·intro i a b
  simp[dl,ld,b]
theorem dl_rise {X:Nat→Int} {n:Nat} (h:∀j,j+1<n→X j<X (j+1)):(dl X n).Pairwise (·<·):=by
 have key:∀(d i:Nat),i+d+1<n→X i<X (i+d+1):=fun d=>by
  induction d with
  | zero=>exact fun i hi=>h i zo
  | succ d ih=>exact fun i hi=>Int.lt_trans (ih i zo) (h (i+d+1) zo)
 rw[List.pairwise_iff_getElem]
 intro i j hi hj hij
 rw[zB7] at hi hj
 have:=key (j-i-1) i zo
 rw[show i+(j-i-1)+1=j by omega] at this
 simpa [dl] using this
end Go.Proofs.YtpfgdfpaoldhcaaGreatDoor
namespace Go.Proofs.YtpfgdfpaoldhcaaGreatDoor
open Go.RowKit
def tn (k:Int):ByteArray:=if k=0 then ⟨#[98,117,108,108,101,116]⟩ else if k=1 then ⟨#[101,113,117,97,108]⟩ else if k=2 then ⟨#[108,101,118,101,108]⟩ else ⟨#[]⟩
def tk (s:ByteArray):Int × Int:=if ((tn 0).toList==s.toList)=true then (0,0) else if ((tn 1).toList==s.toList)=true then (1,0) else if ((tn 2).toList==s.toList)=true then (2,0) else (0,10)
theorem tn_out (k:Int) (h:k<0∨2<k):tn k=⟨#[]⟩:=by
 unfold tn
 rw[if_neg zo,if_neg zo,if_neg zo]
theorem tn_0:tn 0=⟨#[98,117,108,108,101,116]⟩:=by simp[tn]
theorem tn_1:tn 1=⟨#[101,113,117,97,108]⟩:=by simp[tn]
theorem tn_2:tn 2=⟨#[108,101,118,101,108]⟩:=by simp[tn]
theorem of3 (k:Int) (h:0≤k∧k≤2):k=0∨k=1∨k=2:=zo
theorem zUa (k:Int):(tn k).toList.isEmpty=decide (k<0∨2<k):=by
 by_cases h:k<0∨2<k
 ·rw[tn_out k h,decide_eq_true h];decide +kernel
 ·rw[decide_eq_false h]
  rcases of3 k zo with rfl | rfl | rfl <;> decide +kernel
def fr (m:Int):Int:=if m=1 then 12 else if m=2 then 6 else if m=3 then 4 else if m=4 then 3 else if m=6 then 2 else if m=12 then 1 else 0
def Mo (m:Int):Prop:=m=1∨m=2∨m=3∨m=4∨m=6∨m=12
instance (m:Int):Decidable (Mo m):=by unfold Mo;infer_instance
theorem fr_no {m:Int} (h:¬Mo m):fr m=0:=by
 unfold Mo at h
 unfold fr
 rw[if_neg zo,if_neg zo,if_neg zo,if_neg zo,if_neg zo,if_neg zo]
theorem zIc (m:Int):(fr m==0)=decide (¬Mo m):=by
 by_cases h:Mo m
 ·rw[decide_eq_false (fun g=>g h)]
  rcases h with rfl | rfl | rfl | rfl | rfl | rfl <;> decide +kernel
 ·rw[fr_no h,decide_eq_true h];decide +kernel
structure Tm where
 mo:Int
 ra:Int
 ki:Int
 co:Int
 st:Int
 en:Int
 ms:Int
 bk:Bool
 lg:Bool
 eo:Bool
 ro:Int
def Tm.Form (t:Tm):Prop:=(0≤t.ki∧t.ki≤2)∧(0≤t.co∧t.co≤6)∧(0≤t.ro∧t.ro≤4)∧Mo t.ms
instance (t:Tm):Decidable t.Form:=by unfold Tm.Form;infer_instance
def Tm.Days (t:Tm):Prop:=(1≤t.st∧t.st≤3652059)∧(1≤t.en∧t.en≤3652059)
instance (t:Tm):Decidable t.Days:=by unfold Tm.Days;infer_instance
def Tm.Own (t:Tm):Prop:=(1≤t.mo∧t.mo≤1000000000000000)∧(0≤t.ra∧t.ra≤1000000)
instance (t:Tm):Decidable t.Own:=by unfold Tm.Own;infer_instance
def Tm.code (t:Tm):Int:=if ¬t.Form then 1 else if ¬t.Days then 3 else if ¬t.st<t.en then 4 else if ¬t.Own then 2 else if 9000000000000000000<t.mo*t.ra then 2 else 0
theorem Tm.bad {t:Tm} (h:¬t.Form):t.code=1:=by unfold Tm.code;rw[if_pos h]
theorem Tm.noDay {t:Tm} (h:t.Form) (h2:¬t.Days):t.code=3:=by unfold Tm.code;rw[if_neg (fun g=>g h),if_pos h2]
theorem Tm.turned {t:Tm} (h:t.Form) (h2:t.Days) (h3:¬t.st<t.en):t.code=4:=by unfold Tm.code;rw[if_neg (fun g=>g h),if_neg (fun g=>g h2),if_pos h3]
theorem Tm.over {t:Tm} (h:t.Form) (h2:t.Days) (h3:t.st<t.en) (h4:¬t.Own):t.code=2:=by unfold Tm.code;rw[if_neg (fun g=>g h),if_neg (fun g=>g h2),if_neg (fun g=>g h3),if_pos h4]
theorem Tm.both {t:Tm} (h:t.Form) (h2:t.Days) (h3:t.st<t.en) (h4:t.Own) (h5:9000000000000000000<t.mo*t.ra):t.code=2:=by unfold Tm.code;rw[if_neg (fun g=>g h),if_neg (fun g=>g h2),if_neg (fun g=>g h3),if_neg (fun g=>g h4),if_pos h5]
theorem Tm.may {t:Tm} (h:t.Form) (h2:t.Days) (h3:t.st<t.en) (h4:t.Own) (h5:t.mo*t.ra≤9000000000000000000):t.code=0:=by unfold Tm.code;rw[if_neg (fun g=>g h),if_neg (fun g=>g h2),if_neg (fun g=>g h3),if_neg (fun g=>g h4),if_neg zo]
theorem Tm.of_zero {t:Tm} (h:t.code=0):t.Form∧t.Days∧t.st<t.en∧t.Own∧t.mo*t.ra≤9000000000000000000:=by
 unfold Tm.code at h
 by_cases h1:t.Form
 ·rw[if_neg (fun g=>g h1)] at h
  by_cases h2:t.Days
  ·rw[if_neg (fun g=>g h2)] at h
   by_cases h3:t.st<t.en
   ·rw[if_neg (fun g=>g h3)] at h
    by_cases h4:t.Own
    ·rw[if_neg (fun g=>g h4)] at h
     by_cases h5:9000000000000000000<t.mo*t.ra
     ·rw[if_pos h5] at h;omega
     ·exact⟨h1,h2,h3,h4,zo⟩
    ·rw[if_pos h4] at h;omega
   ·rw[if_pos h3] at h;omega
  ·rw[if_pos h2] at h;omega
 ·rw[if_pos h1] at h;omega
theorem zQ4 {m r:Int} (hr:0<r):9000000000000000000/r<m↔9000000000000000000<m*r:=
 Int.ediv_lt_iff_lt_mul hr
end Go.Proofs.YtpfgdfpaoldhcaaGreatDoor
namespace Go.Proofs.YtpfgdfpaoldhcaaGreatDoor
def sx (b:Bool) (y m d T:Int):Int:=if 12≤T∧T≤119999 then nb (T/12) (T%12+1) (dm b y m d (T/12) (T%12+1)) else 0
def se (T:Int):Int:=if 12≤T∧T≤119999 then 0 else 3
theorem zU1 {n k y m d:Int} {b:Bool} (h:may y m d) (hn:nb y m d=n):zD3 n k b (sx b y m d (12*y+m-1+k)) (se (12*y+m-1+k)):=by
 unfold sx se
 by_cases c:12≤12*y+m-1+k∧12*y+m-1+k≤119999
 ·rw[if_pos c,if_pos c]
  exact zIl y m d _ _ _ h hn zo zo zo zo zo rfl rfl
 ·rw[if_neg c,if_neg c]
  exact zN5 y m d h hn zo
theorem zC2 {T:Int}:se T=0↔12≤T∧T≤119999:=by unfold se;split <;> omega
theorem se_or (T:Int):se T=0∨se T=3:=by unfold se;split <;> omega
theorem sx_may {b:Bool} {y m d T:Int} (h:may y m d) (hT:12≤T∧T≤119999):may (T/12) (T%12+1) (dm b y m d (T/12) (T%12+1)):=
 zQu b y m d _ _ h zo zo zo zo
theorem sx_bd {b:Bool} {y m d T:Int} (h:may y m d) (hT:12≤T∧T≤119999):1≤sx b y m d T∧sx b y m d T≤3652059:=by
 unfold sx;rw[if_pos hT];exact zAd _ _ _ (sx_may h hT)
theorem zM9 {b:Bool} {y m d:Int} (h:may y m d):sx b y m d (12*y+m-1)=nb y m d:=by
 obtain⟨h1,h2,h3,h4,h5,h6⟩:=h
 unfold sx
 rw[if_pos zo,show (12*y+m-1)/12=y by omega,show (12*y+m-1)%12+1=m by omega]
 unfold dm
 split
 ·next c=>rw[c.2]
 ·rw[Int.min_eq_left h6]
theorem nb_next (y m:Int) (h1:1≤m) (h2:m≤12) (T:Int) (hT:12*y+m=T):nb (T/12) (T%12+1) 0=nb y m (ln y m):=by
 by_cases c:m=12
 ·subst c
  rw[show T/12=y+1 by omega,show T%12+1=1 by omega]
  unfold nb
  rw[zFl,zD6,←zPu,show (13:Int)=12+1 from rfl,zE4 y 12 zo zo]
  omega
 ·rw[show T/12=y by omega,show T%12+1=m+1 by omega]
  unfold nb
  rw[zE4 y m h1 h2]
  omega
theorem sx_step {b:Bool} {y m d T:Int} (h:may y m d) (h1:12≤T) (h2:T+1≤119999):sx b y m d T+28≤sx b y m d (T+1):=by
 have e:=nb_next (T/12) (T%12+1) zo zo (T+1) zo
 have l1:=zGr (T/12) (T%12+1) zo zo
 have l2:=zGr ((T+1)/12) ((T+1)%12+1) zo zo
 obtain⟨-,-,-,-,a5,a6⟩:=h
 unfold sx
 rw[if_pos zo,if_pos zo]
 unfold dm nb at *
 split <;> omega
theorem sx_gap {b:Bool} {y m d T:Int} (h:may y m d) (h1:12≤T):∀j:Nat,T+j≤119999→sx b y m d T+28*j≤sx b y m d (T+j):=by
 intro j
 induction j with
 | zero=>intro _;simp
 | succ j ih=>
  intro hj
  have a:=ih zo
  have s:=sx_step (b:=b) h (T:=T+j) zo zo
  rw[show T+((j+1:Nat):Int)=T+j+1 by omega]
  omega
theorem zKg {b:Bool} {y m d T U:Int} (h:may y m d) (h1:12≤T) (h2:T<U) (h3:U≤119999):sx b y m d T+28*(U-T)≤sx b y m d U:=by
 have:=sx_gap (b:=b) h h1 (U-T).toNat zo
 rw[show T+((U-T).toNat:Int)=U by omega] at this
 omega
def Tm.an (t:Tm):Int:=if t.bk=true then t.en else t.st
def Tm.ot (t:Tm):Int:=if t.bk=true then t.st else t.en
def Tm.ap (t:Tm):Int:=if t.bk=true then -t.ms else t.ms
def Tm.btw (t:Tm) (n:Int):Bool:=decide (t.st<n)&&decide (n<t.en)
theorem Tm.btw_iff (t:Tm) (n:Int):t.btw n=true↔t.st<n∧n<t.en:=by simp[Tm.btw]
theorem Tm.btw_not (t:Tm) (n:Int):t.btw n=false↔n≤t.st∨t.en≤n:=by
 rw[←Bool.not_eq_true,Tm.btw_iff];omega
structure Tm.Walk (t:Tm) (X E:Nat→Int) (m:Nat):Prop where
 mv:∀k:Nat,zD3 t.an ((k:Int)*t.ap) t.eo (X k) (E k)
 x0:X 0=t.an
 e0:E 0=0
 one:1≤m
 top:m≤1100
 mid:∀k,1≤k→k<m→E k=0∧t.st<X k∧X k<t.en
 code:∀k,E k=0∨E k=3
 last:E m=0→¬(t.st<X m∧X m<t.en)
 day:∀k,k≤m→E k=0→1≤X k∧X k≤3652059
 up:t.bk=false→∀j k,j<k→k≤m→E k=0→X j<X k
 down:t.bk=true→∀j k,j<k→k≤m→E k=0→X k<X j
theorem zMt (P:Nat→Prop):∀n:Nat,P n→∃m,m≤n∧P m∧∀k,k<m→¬P k:=by
 intro n
 induction n using Nat.strongRecOn with
 | _ n ih=>
  intro hn
  by_cases h:∃k,k<n∧P k
  ·obtain⟨k,h1,h2⟩:=h
   obtain⟨m,a,b,c⟩:=ih k h1 h2
   exact⟨m,zo,b,c⟩
  ·exact⟨n,Nat.le_refl _,hn,fun k hk g=>h ⟨k,hk,g⟩⟩
theorem zq30c {P:Prop} (h:P:=by
 intro hb j k hjk hk e
 have ea:t.ap = -t.ms:=by simp[Tm.ap,hb]
 have g1:=inr j zo
 have g2:=zC2.1 e
 rw[ea,Int.mul_neg] at g1 g2
 (try dsimp only)
 rw[ea,Int.mul_neg,Int.mul_neg]
 have k2:=Int.mul_lt_mul_of_pos_right (show (j:Int)<k by omega) (show 0<t.ms by omega)
 have:=zKg (b:=t.eo) hm g2.1 (U:=T + -((j:Int)*t.ms)) zo g1.2
 omega):P:=h
theorem zqtws {P:Prop} (h:P:=by
 intro hb j k hjk hk e
 have ea:t.ap=t.ms:=by simp[Tm.ap,hb]
 have g1:=inr j zo
 have g2:=zC2.1 e
 rw[ea] at g1 g2
 (try dsimp only)
 rw[ea]
 have k2:=Int.mul_lt_mul_of_pos_right (show (j:Int)<k by omega) (show 0<t.ms by omega)
 have:=zKg (b:=t.eo) hm g1.1 (U:=T+(k:Int)*t.ms) zo g2.2
 omega):P:=h
theorem zqi9j {P:Prop} (h:P:=by
 have ea:t.ap = -t.ms:=by simp[Tm.ap,hb]
 have en:t.an=t.en:=by simp[Tm.an,hb]
 rw[ea] at g1 g2 g3
 rw[Int.mul_neg] at g1 g2 g3
 have:=zKg (b:=t.eo) hm g1.1 (U:=T) zo hTr.2
 rw[hx0,en] at this
 omega):P:=h
theorem zRu {m:Int} (h:Mo m):1≤m∧m≤12:=by unfold Mo at h;omega
theorem Tm.walk (t:Tm) (h:t.code=0) (hs:t.en-t.st≤30000):∃X E m,t.Walk X E m:=by
 obtain⟨hf,hd,ho,-,-⟩:=t.of_zero h
 obtain⟨m1,m12⟩:=zRu hf.2.2.2
 have hA:1≤t.an∧t.an≤3652059:=by unfold Tm.an;split;exact hd.2;exact hd.1
 obtain⟨y,mo,d,hm,hn⟩:=zBk t.an hA.1 hA.2
 obtain⟨T,hT⟩:∃T,12*y+mo-1=T:=⟨_,rfl⟩
 have hTr:12≤T∧T≤119999:=by obtain⟨a1,a2,a3,a4,-,-⟩:=hm;omega
 have hx0:sx t.eo y mo d T=t.an:=by rw[←hT,zM9 hm,hn]
 have hmv:∀k:Nat,zD3 t.an ((k:Int)*t.ap) t.eo (sx t.eo y mo d (T+(k:Int)*t.ap)) (se (T+(k:Int)*t.ap)):=fun k=>by
  rw[←hT];exact zU1 hm hn
 let P:Nat→Prop:=fun k=>1≤k∧¬(se (T+(k:Int)*t.ap)=0∧t.st<sx t.eo y mo d (T+(k:Int)*t.ap)∧sx t.eo y mo d (T+(k:Int)*t.ap)<t.en)
 have key:∀k:Nat,(k:Int)≤(k:Int)*t.ms:=fun k=>by
  have:=Int.mul_le_mul_of_nonneg_left m1 (show (0:Int)≤k by omega)
  omega
 have hP:P 1100:=by
  refine⟨zo,fun⟨g1,g2,g3⟩=>?_⟩
  rw[zC2] at g1
  have k1:=key 1100
  cases hb:t.bk
  ·have ea:t.ap=t.ms:=by simp[Tm.ap,hb]
   have en:t.an=t.st:=by simp[Tm.an,hb]
   rw[ea] at g1 g2 g3
   have:=zKg (b:=t.eo) hm hTr.1 (U:=T+((1100:Nat):Int)*t.ms) zo g1.2
   rw[hx0,en] at this
   omega
  ·exact zqi9j
 obtain⟨m,hm1,⟨hm2,hm3⟩,hm4⟩:=zMt P 1100 hP
 have inr:∀k,k<m→12≤T+(k:Int)*t.ap∧T+(k:Int)*t.ap≤119999:=fun k hk=>by
  rcases Nat.eq_zero_or_pos k with rfl | h0
  ·simpa using hTr
  ·by_cases c:se (T+(k:Int)*t.ap)=0
   ·exact zC2.1 c
   ·exact absurd ⟨h0,fun g=>c g.1⟩ (hm4 k hk)
 refine⟨fun k=>sx t.eo y mo d (T+(k:Int)*t.ap),fun k=>se (T+(k:Int)*t.ap),m,hmv,?_,?_,hm2,hm1,?_,fun k=>se_or _,?_,?_,?_,?_⟩
 ·simpa using hx0
 ·simpa using zC2.2 hTr
 ·intro k h1 h2
  by_cases c:se (T+(k:Int)*t.ap)=0∧t.st<sx t.eo y mo d (T+(k:Int)*t.ap)∧sx t.eo y mo d (T+(k:Int)*t.ap)<t.en
  ·exact c
  ·exact absurd ⟨h1,c⟩ (hm4 k h2)
 ·intro e g;exact hm3 ⟨e,g⟩
 ·intro k _ e;exact sx_bd hm (zC2.1 e)
 ·exact zqtws
 ·exact zq30c
theorem zMn {X Y:Nat→Int} {n:Nat} (h:∀i,i<n→X i=Y i):dl X n=dl Y n:=by
 apply List.ext_getElem
 ·rw[zB7,zB7]
 ·intro i a b
  rw[zB7] at a
  simp[dl,h i a]
theorem zF7 (X:Nat→Int) (n:Nat):dl X (n+1)=dl X n++[X n]:=by simp[dl,List.range_succ]
theorem zQs (X:Nat→Int) (n:Nat):dl X (n+1)=X 0::dl (fun i=>X (i+1)) n:=by
 unfold dl
 rw[List.range_succ_eq_map]
 simp[Function.comp_def]
theorem zQt (X:Nat→Int) (n:Nat):(dl X n).reverse=dl (fun i=>X (n-1-i)) n:=by
 apply List.ext_getElem
 ·rw[List.length_reverse,zB7,zB7]
 ·intro i a b
  rw[zB7] at b
  simp[dl]
theorem dl_take (X:Nat→Int) {n k:Nat} (h:k≤n):(dl X n).take k=dl X k:=by
 apply List.ext_getElem
 ·rw[List.length_take,zB7,zB7];omega
 ·intro i a b
  simp[dl]
theorem dl_skip (X:Nat→Int) (n k:Nat):(dl X n).drop k=dl (fun i=>X (k+i)) (n-k):=by
 apply List.ext_getElem
 ·rw[List.length_drop,zB7,zB7]
 ·intro i a b
  simp[dl]
theorem ld_dl {X:Nat→Int} {n j:Nat} (h:j<n):ld (dl X n) j=X j:=by simp[ld,dl,h]
def gl (E:Nat→Int) (m:Nat):Nat:=if E m=0 then m+1 else m
theorem zJd (E:Nat→Int) (m:Nat):m≤gl E m∧gl E m≤m+1:=by unfold gl;split <;> omega
def Tm.grid (t:Tm) (X:Nat→Int) (K:Nat):List Int:=if t.bk=true then (dl X K).reverse else dl X K
def Tm.inn (t:Tm) (g:List Int):List Int:=g.filter t.btw
def Tm.kept (t:Tm) (g:List Int):List Int:=if t.lg=true∧t.inn g≠[]∧t.ot∉g then (if t.bk=true then (t.inn g).drop 1 else (t.inn g).take ((t.inn g).length-1)) else t.inn g
def Tm.days (t:Tm) (g:List Int):List Int:=t.st::(t.kept g++[t.en])
theorem Tm.grid_len (t:Tm) (X:Nat→Int) (K:Nat):(t.grid X K).length=K:=by unfold Tm.grid;split <;> simp[dl]
theorem Tm.inn_len (t:Tm) (g:List Int):(t.inn g).length≤g.length:=List.length_filter_le _ _
theorem Tm.kept_len (t:Tm) (g:List Int):(t.kept g).length≤g.length:=by
 have:=t.inn_len g
 unfold Tm.kept
 split
 ·split
  ·rw[List.length_drop];omega
  ·rw[List.length_take];omega
 ·exact this
theorem Tm.days_len (t:Tm) (g:List Int):(t.days g).length=(t.kept g).length+2:=by simp[Tm.days]
theorem Tm.days_app (t:Tm) (g:List Int):t.days g=[t.st]++t.kept g++[t.en]:=by simp[Tm.days]
def Tm.dd (t:Tm) (X:Nat→Int) (q i:Nat):Int:=if t.bk=true then (if i=0 then t.st else X (q+1-i)) else (if i≤q then X i else t.en)
variable {t:Tm} {X E:Nat→Int} {m:Nat}
theorem zO4 {l:List Int} {p:Int→Bool} (h:∀z∈l,p z=true):l.filter p=l:=List.filter_eq_self.2 h
theorem Tm.Walk.inn0 (h:t.Walk X E m):t.inn (dl X (gl E m))=dl (fun i=>X (i+1)) (m-1):=by
 have one:=h.one
 have a0:t.btw (X 0)=false:=by
  rw[t.btw_not,h.x0];unfold Tm.an;split
  ·right;exact Int.le_refl _
  ·left;exact Int.le_refl _
 obtain⟨n,rfl⟩:∃n,m=n+1:=⟨m-1,zo⟩
 have base:(dl X (n+1)).filter t.btw=dl (fun i=>X (i+1)) n:=by
  rw[zQs,List.filter_cons_of_neg (by rw[a0];decide)]
  refine zO4 fun z hz=>?_
  rw[zMo] at hz
  obtain⟨j,hj,rfl⟩:=hz
  rw[t.btw_iff]
  exact (h.mid (j+1) zo zo).2
 unfold Tm.inn gl
 rw[show n+1-1=n by omega]
 split
 ·next c=>
  have:=h.last c
  rw[zF7,List.filter_append,base,List.filter_cons_of_neg (by rw[Bool.not_eq_true,t.btw_not];omega)]
  simp
 ·exact base
theorem Tm.Walk.inn1 (h:t.Walk X E m):t.inn (t.grid X (gl E m))=if t.bk=true then (dl (fun i=>X (i+1)) (m-1)).reverse else dl (fun i=>X (i+1)) (m-1):=by
 have e:=h.inn0
 unfold Tm.grid
 split
 ·unfold Tm.inn at *
  rw[List.filter_reverse,e]
 ·exact e
theorem Tm.Walk.inn_len (h:t.Walk X E m):(t.inn (t.grid X (gl E m))).length=m-1:=by
 rw[h.inn1];split <;> simp[dl]
theorem Tm.grid_mem {K:Nat} {z:Int}:z∈t.grid X K↔∃j,j<K∧X j=z:=by
 unfold Tm.grid
 split
 ·rw[List.mem_reverse,zMo]
 ·rw[zMo]
theorem Tm.Walk.stub (h:t.Walk X E m) (ho:t.st<t.en):t.ot∈t.grid X (gl E m)↔E m=0∧X m=t.ot:=by
 rw[Tm.grid_mem]
 constructor
 ·rintro⟨j,hj,e⟩
  by_cases c:j=0
  ·subst c
   rw[h.x0] at e
   unfold Tm.an Tm.ot at e
   split at e <;> omega
  ·by_cases g:j<m
   ·have:=(h.mid j zo g).2
    unfold Tm.ot at e
    split at e <;> omega
   ·unfold gl at hj
    split at hj
    ·next z=>exact⟨z,by rw[←show j=m by omega];exact e⟩
    ·omega
 ·rintro⟨e,g⟩
  exact⟨m,by unfold gl;rw[if_pos e];omega,g⟩
def Tm.q (t:Tm) (X E:Nat→Int) (m:Nat):Nat:=if t.lg=true∧2≤m∧¬(E m=0∧X m=t.ot) then m-2 else m-1
theorem Tm.q_bd (t:Tm) (X E:Nat→Int) (m:Nat):t.q X E m≤m-1:=by unfold Tm.q;split <;> omega
theorem Tm.Walk.days_is (h:t.Walk X E m) (ho:t.st<t.en):t.days (t.grid X (gl E m))=dl (t.dd X (t.q X E m)) (t.q X E m+2):=by
 have hl:=h.inn_len
 have hs:=h.stub ho
 have one:=h.one
 have hk:t.kept (t.grid X (gl E m))=if t.bk=true then dl (fun i=>X (t.q X E m-i)) (t.q X E m) else dl (fun i=>X (i+1)) (t.q X E m):=by
  have c0:(t.inn (t.grid X (gl E m))≠[])↔2≤m:=by
   rw[ne_eq,←List.length_eq_zero_iff,hl];omega
  have cc:(t.lg=true∧t.inn (t.grid X (gl E m))≠[]∧t.ot∉t.grid X (gl E m))↔(t.lg=true∧2≤m∧¬(E m=0∧X m=t.ot)):=by
   rw[c0,hs]
  unfold Tm.kept Tm.q
  by_cases c:t.lg=true∧2≤m∧¬(E m=0∧X m=t.ot)
  ·rw[if_pos (cc.2 c),if_pos c,hl,h.inn1]
   by_cases b:t.bk=true
   ·rw[if_pos b,if_pos b,if_pos b,zQt,dl_skip]
    rw[show m-1-1=m-2 by omega]
    exact zMn fun i hi=>by rw[show m-2-(1+i)+1=m-2-i by omega]
   ·rw[if_neg b,if_neg b,if_neg b,dl_take _ zo,show m-1-1=m-2 by omega]
  ·rw[if_neg (fun g=>c (cc.1 g)),if_neg c,h.inn1]
   by_cases b:t.bk=true
   ·rw[if_pos b,if_pos b,zQt]
    exact zMn fun i hi=>by rw[show m-1-1-i+1=m-1-i by omega]
   ·rw[if_neg b,if_neg b]
 unfold Tm.days
 rw[hk]
 generalize t.q X E m=q
 rw[zQs]
 by_cases b:t.bk=true
 ·have x0:X 0=t.en:=by rw[h.x0];unfold Tm.an;rw[if_pos b]
  rw[if_pos b,show t.dd X q 0=t.st by unfold Tm.dd;rw[if_pos b,if_pos rfl],zF7]
  congr 1
  congr 1
  ·exact zMn fun i hi=>by unfold Tm.dd;rw[if_pos b,if_neg zo,show q+1-(i+1)=q-i by omega]
  ·unfold Tm.dd
   rw[if_pos b,if_neg zo,show q+1-(q+1)=0 by omega,x0]
 ·have x0:X 0=t.st:=by rw[h.x0];unfold Tm.an;rw[if_neg b]
  rw[if_neg b,show t.dd X q 0=t.st by unfold Tm.dd;rw[if_neg b,if_pos zo,x0],zF7]
  congr 1
  congr 1
  ·exact zMn fun i hi=>by unfold Tm.dd;rw[if_neg b,if_pos zo]
  ·unfold Tm.dd
   rw[if_neg b,if_neg zo]
end Go.Proofs.YtpfgdfpaoldhcaaGreatDoor
namespace Go.Proofs.YtpfgdfpaoldhcaaGreatDoor
theorem zKj (t:Tm) (h:t.code=0) (y mo d T:Int) (hm:may y mo d) (hn:nb y mo d=t.an) (hT:12*y+mo-1=T) (m:Nat) (h1:1≤m) (h2:m≤1100)
  (hmid:∀k:Nat,1≤k→k<m→se (T+(k:Int)*t.ap)=0∧t.st<sx t.eo y mo d (T+(k:Int)*t.ap)∧sx t.eo y mo d (T+(k:Int)*t.ap)<t.en)
  (hlast:se (T+(m:Int)*t.ap)=0→¬(t.st<sx t.eo y mo d (T+(m:Int)*t.ap)∧sx t.eo y mo d (T+(m:Int)*t.ap)<t.en)) :
  t.Walk (fun k=>sx t.eo y mo d (T+(k:Int)*t.ap)) (fun k=>se (T+(k:Int)*t.ap)) m:=by
 obtain⟨hf,hd,ho,-,-⟩:=t.of_zero h
 obtain⟨m1,m12⟩:=zRu hf.2.2.2
 have hTr:12≤T∧T≤119999:=by obtain⟨a1,a2,a3,a4,-,-⟩:=hm;omega
 have hx0:sx t.eo y mo d T=t.an:=by rw[←hT,zM9 hm,hn]
 have inr:∀k,k<m→12≤T+(k:Int)*t.ap∧T+(k:Int)*t.ap≤119999:=fun k hk=>by
  rcases Nat.eq_zero_or_pos k with rfl | h0
  ·simpa using hTr
  ·exact zC2.1 (hmid k h0 hk).1
 refine⟨fun k=>?_,?_,?_,h1,h2,hmid,fun k=>se_or _,hlast,fun k _ e=>sx_bd hm (zC2.1 e),?_,?_⟩
 ·rw[←hT];exact zU1 hm hn
 ·simpa using hx0
 ·simpa using zC2.2 hTr
 ·exact zqtws
 ·exact zq30c
variable {t:Tm} {X E:Nat→Int} {m:Nat}
end Go.Proofs.YtpfgdfpaoldhcaaGreatDoor
namespace Go.Proofs.YtpfgdfpaoldhcaaGreatDoor
def fst1 (C:Nat→Int):Nat→Int
 | 0=>0
 | n+1=>if fst1 C n=0 then C n else fst1 C n
theorem zB8 {C:Nat→Int}:∀{n:Nat},fst1 C n=0↔∀i,i<n→C i=0
 | 0=>⟨fun _ i hi=>absurd hi (Nat.not_lt_zero i),fun _=>rfl⟩
 | n+1=>by
  have ih:=zB8 (C:=C) (n:=n)
  unfold fst1
  split
  ·next c=>
   rw[ih] at c
   exact⟨fun h i hi=>by
    rcases Nat.lt_succ_iff_lt_or_eq.1 hi with l | l
    ·exact c i l
    ·rw[l];exact h,fun h=>h n (Nat.lt_succ_self n)⟩
  ·next c=>exact⟨fun h=>absurd h c,fun h=>absurd (ih.2 (fun i hi=>h i zo)) c⟩
theorem zEm {C:Nat→Int} {j:Nat} (h:∀i,i<j→C i=0) (hj:C j≠0):∀{n:Nat},j<n→fst1 C n=C j
 | 0,hn=>absurd hn (Nat.not_lt_zero j)
 | n+1,hn=>by
  unfold fst1
  by_cases e:j=n
  ·subst e;rw[if_pos (zB8.2 h)]
  ·have ih:=zEm h hj (n:=n) zo
   rw[if_neg (by rw[ih];exact hj),ih]
structure Pl where
 X:Nat→Int
 E:Nat→Int
 m:Nat
 q:Nat
 V:Nat→Int
 C:Nat→Int
 GV:Nat→Int
 GC:Nat→Int
 P:Nat→Int
 Q:Nat→Int
 PC:Nat→Int
def Pl.K (x:Pl):Nat:=gl x.E x.m
def Pl.ns (x:Pl) (t:Tm):Nat:=if t.co=6 then x.K else 0
def Pl.G (x:Pl) (t:Tm):Nat→Int:=ld (t.grid x.X x.K)
structure PlanIs (t:Tm) (c:Ca) (x:Pl):Prop where
 walk:t.code=0→t.Walk x.X x.E x.m
 q:t.code=0→t.q x.X x.E x.m=x.q
 roll:∀i,i<x.q+2→ToIs c (t.dd x.X x.q i) t.ro (x.V i) (x.C i)
 grid:∀i,i<x.K→ToIs c (x.G t i) t.ro (x.GV i) (x.GC i)
 part:∀i,i<x.q+1→CoIs t.co (x.V i) (x.V (i+1)) t.eo (x.V (x.q+1)) (fr t.ms) x.GV (x.ns t) (x.P i) (x.Q i) (x.PC i)
def Pl.code (x:Pl) (t:Tm):Int:=
 if t.code≠0 then t.code else if fst1 x.C (x.q+2)≠0 then fst1 x.C (x.q+2) else if fst1 x.GC (x.ns t)≠0 then fst1 x.GC (x.ns t) else fst1 x.PC (x.q+1)
theorem Tm.walk2 (t:Tm) (h:t.code=0) (hs:t.en-t.st≤30000):∃X E m,t.Walk X E m∧∀k:Nat,k<m→28*(k:Int)≤t.en-t.st:=by
 obtain⟨hf,hd,ho,-,-⟩:=t.of_zero h
 obtain⟨m1,m12⟩:=zRu hf.2.2.2
 have hA:1≤t.an∧t.an≤3652059:=by unfold Tm.an;split;exact hd.2;exact hd.1
 obtain⟨y,mo,d,hm,hn⟩:=zBk t.an hA.1 hA.2
 obtain⟨T,hT⟩:∃T,12*y+mo-1=T:=⟨_,rfl⟩
 have hTr:12≤T∧T≤119999:=by obtain⟨a1,a2,a3,a4,-,-⟩:=hm;omega
 have hx0:sx t.eo y mo d T=t.an:=by rw[←hT,zM9 hm,hn]
 let P:Nat→Prop:=fun k=>1≤k∧¬(se (T+(k:Int)*t.ap)=0∧t.st<sx t.eo y mo d (T+(k:Int)*t.ap)∧sx t.eo y mo d (T+(k:Int)*t.ap)<t.en)
 have key:∀k:Nat,(k:Int)≤(k:Int)*t.ms:=fun k=>by
  have:=Int.mul_le_mul_of_nonneg_left m1 (show (0:Int)≤k by omega)
  omega
 have far:∀k:Nat,1≤k→se (T+(k:Int)*t.ap)=0→t.st<sx t.eo y mo d (T+(k:Int)*t.ap)→sx t.eo y mo d (T+(k:Int)*t.ap)<t.en→28*(k:Int)≤t.en-t.st:=by
  intro k k1 g1 g2 g3
  rw[zC2] at g1
  have kk:=key k
  cases hb:t.bk
  ·have ea:t.ap=t.ms:=by simp[Tm.ap,hb]
   have en:t.an=t.st:=by simp[Tm.an,hb]
   rw[ea] at g1 g2 g3
   have:=zKg (b:=t.eo) hm hTr.1 (U:=T+(k:Int)*t.ms) zo g1.2
   rw[hx0,en] at this
   omega
  ·exact zqi9j
 have hP:P 1100:=⟨zo,fun⟨g1,g2,g3⟩=>by have:=far 1100 zo g1 g2 g3;omega⟩
 obtain⟨m,hm1,⟨hm2,hm3⟩,hm4⟩:=zMt P 1100 hP
 have mid:∀k:Nat,1≤k→k<m→se (T+(k:Int)*t.ap)=0∧t.st<sx t.eo y mo d (T+(k:Int)*t.ap)∧sx t.eo y mo d (T+(k:Int)*t.ap)<t.en:=fun k k1 k2=>by
  by_cases g:se (T+(k:Int)*t.ap)=0∧t.st<sx t.eo y mo d (T+(k:Int)*t.ap)∧sx t.eo y mo d (T+(k:Int)*t.ap)<t.en
  ·exact g
  ·exact absurd ⟨k1,g⟩ (hm4 k k2)
 refine⟨_,_,m,zKj t h y mo d T hm hn hT m hm2 hm1 mid (fun e g=>hm3 ⟨e,g⟩),fun k hk=>?_⟩
 rcases Nat.eq_zero_or_pos k with rfl | k0
 ·simp;omega
 ·obtain⟨g1,g2,g3⟩:=mid k k0 hk
  exact far k k0 g1 g2 g3
theorem zLh (t:Tm) (c:Ca) (X E:Nat→Int) (m q:Nat) (w:t.code=0→t.Walk X E m) (hq:t.code=0→t.q X E m=q):∃x,PlanIs t c x∧x.X=X∧x.E=E∧x.m=m∧x.q=q:=by
 have hv:∃V C:Nat→Int,∀i,ToIs c (t.dd X q i) t.ro (V i) (C i):=
  ⟨fun i=>Classical.choose (zPi c (t.dd X q i) t.ro),fun i=>Classical.choose (Classical.choose_spec (zPi c (t.dd X q i) t.ro)),fun i=>Classical.choose_spec (Classical.choose_spec (zPi c (t.dd X q i) t.ro))⟩
 obtain⟨V,C,hv⟩:=hv
 have hg:∃V C:Nat→Int,∀i,ToIs c (ld (t.grid X (gl E m)) i) t.ro (V i) (C i):=
  ⟨fun i=>Classical.choose (zPi c (ld (t.grid X (gl E m)) i) t.ro),fun i=>Classical.choose (Classical.choose_spec (zPi c (ld (t.grid X (gl E m)) i) t.ro)),fun i=>Classical.choose_spec (Classical.choose_spec (zPi c (ld (t.grid X (gl E m)) i) t.ro))⟩
 obtain⟨GV,GC,hg⟩:=hg
 have hp:∀i,∃p q' e,CoIs t.co (V i) (V (i+1)) t.eo (V (q+1)) (fr t.ms) GV (if t.co=6 then gl E m else 0) p q' e:=fun i=>co_is _ _ _ _ _ _ _ _
 exact⟨⟨X,E,m,q,V,C,GV,GC,fun i=>Classical.choose (hp i),fun i=>Classical.choose (Classical.choose_spec (hp i)),fun i=>Classical.choose (Classical.choose_spec (Classical.choose_spec (hp i)))⟩,
  ⟨w,hq,fun i _=>hv i,fun i _=>hg i,fun i _=>Classical.choose_spec (Classical.choose_spec (Classical.choose_spec (hp i)))⟩,rfl,rfl,rfl,rfl⟩
structure Pl.Short (x:Pl):Prop where
 m:x.m≤90
 q:x.q≤90
theorem Pl.Short.k {x:Pl} (h:x.Short):x.K≤91:=by have:=(zJd x.E x.m).2;have:=h.m;unfold Pl.K;omega
theorem plan_is (t:Tm) (c:Ca) (h:t.code=0→t.en-t.st≤2000):∃x,PlanIs t c x∧(t.code=0→x.Short):=by
 by_cases hc:t.code=0
 ·obtain⟨X,E,m,w,g⟩:=t.walk2 hc (by have:=h hc;omega)
  obtain⟨x,hx,hX,hE,hm,hq⟩:=zLh t c X E m _ (fun _=>w) (fun _=>rfl)
  refine⟨x,hx,fun _=>?_⟩
  have one:=w.one
  have b:=g (m-1) zo
  have l:=h hc
  have qb:=t.q_bd X E m
  exact⟨by rw[hm];omega,by rw[hq];omega⟩
 ·obtain⟨x,hx,_⟩:=zLh t c (fun _=>0) (fun _=>0) 0 0 (fun g=>absurd g hc) (fun g=>absurd g hc)
  exact⟨x,hx,fun g=>absurd g hc⟩
theorem Pl.good {x:Pl} {t:Tm} (h:x.code t=0):t.code=0∧(∀i,i<x.q+2→x.C i=0)∧(∀i,i<x.ns t→x.GC i=0)∧∀i,i<x.q+1→x.PC i=0:=by
 unfold Pl.code at h
 by_cases h1:t.code=0
 ·rw[if_neg (not_not_intro h1)] at h
  by_cases h2:fst1 x.C (x.q+2)=0
  ·rw[if_neg (not_not_intro h2)] at h
   by_cases h3:fst1 x.GC (x.ns t)=0
   ·rw[if_neg (not_not_intro h3)] at h
    exact⟨h1,zB8.1 h2,zB8.1 h3,zB8.1 h⟩
   ·rw[if_pos h3] at h;exact absurd h h3
  ·rw[if_pos h2] at h;exact absurd h h2
 ·rw[if_pos h1] at h;exact absurd h h1
theorem StepIs.bd {c:Ca} {s n v e:Int} (h:StepIs c s n v e):0≤v∧v≤3652059:=by
 by_cases he:e=0
 ·have:=(h.good he).2.1.1
  unfold dy at this
  omega
 ·rw[h.zero he];omega
theorem ToIs.bd {c:Ca} {n k v e:Int} (h:ToIs c n k v e):0≤v∧v≤3652059:=by
 rcases h with⟨_,⟨h,rfl,_⟩ | ⟨_,rfl,_⟩⟩ | ⟨_,h⟩ | ⟨_,a,f,h,⟨_,rfl,_⟩ | ⟨_,g⟩⟩ | ⟨_,h⟩ | ⟨_,a,f,h,⟨_,rfl,_⟩ | ⟨_,g⟩⟩ | ⟨_,rfl,_⟩
 ·unfold dy at h;omega
 ·omega
 ·exact h.bd
 ·exact h.bd
 ·exact g.bd
 ·exact h.bd
 ·exact h.bd
 ·exact g.bd
 ·omega
theorem zqq43 {P:Prop} (h:P:=by
 rcases h with⟨_,_,_,_,_,_,_,_,_,_,_,_,_,h⟩ | ⟨h,_⟩ | ⟨_,_,h,_⟩
 ·exact Or.inl h
 ·omega
 ·omega):P:=h
theorem CoIs.code {k a b:Int} {t:Bool} {en f:Int} {X:Nat→Int} {n:Nat} {p q c:Int} (h:CoIs k a b t en f X n p q c) (hk:0≤k∧k≤6) (ha:1≤a∧a≤3652059) (hb:1≤b∧b≤3652059) (hab:a≤b):c=0∨(k=6∧c=5):=by
 rcases h with⟨_,h⟩ | ⟨_,h⟩ | ⟨_,h⟩ | ⟨_,h⟩ | ⟨_,h⟩ | ⟨_,h⟩ | ⟨e,h⟩ | ⟨h,_⟩
 ·exact zqq43
 ·exact zqq43
 ·exact zqq43
 ·exact zqq43
 ·exact zqq43
 ·exact zqq43
 ·rcases h with⟨h,_⟩ | ⟨_,h,_⟩ | ⟨_,_,_,_,_,h⟩ | ⟨_,_,_,_,_,h⟩
  ·exact absurd ⟨ha,hb⟩ h
  ·omega
  ·exact Or.inr ⟨e,h⟩
  ·exact Or.inl h
 ·omega
theorem Tm.Walk.xday {t:Tm} {X E:Nat→Int} {m:Nat} (h:t.Walk X E m) {j:Nat} (hj:j<gl E m):1≤X j∧X j≤3652059:=by
 have b:=(zJd E m).2
 by_cases e:j<m
 ·rcases Nat.eq_zero_or_pos j with r | r
  ·subst r;exact h.day 0 (Nat.zero_le _) h.e0
  ·exact h.day j zo (h.mid j r e).1
 ·have em:j=m:=zo
  subst em
  unfold gl at hj
  split at hj
  ·next z=>exact h.day j (Nat.le_refl _) z
  ·omega
theorem Tm.grid_at (t:Tm) (X:Nat→Int) {K i:Nat} (hi:i<K):ld (t.grid X K) i=X (if t.bk=true then K-1-i else i):=by
 unfold Tm.grid
 split
 ·rw[zQt,ld_dl hi]
 ·rw[ld_dl hi]
theorem Tm.Walk.gday {t:Tm} {X E:Nat→Int} {m:Nat} (h:t.Walk X E m) {i:Nat} (hi:i<gl E m):1≤ld (t.grid X (gl E m)) i∧ld (t.grid X (gl E m)) i≤3652059:=by
 rw[t.grid_at X hi]
 exact h.xday (by split <;> omega)
theorem Tm.Walk.dday {t:Tm} {X E:Nat→Int} {m q i:Nat} (h:t.Walk X E m) (hd:t.Days) (hq:q≤m-1) (hi:i<q+2):1≤t.dd X q i∧t.dd X q i≤3652059:=by
 have one:=h.one
 have b:=(zJd E m).1
 unfold Tm.dd
 split
 ·split
  ·exact hd.1
  ·exact h.xday zo
 ·split
  ·exact h.xday zo
  ·exact hd.2
theorem PlanIs.qm {t:Tm} {c:Ca} {x:Pl} (h:PlanIs t c x) (hc:t.code=0):x.q≤x.m-1:=by
 rw[←h.q hc];exact t.q_bd _ _ _
theorem PlanIs.dday {t:Tm} {c:Ca} {x:Pl} (h:PlanIs t c x) (hc:t.code=0) {i:Nat} (hi:i<x.q+2):1≤t.dd x.X x.q i∧t.dd x.X x.q i≤3652059:=
 (h.walk hc).dday (t.of_zero hc).2.1 (h.qm hc) hi
theorem PlanIs.gday {t:Tm} {c:Ca} {x:Pl} (h:PlanIs t c x) (hc:t.code=0) {i:Nat} (hi:i<x.K):1≤x.G t i∧x.G t i≤3652059:=(h.walk hc).gday hi
def Pl.n (x:Pl) (t:Tm):Nat:=if x.code t=0 then x.q+1+1 else 0
def Pl.np (x:Pl) (t:Tm):Nat:=if x.code t=0 then x.q+1 else 0
def Pl.ng (x:Pl) (t:Tm):Nat:=if x.code t=0 then x.ns t else 0
def Pl.eo (x:Pl) (t:Tm):Bool:=if x.code t=0 then t.eo else false
def Pl.en (x:Pl) (t:Tm):Int:=if x.code t=0 then x.V (x.q+1) else 0
def Pl.f (x:Pl) (t:Tm):Int:=if x.code t=0 then fr t.ms else 0
end Go.Proofs.YtpfgdfpaoldhcaaGreatDoor
namespace Go.Proofs.YtpfgdfpaoldhcaaGreatDoor
open Go.RowKit
theorem Held.box_11 {w W:World} {fs:List Fact} (h:Held w fs W) (B:Nat) (x0 x1 x2 x3 x4 x5 x6 x7 x8 x9 x10:Value) (t:TypeId) (hB:W.heap.size=B) :
  Held w (.cell B 0 x0::.cell B 1 x1::.cell B 2 x2::.cell B 3 x3::.cell B 4 x4::.cell B 5 x5::.cell B 6 x6::.cell B 7 x7::.cell B 8 x8::.cell B 9 x9::.cell B 10 x10::.free B 0::.free B 1::.free B 2::.free B 3::.free B 4::.free B 5::.free B 6::.free B 7::.free B 8::.free B 9::.free B 10::fs) (W.alloc (.cells #[x0,x1,x2,x3,x4,x5,x6,x7,x8,x9,x10] t)):=by
 subst hB
 exact ((((((((((((((((((((((h.alloc _).add (f:=.free W.heap.size 10) ⟨zs,by simp[go_sem]⟩).add (f:=.free W.heap.size 9) ⟨zs,by simp[go_sem]⟩).add (f:=.free W.heap.size 8) ⟨zs,by simp[go_sem]⟩).add (f:=.free W.heap.size 7) ⟨zs,by simp[go_sem]⟩).add (f:=.free W.heap.size 6) ⟨zs,by simp[go_sem]⟩).add (f:=.free W.heap.size 5) ⟨zs,by simp[go_sem]⟩).add (f:=.free W.heap.size 4) ⟨zs,by simp[go_sem]⟩).add (f:=.free W.heap.size 3) ⟨zs,by simp[go_sem]⟩).add (f:=.free W.heap.size 2) ⟨zs,by simp[go_sem]⟩).add (f:=.free W.heap.size 1) ⟨zs,by simp[go_sem]⟩).add (f:=.free W.heap.size 0) ⟨zs,by simp[go_sem]⟩).add (f:=.cell W.heap.size 10 x10) zf).add (f:=.cell W.heap.size 9 x9) zf).add (f:=.cell W.heap.size 8 x8) zf).add (f:=.cell W.heap.size 7 x7) zf).add (f:=.cell W.heap.size 6 x6) zf).add (f:=.cell W.heap.size 5 x5) zf).add (f:=.cell W.heap.size 4 x4) zf).add (f:=.cell W.heap.size 3 x3) zf).add (f:=.cell W.heap.size 2 x2) zf).add (f:=.cell W.heap.size 1 x1) zf).add (f:=.cell W.heap.size 0 x0) zf
end Go.Proofs.YtpfgdfpaoldhcaaGreatDoor
namespace Go.Proofs.YtpfgdfpaoldhcaaGreatDoor
open Go.RowKit Go.Extern.Stop Go.Stop Go.Extern
def ErrT (a0 a1 a2 a3:Addr) (w:World):Prop:=w.cell? ⟨4,0,none⟩=some (.iface 204 (.agg #[.pointer (some ⟨19,141,none⟩)])) ∧
 ∃(c0 c1 c2 c3:Array Value) (t0 t1 t2 t3:TypeId),
 (w.cell? ⟨0,0,none⟩=some (.iface 270 (.pointer (some a0)))∧w.cell? ⟨1,0,none⟩=some (.iface 270 (.pointer (some a1)))∧w.cell? ⟨2,0,none⟩=some (.iface 270 (.pointer (some a2)))∧w.cell? ⟨3,0,none⟩=some (.iface 270 (.pointer (some a3)))) ∧
 (a0≠a1∧a0≠a2∧a0≠a3∧a1≠a2∧a1≠a3∧a2≠a3) ∧
 w.heap[a0.block]?=some (.cells c0 t0 (0,0))∧w.heap[a1.block]?=some (.cells c1 t1 (0,0))∧w.heap[a2.block]?=some (.cells c2 t2 (0,0))∧w.heap[a3.block]?=some (.cells c3 t3 (0,0))
theorem zCx {W:World} {b:Nat} {o:Obj} (h:W.heap[b]?=some o):b<W.heap.size:=by
 rcases Nat.lt_or_ge b W.heap.size with k | k
 ·exact k
 ·rw[Array.getElem?_eq_none k] at h;cases h
theorem ErrT.below {a0 a1 a2 a3:Addr} {W W':World} (h:ErrT a0 a1 a2 a3 W) (hb:Below W W W'):ErrT a0 a1 a2 a3 W':=by
 obtain⟨hg,c0,c1,c2,c3,t0,t1,t2,t3,⟨h0,h1,h2,h3⟩,hne,r0,r1,r2,r3⟩:=h
 exact⟨keep hb (zA0 hg) hg,c0,c1,c2,c3,t0,t1,t2,t3,⟨keep hb (zA0 h0) h0,keep hb (zA0 h1) h1,keep hb (zA0 h2) h2,keep hb (zA0 h3) h3⟩,hne,(hb.block _ (zCx r0)).trans r0,(hb.block _ (zCx r1)).trans r1,(hb.block _ (zCx r2)).trans r2,(hb.block _ (zCx r3)).trans r3⟩
def ErrsT (w:World):Prop:=∃a0 a1 a2 a3,ErrT a0 a1 a2 a3 w
theorem ErrsT.below {W W':World} (h:ErrsT W) (hb:Below W W W'):ErrsT W':=by
 obtain⟨a0,a1,a2,a3,h⟩:=h;exact⟨a0,a1,a2,a3,h.below hb⟩
def zGk (a0 a1 a2 a3:Addr):Fact:=.that (ErrT a0 a1 a2 a3) (fun _ _ hb h=>h.below hb)
theorem Held.errT {w W:World} {fs:List Fact} {a0 a1 a2 a3:Addr} (h:Held w fs W) (hm:zGk a0 a1 a2 a3∈fs:=by exact zm):ErrT a0 a1 a2 a3 W:=h.all _ hm
theorem zGo (v:Value) (w:World):(Extern.ReflectliteType.typeOf #[.iface 270 v]).run Tryz.prog w=.ok (.iface 204 (.agg #[.pointer (some ⟨19,270,none⟩)])) w:=zk
theorem zCq (w:World):(callFunc 262 #[.agg #[.pointer (some ⟨19,270,none⟩)]]).run Tryz.prog w=.ok (.value true) w:=
 (run_callFunc_extern (e:=Extern.ReflectliteType.method fun t=>do Extern.Rtype.noPackHeld "Comparable" t;pure (Value.bool (← typeInfo t).comparable)) Tryz.func262 zk zk zk zk _ w).trans zk
theorem zC0 (v:Value) (w:World):(Go.method 403 204 v "Comparable").run Tryz.prog w=.ok (262,v) w:=zk
theorem zJg:(Tryz.prog.info? 270).map (·.comparable)=some true:=zk
theorem zJh:(Tryz.prog.info? 291).map (·.size)=some 1:=zk
theorem zN7 (v:Value) (xT:TypeId) (w:World):(Instr.typeAssert (.iface 270 v) xT 241 true).run Tryz.prog w=.ok (.tuple #[.nilIface,false]) w:=run_typeAssert_lacksB Tryz.underlying241 zk zk v xT w
theorem zFr (v:Value) (xT:TypeId) (w:World):(Instr.typeAssert (.iface 270 v) xT 212 true).run Tryz.prog w=.ok (.tuple #[.nilIface,false]) w:=run_typeAssert_lacksB Tryz.underlying212 zk zk v xT w
theorem zEs (v:Value) (xT:TypeId) (w:World):(Instr.typeAssert (.iface 270 v) xT 214 true).run Tryz.prog w=.ok (.tuple #[.nilIface,false]) w:=run_typeAssert_lacksB Tryz.underlying214 zk zk v xT w
theorem zN8 (v:Value) (xT:TypeId) (w:World):(Instr.typeAssert (.iface 152 v) xT 241 true).run Tryz.prog w=.ok (.tuple #[.nilIface,false]) w:=run_typeAssert_lacksB Tryz.underlying241 zk zk v xT w
theorem zEo (v:Value) (xT:TypeId) (w:World):(Instr.typeAssert (.iface 152 v) xT 212 true).run Tryz.prog w=.ok (.tuple #[.iface 152 v,true]) w:=run_typeAssert_hasB Tryz.underlying212 zk v xT w
theorem zD5 (v:Value) (w:World):(Go.method 403 152 v "Unwrap").run Tryz.prog w=.ok (256,v) w:=zk
theorem zGp (s:ByteArray) (a b:Addr) (w:World) (h:a=b):Calls Tryz.prog 142 #[.iface 152 (.agg #[.string s,.iface 270 (.pointer (some a))]),.iface 270 (.pointer (some b))] w fun e w'=>e=.returned true∧Below w w w':=by
 obtain⟨i,hi,hcmp⟩:=Option.map_eq_some_iff.1 zJg
 obtain⟨j,hj,hjs⟩:=Option.map_eq_some_iff.1 zJh
 have hT:=@run_callFunc_extern Tryz.prog 168 _ Extern.ReflectliteType.typeOf Tryz.func168 zk zk zk zk
 have hC:=zCq
 have tT:=zGo
 have mR:=zC0
 have nE:=zN7
 have uE:=zFr
 have vE:=zEs
 have nW:=zN8
 have uW:=zEo
 have mU:=zD5
 subst h
 have heq:=fun v=>run_eql_iface_ptr_same (P:=Tryz.prog) v a Tryz.underlying141 Tryz.underlying270 hi hcmp hj
 have hty:=fun v=>run_eql_iface_types (P:=Tryz.prog) 152 270 (.agg #[.string s,.iface 270 (.pointer (some a))]) (.pointer (some a)) Tryz.underlying141 zd v
 exact zqmp4
theorem zDp (s:ByteArray) (a b:Addr) (w:World) (ca cb:Array Value) (ta tb:TypeId) (hne:a≠b) (ha:w.heap[a.block]?=some (.cells ca ta (0,0))) (hb:w.heap[b.block]?=some (.cells cb tb (0,0))):Calls Tryz.prog 142 #[.iface 152 (.agg #[.string s,.iface 270 (.pointer (some a))]),.iface 270 (.pointer (some b))] w fun e w'=>e=.returned false∧Below w w w':=by
 obtain⟨i,hi,hcmp⟩:=Option.map_eq_some_iff.1 zJg
 obtain⟨j,hj,hjs⟩:=Option.map_eq_some_iff.1 zJh
 have hT:=@run_callFunc_extern Tryz.prog 168 _ Extern.ReflectliteType.typeOf Tryz.func168 zk zk zk zk
 have hC:=zCq
 have tT:=zGo
 have mR:=zC0
 have nE:=zN7
 have uE:=zFr
 have vE:=zEs
 have nW:=zN8
 have uW:=zEo
 have mU:=zD5
 have B:Below w w (w.alloc (.cells #[.string s,.iface 270 (.pointer (some a))] 152)):=(Below.refl _ _).alloc (Nat.le_refl _) _
 have heq:=run_eql_iface_ptr_other (P:=Tryz.prog) (w.alloc (.cells #[.string s,.iface 270 (.pointer (some a))] 152)) Tryz.underlying141 Tryz.underlying270 hi hcmp hj (by rw[hjs];decide) hne ((B.block _ (zCx ha)).trans ha) ((B.block _ (zCx hb)).trans hb)
 clear B
 have hty:=fun v=>run_eql_iface_types (P:=Tryz.prog) 152 270 (.agg #[.string s,.iface 270 (.pointer (some a))]) (.pointer (some b)) Tryz.underlying141 zd v
 exact zqmp4
theorem zQ0 (t:Value) (w:World) :
  Calls Tryz.prog 117 #[.nilIface,t] w fun e w'=>e=.returned false∧w'=w:=by
 go_enter Tryz.func117,Tryz.ntmps117
 go_wp2
 go_ret
 exact⟨rfl,rfl⟩
theorem zI3 (t:Addr) (w:World):(ReflectliteValue.unpack (.iface 154 (.pointer (some t)))).run Tryz.prog w
  = .ok (.agg #[.pointer (some ⟨19,154,none⟩),.pointer (some ⟨w,0,none⟩),.int .u64 150]) (w.alloc (.cells #[.pointer (some t)] 154)):=zk
theorem zNu (a:Addr) (w:World):(ReflectliteValue.methodAny (ReflectliteValue.valueError "reflectlite.Value.Type" 0) (fun t _ _ _=>ReflectliteType.toType t) #[.agg #[.pointer (some ⟨19,154,none⟩),.pointer (some a),.int .u64 150]]).run Tryz.prog w
  = .ok (.iface 204 (.agg #[.pointer (some ⟨19,154,none⟩)])) w:=zk
theorem zG7 (h:Value) (w:World):(Go.method 403 204 (.agg #[h]) "Kind").run Tryz.prog w=.ok (252,h) w:=zk
theorem zNr (w:World):((ReflectliteType.abiMethod fun t=>(fun a:Nat=>Value.int IntKind.u8 (a:Int)) <$> Rtype.kind t) #[.pointer (some ⟨19,154,none⟩)]).run Tryz.prog w=.ok (.int .u8 22) w:=zk
theorem zNs (w:World):((ReflectliteType.abiMethod fun t=>(fun a:Nat=>Value.int IntKind.u8 (a:Int)) <$> Rtype.kind t) #[.pointer (some ⟨19,152,none⟩)]).run Tryz.prog w=.ok (.int .u8 25) w:=zk
theorem zMi (z:Sem Value) (f:TypeId→Addr→Nat→Nat→Sem Value) (v:Value) :
  ReflectliteValue.method z f #[v]=(do match ← ReflectliteValue.parts v with | none=>z | some (t,a,fl)=>f t a fl (fl%32)):=rfl
theorem zG8 (a:Addr) (w:World):(ReflectliteValue.parts (.agg #[.pointer (some ⟨19,154,none⟩),.pointer (some a),.int .u64 150])).run Tryz.prog w=.ok (some (154,a,150)) w:=zk
theorem zNq (a p:Addr) (W:World) (ha:W.cell? a=some (.pointer (some p))) :
  (ReflectliteValue.method (ReflectliteValue.valueError "reflectlite.Value.IsNil" 0) ReflectliteValue.isNil #[.agg #[.pointer (some ⟨19,154,none⟩),.pointer (some a),.int .u64 150]]).run Tryz.prog W=.ok false W:=by
 rw[zMi]
 simp only[Sem.run_bind,zG8,Result.andThen]
 simp[ReflectliteValue.isNil,loadVar,isAgg,underlying,Tryz.underlying154,ha,Result.andThen]
theorem zG6 (h:Value) (w:World):(Go.method 403 204 (.agg #[h]) "Elem").run Tryz.prog w=.ok (263,.agg #[h]) w:=zk
theorem zD7 (h:Value) (w:World):(Go.method 403 204 (.agg #[h]) "Implements").run Tryz.prog w=.ok (264,.agg #[h]) w:=zk
theorem zCy (h:Value) (w:World):(Go.method 403 204 (.agg #[h]) "AssignableTo").run Tryz.prog w=.ok (261,.agg #[h]) w:=zk
theorem zNo (w:World):(ReflectliteType.method ReflectliteType.elem #[.agg #[.pointer (some ⟨19,154,none⟩)]]).run Tryz.prog w=.ok (.iface 204 (.agg #[.pointer (some ⟨19,152,none⟩)])) w:=zk
theorem zFt (w:World):(ReflectliteType.relation "Implements" ReflectliteType.implements_ #[.agg #[.pointer (some ⟨19,152,none⟩)],.iface 204 (.agg #[.pointer (some ⟨19,141,none⟩)])]).run Tryz.prog w=.ok true w:=zk
theorem zJ7 (v:Value) (w:World):(ReflectliteType.typeOf #[.iface 152 v]).run Tryz.prog w=.ok (.iface 204 (.agg #[.pointer (some ⟨19,152,none⟩)])) w:=zk
theorem zFs (w:World):(ReflectliteType.relation "AssignableTo" ReflectliteType.assignableTo #[.agg #[.pointer (some ⟨19,152,none⟩)],.iface 204 (.agg #[.pointer (some ⟨19,152,none⟩)])]).run Tryz.prog w=.ok true w:=zk
theorem zI4 (c:ByteArray) (x:TypeId) (v:Value) (w:World):(ReflectliteValue.unpack (.iface 152 (.agg #[.string c,.iface x v]))).run Tryz.prog w
  = .ok (.agg #[.pointer (some ⟨19,152,none⟩),.pointer (some ⟨w,0,none⟩),.int .u64 153]) (w.alloc (.cells #[.string c,.iface x v] 152)):=zk
theorem zJ3 (w:World):(Rtype.elem? 154).run Tryz.prog w=.ok (some 152) w:=zk
theorem asMkR_te (p:Addr) (w:World):(ReflectliteValue.mk 152 p ReflectliteValue.flagAddr).run Tryz.prog w=.ok (.agg #[.pointer (some ⟨19,152,none⟩),.pointer (some p),.int .u64 409]) w:=zk
theorem zNp (a p:Addr) (W:World) (ha:W.cell? a=some (.pointer (some p))) :
  (ReflectliteValue.method (ReflectliteValue.valueError "reflectlite.Value.Elem" 0) ReflectliteValue.elem #[.agg #[.pointer (some ⟨19,154,none⟩),.pointer (some a),.int .u64 150]]).run Tryz.prog W
   = .ok (.agg #[.pointer (some ⟨19,152,none⟩),.pointer (some p),.int .u64 409]) W:=by
 rw[zMi]
 simp only[Sem.run_bind,zG8,Result.andThen]
 simp[ReflectliteValue.elem,loadVar,isAgg,underlying,Tryz.underlying154,ha,Result.andThen,zJ3,asMkR_te]
theorem asRls_te (v x:Value):ReflectliteValue.set #[v,x]=(do
  let (some (dst,a,fl),some (src,b,_)):=(← ReflectliteValue.parts v,←ReflectliteValue.parts x)
   | unsupported (.noEntry "extern/(internal/reflectlite.Value).Set.zeroValue")
  if fl/ReflectliteValue.flagAddr%2==0 then unsupported (.noEntry "extern/(internal/reflectlite.Value).Set.unaddressable")
  let val ← loadVar src b
  if ← Rtype.directlyAssignable dst src then storeVar dst a val
  else if ← Rtype.implements dst src then
   if (← Rtype.kind src)==20 then
    match val with
    | .nilIface=>unsupported (.noEntry "extern/reflectlite: a nil value of one interface type handed on as a value of another")
    | _=>storeVar dst a val
   else storeVar dst a (.iface src val)
  else panicString ("reflectlite.Set: value of type " ++ (← Rtype.spelt src) ++ " is not assignable to type " ++ (← Rtype.spelt dst))
  pure (.tuple #[])):=rfl
theorem zJ6 (a:Addr) (w:World):(ReflectliteValue.parts (.agg #[.pointer (some ⟨19,152,none⟩),.pointer (some a),.int .u64 409])).run Tryz.prog w=.ok (some (152,a,409)) w:=zk
theorem zKo (a:Addr) (w:World):(ReflectliteValue.parts (.agg #[.pointer (some ⟨19,152,none⟩),.pointer (some a),.int .u64 153])).run Tryz.prog w=.ok (some (152,a,153)) w:=zk
theorem zJ2 (w:World):(Rtype.directlyAssignable 152 152).run Tryz.prog w=.ok true w:=zk
theorem zHg (w:World):(sizeOf 152).run Tryz.prog w=.ok 2 w:=zk
theorem zNt (b:Nat) (c:ByteArray) (y:Value) (W:World) (h0:W.cell? ⟨b,0,none⟩=some (.string c)) (h1:W.cell? ⟨b,1,none⟩=some y):(loadVar 152 ⟨b,0,none⟩).run Tryz.prog W=.ok (.agg #[.string c,y]) W:=by
 have hl:=run_loadCells_list (P:=Tryz.prog) (w:=W) ⟨b,0,none⟩ [.string c,y] (fun j v hj=>by
  match j,hj with
  | 0,hj=>simp at hj;subst hj;simpa [Addr.add] using h0
  | 1,hj=>simp at hj;subst hj;simpa [Addr.add] using h1)
 simp only[List.length_cons,List.length_nil,Nat.zero_add,Nat.reduceAdd] at hl
 simp[loadVar,isAgg,underlying,Tryz.underlying152,Result.andThen,zHg,hl]
theorem zKp (b:Nat) (c:ByteArray) (x:TypeId) (v o0 o1:Value) (W:World) (h0:W.cell? ⟨b,0,none⟩=some o0) (h1:W.cell? ⟨b,1,none⟩=some o1) (f0:W.frozen? ⟨b,0,none⟩=false) (f1:W.frozen? ⟨b,1,none⟩=false) :
  (storeVar 152 ⟨b,0,none⟩ (.agg #[.string c,.iface x v])).run Tryz.prog W=.ok () ((W.setCell ⟨b,0,none⟩ (.string c)).setCell ⟨b,1,none⟩ (.iface x v)):=by
 have hs:=run_storeCells_cells (P:=Tryz.prog) b 0 [.string c,.iface x v] 0 W (fun j hj=>by
  match j,hj with
  | 0,_=>simp[h0]
  | 1,_=>simp[h1]
  | j+2,hj=>have k:j+2<2:=hj;omega) (fun j hj=>by
  match j,hj with
  | 0,_=>simpa using f0
  | 1,_=>simpa using f1
  | j+2,hj=>have k:j+2<2:=hj;omega) (fun u hu=>by simp at hu;rcases hu with rfl | rfl <;> rfl)
 simp[storeVar,Value.cells,zHg,Result.andThen]
 exact hs
theorem asSet_te (d b:Nat) (c:ByteArray) (x:TypeId) (v o0 o1:Value) (W:World) (b0:W.cell? ⟨b,0,none⟩=some (.string c)) (b1:W.cell? ⟨b,1,none⟩=some (.iface x v))
  (h0:W.cell? ⟨d,0,none⟩=some o0) (h1:W.cell? ⟨d,1,none⟩=some o1) (f0:W.frozen? ⟨d,0,none⟩=false) (f1:W.frozen? ⟨d,1,none⟩=false) :
  (ReflectliteValue.set #[.agg #[.pointer (some ⟨19,152,none⟩),.pointer (some ⟨d,0,none⟩),.int .u64 409],.agg #[.pointer (some ⟨19,152,none⟩),.pointer (some ⟨b,0,none⟩),.int .u64 153]]).run Tryz.prog W
   = .ok (.tuple #[]) ((W.setCell ⟨d,0,none⟩ (.string c)).setCell ⟨d,1,none⟩ (.iface x v)):=by
 have hl:=zNt b c _ W b0 b1
 have hs:=zKp d c x v o0 o1 W h0 h1 f0 f1
 rw[asRls_te]
 simp only[Sem.run_bind,zJ6,zKo,Result.andThen]
 simp[ReflectliteValue.flagAddr,hl,Result.andThen,zJ2,hs]
theorem zEk (c:ByteArray) (x:TypeId) (v o0 o1:Value) (d:Nat) (w:World) (hg:w.cell? ⟨4,0,none⟩=some (.iface 204 (.agg #[.pointer (some ⟨19,141,none⟩)])))
  (h0:w.cell? ⟨d,0,none⟩=some o0) (h1:w.cell? ⟨d,1,none⟩=some o1) (f0:w.frozen? ⟨d,0,none⟩=false) (f1:w.frozen? ⟨d,1,none⟩=false) :
  Calls Tryz.prog 117 #[.iface 152 (.agg #[.string c,.iface x v]),.iface 154 (.pointer (some ⟨d,0,none⟩))] w fun ev w'=>ev=.returned true ∧
   w'=(((((w.alloc (.cells #[.pointer (some ⟨d,0,none⟩)] 154)).alloc (.cells #[.pointer (some ⟨19,154,none⟩),.pointer (some ⟨w,0,none⟩),.int .u64 150] 164)).alloc (.cells #[.pointer (some ⟨19,154,none⟩),.pointer (some ⟨w,0,none⟩),.int .u64 150] 164)).alloc (.cells #[.string c,.iface x v] 152)).setCell ⟨d,0,none⟩ (.string c)).setCell ⟨d,1,none⟩ (.iface x v):=by
 obtain⟨t,ht⟩:∃t:Addr,t=⟨d,0,none⟩:=⟨_,rfl⟩
 have h6:=@run_callFunc_extern Tryz.prog 138 _ (fun args=>ReflectliteValue.unpack (args.getD 0 (.tuple #[]))) Tryz.func138 zk zk zk zk
 have h7:=@run_callFunc_extern Tryz.prog 139 _ (ReflectliteValue.methodAny (ReflectliteValue.valueError "reflectlite.Value.Type" 0) (fun t _ _ _=>ReflectliteType.toType t)) Tryz.func139 zk zk zk zk
 have h8:=@run_callFunc_extern Tryz.prog 140 _ (ReflectliteValue.method (ReflectliteValue.valueError "reflectlite.Value.IsNil" 0) ReflectliteValue.isNil) Tryz.func140 zk zk zk zk
 have h27:=@run_callFunc_extern Tryz.prog 252 _ (ReflectliteType.abiMethod fun t=>do pure (.int .u8 (← Rtype.kind t))) Tryz.func252 zk zk zk zk
 have h37:=@run_callFunc_extern Tryz.prog 263 _ (ReflectliteType.method ReflectliteType.elem) Tryz.func263 zk zk zk zk
 have h38:=@run_callFunc_extern Tryz.prog 264 _ (ReflectliteType.relation "Implements" ReflectliteType.implements_) Tryz.func264 zk zk zk zk
 have h10:=@run_callFunc_extern Tryz.prog 168 _ ReflectliteType.typeOf Tryz.func168 zk zk zk zk
 have h35:=@run_callFunc_extern Tryz.prog 261 _ (ReflectliteType.relation "AssignableTo" ReflectliteType.assignableTo) Tryz.func261 zk zk zk zk
 have h11:=@run_callFunc_extern Tryz.prog 169 _ (ReflectliteValue.method (ReflectliteValue.valueError "reflectlite.Value.Elem" 0) ReflectliteValue.elem) Tryz.func169 zk zk zk zk
 have h12:=@run_callFunc_extern Tryz.prog 170 _ ReflectliteValue.set Tryz.func170 zk zk zk zk
 have tO:=zJ7
 have mA:=zCy
 have a25:=zFs
 have v25:=zI4
 have f6:=zI3
 have f7:=zNu
 have mK:=zG7
 have mE:=zG6
 have mI:=zD7
 have k27:=zNr
 have k25:=zNs
 have e27:=zNo
 have i25:=zFt
 have hdl:d<w.heap.size:=zA0 h0
 have hgl:=zA0 hg
 have HH:=(((((Held.start w).add (f:=.cell d 0 o0) h0).add (f:=.cell d 1 o1) h1).add (f:=.free d 0) ⟨hdl,f0⟩).add (f:=.free d 1) ⟨hdl,f1⟩).add (f:=.cell 4 0 _) hg
 have H1:=HH.lone w.heap.size (.pointer (some t)) 154 rfl
 have H2:=H1.triple (w+1) (.pointer (some ⟨19,154,none⟩)) (.pointer (some ⟨w,0,none⟩)) (.int .u64 150) 164 zs
 have H3:=H2.triple (w+2) (.pointer (some ⟨19,154,none⟩)) (.pointer (some ⟨w,0,none⟩)) (.int .u64 150) 164 zs
 have H4:=H3.pair (w+3) (.string c) (.iface x v) 152 zs
 have MM:True:=trivial
 have n8:=zNq ⟨w,0,none⟩ t ((w.alloc (.cells #[.pointer (some t)] 154)).alloc (.cells #[.pointer (some ⟨19,154,none⟩),.pointer (some ⟨w,0,none⟩),.int .u64 150] 164)) (H2.cell _ _ _)
 have hg2:=H2.cell 4 0 _
 have el:=zNp ⟨w,0,none⟩ t (((w.alloc (.cells #[.pointer (some t)] 154)).alloc (.cells #[.pointer (some ⟨19,154,none⟩),.pointer (some ⟨w,0,none⟩),.int .u64 150] 164)).alloc (.cells #[.pointer (some ⟨19,154,none⟩),.pointer (some ⟨w,0,none⟩),.int .u64 150] 164)) (H3.cell _ _ _)
 have st:=asSet_te d (w+3) c x v o0 o1 ((((w.alloc (.cells #[.pointer (some t)] 154)).alloc (.cells #[.pointer (some ⟨19,154,none⟩),.pointer (some ⟨w,0,none⟩),.int .u64 150] 164)).alloc (.cells #[.pointer (some ⟨19,154,none⟩),.pointer (some ⟨w,0,none⟩),.int .u64 150] 164)).alloc (.cells #[.string c,.iface x v] 152)) (H4.cell _ _ _) (H4.cell _ _ _)
  (H4.cell _ _ _) (H4.cell _ _ _)
  (H4.frozen _ _) (H4.frozen _ _)
 exact zqp3m
end Go.Proofs.YtpfgdfpaoldhcaaGreatDoor
namespace Go.Proofs.YtpfgdfpaoldhcaaGreatDoor
open Go.RowKit
theorem zT6 (k:Int):(rn k).toList.isEmpty=decide (k<0∨4<k):=by
 by_cases h:k<0∨4<k
 ·rw[rn_out k h,decide_eq_true h];decide +kernel
 ·rw[decide_eq_false h]
  rcases of5 k zo with rfl | rfl | rfl | rfl | rfl <;> decide +kernel
def zPp (w:World):Prop:=∀i:Nat,i<5→w.cell? ⟨6,i,none⟩=some (.string (rn i))
def zPq (w:World):Prop:=∀i:Nat,i<3→w.cell? ⟨5,i,none⟩=some (.string (tn i))
def FactsT (w:World):Prop:=Lens w∧zPp w∧zPq w∧ErrsT w
theorem FactsT.below {W W':World} (h:FactsT W) (hb:Below W W W'):FactsT W':=
 ⟨Lens.below h.1 hb,fun i hi=>keep hb (zA0 (h.2.1 i hi)) (h.2.1 i hi),fun i hi=>keep hb (zA0 (h.2.2.1 i hi)) (h.2.2.1 i hi),h.2.2.2.below hb⟩
def zCm:Fact:=.that FactsT (fun _ _ hb h=>h.below hb)
theorem Held.factsT {w W:World} {fs:List Fact} (h:Held w fs W) (hm:zCm∈fs:=by exact zm):FactsT W:=h.all _ hm
theorem Held.lensT {w W:World} {fs:List Fact} (h:Held w fs W) (hm:zCm∈fs:=by exact zm):Lens W:=(h.factsT hm).1
end Go.Proofs.YtpfgdfpaoldhcaaGreatDoor
