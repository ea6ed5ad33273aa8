/- Several texts in one: CNum. -/
import Derived.Below
import Derived.KernelRfl
import Derived.Lib.Hide
set_option maxHeartbeats 8000000
set_option maxRecDepth 100000
set_option linter.unusedVariables false
set_option linter.unusedSimpArgs false
namespace Go.Proofs.YtpfgdfpaoldhcaaGreatDoor
theorem i0_ {α:Type _} {a:α} {l:List α}:a∈a::l:=List.Mem.head _
theorem i1_ {α:Type _} {x0 a:α} {l:List α}:a∈x0::a::l:=.tail _ (List.Mem.head _)
theorem i2_ {α:Type _} {x0 x1 a:α} {l:List α}:a∈x0::x1::a::l:=.tail _ (.tail _ (List.Mem.head _))
theorem i3_ {α:Type _} {x0 x1 x2 a:α} {l:List α}:a∈x0::x1::x2::a::l:=.tail _ (.tail _ (.tail _ (List.Mem.head _)))
theorem i4_ {α:Type _} {x0 x1 x2 x3 a:α} {l:List α}:a∈x0::x1::x2::x3::a::l:=.tail _ (.tail _ (.tail _ (.tail _ (List.Mem.head _))))
theorem i5_ {α:Type _} {x0 x1 x2 x3 x4 a:α} {l:List α}:a∈x0::x1::x2::x3::x4::a::l:=.tail _ (.tail _ (.tail _ (.tail _ (.tail _ (List.Mem.head _)))))
theorem i6_ {α:Type _} {x0 x1 x2 x3 x4 x5 a:α} {l:List α}:a∈x0::x1::x2::x3::x4::x5::a::l:=.tail _ (.tail _ (.tail _ (.tail _ (.tail _ (.tail _ (List.Mem.head _))))))
theorem i7_ {α:Type _} {x0 x1 x2 x3 x4 x5 x6 a:α} {l:List α}:a∈x0::x1::x2::x3::x4::x5::x6::a::l:=.tail _ (.tail _ (.tail _ (.tail _ (.tail _ (.tail _ (.tail _ (List.Mem.head _)))))))
theorem i8_ {α:Type _} {x0 x1 x2 x3 x4 x5 x6 x7 a:α} {l:List α}:a∈x0::x1::x2::x3::x4::x5::x6::x7::a::l:=.tail _ (.tail _ (.tail _ (.tail _ (.tail _ (.tail _ (.tail _ (.tail _ (List.Mem.head _))))))))
theorem i9_ {α:Type _} {x0 x1 x2 x3 x4 x5 x6 x7 x8 a:α} {l:List α}:a∈x0::x1::x2::x3::x4::x5::x6::x7::x8::a::l:=.tail _ (.tail _ (.tail _ (.tail _ (.tail _ (.tail _ (.tail _ (.tail _ (.tail _ (List.Mem.head _)))))))))
theorem i10_ {α:Type _} {x0 x1 x2 x3 x4 x5 x6 x7 x8 x9 a:α} {l:List α}:a∈x0::x1::x2::x3::x4::x5::x6::x7::x8::x9::a::l:=.tail _ (.tail _ (.tail _ (.tail _ (.tail _ (.tail _ (.tail _ (.tail _ (.tail _ (.tail _ (List.Mem.head _))))))))))
theorem i11_ {α:Type _} {x0 x1 x2 x3 x4 x5 x6 x7 x8 x9 x10 a:α} {l:List α}:a∈x0::x1::x2::x3::x4::x5::x6::x7::x8::x9::x10::a::l:=.tail _ (.tail _ (.tail _ (.tail _ (.tail _ (.tail _ (.tail _ (.tail _ (.tail _ (.tail _ (.tail _ (List.Mem.head _)))))))))))
theorem i12_ {α:Type _} {x0 x1 x2 x3 x4 x5 x6 x7 x8 x9 x10 x11 a:α} {l:List α}:a∈x0::x1::x2::x3::x4::x5::x6::x7::x8::x9::x10::x11::a::l:=.tail _ (.tail _ (.tail _ (.tail _ (.tail _ (.tail _ (.tail _ (.tail _ (.tail _ (.tail _ (.tail _ (.tail _ (List.Mem.head _))))))))))))
theorem i13_ {α:Type _} {x0 x1 x2 x3 x4 x5 x6 x7 x8 x9 x10 x11 x12 a:α} {l:List α}:a∈x0::x1::x2::x3::x4::x5::x6::x7::x8::x9::x10::x11::x12::a::l:=.tail _ (.tail _ (.tail _ (.tail _ (.tail _ (.tail _ (.tail _ (.tail _ (.tail _ (.tail _ (.tail _ (.tail _ (.tail _ (List.Mem.head _)))))))))))))
theorem i14_ {α:Type _} {x0 x1 x2 x3 x4 x5 x6 x7 x8 x9 x10 x11 x12 x13 a:α} {l:List α}:a∈x0::x1::x2::x3::x4::x5::x6::x7::x8::x9::x10::x11::x12::x13::a::l:=.tail _ (.tail _ (.tail _ (.tail _ (.tail _ (.tail _ (.tail _ (.tail _ (.tail _ (.tail _ (.tail _ (.tail _ (.tail _ (.tail _ (List.Mem.head _))))))))))))))
theorem i15_ {α:Type _} {x0 x1 x2 x3 x4 x5 x6 x7 x8 x9 x10 x11 x12 x13 x14 a:α} {l:List α}:a∈x0::x1::x2::x3::x4::x5::x6::x7::x8::x9::x10::x11::x12::x13::x14::a::l:=.tail _ (.tail _ (.tail _ (.tail _ (.tail _ (.tail _ (.tail _ (.tail _ (.tail _ (.tail _ (.tail _ (.tail _ (.tail _ (.tail _ (.tail _ (List.Mem.head _)))))))))))))))
theorem i16_ {α:Type _} {x0 x1 x2 x3 x4 x5 x6 x7 x8 x9 x10 x11 x12 x13 x14 x15 a:α} {l:List α}:a∈x0::x1::x2::x3::x4::x5::x6::x7::x8::x9::x10::x11::x12::x13::x14::x15::a::l:=.tail _ (.tail _ (.tail _ (.tail _ (.tail _ (.tail _ (.tail _ (.tail _ (.tail _ (.tail _ (.tail _ (.tail _ (.tail _ (.tail _ (.tail _ (.tail _ (List.Mem.head _))))))))))))))))
theorem i17_ {α:Type _} {x0 x1 x2 x3 x4 x5 x6 x7 x8 x9 x10 x11 x12 x13 x14 x15 x16 a:α} {l:List α}:a∈x0::x1::x2::x3::x4::x5::x6::x7::x8::x9::x10::x11::x12::x13::x14::x15::x16::a::l:=.tail _ (.tail _ (.tail _ (.tail _ (.tail _ (.tail _ (.tail _ (.tail _ (.tail _ (.tail _ (.tail _ (.tail _ (.tail _ (.tail _ (.tail _ (.tail _ (.tail _ (List.Mem.head _)))))))))))))))))
theorem i18_ {α:Type _} {x0 x1 x2 x3 x4 x5 x6 x7 x8 x9 x10 x11 x12 x13 x14 x15 x16 x17 a:α} {l:List α}:a∈x0::x1::x2::x3::x4::x5::x6::x7::x8::x9::x10::x11::x12::x13::x14::x15::x16::x17::a::l:=.tail _ (.tail _ (.tail _ (.tail _ (.tail _ (.tail _ (.tail _ (.tail _ (.tail _ (.tail _ (.tail _ (.tail _ (.tail _ (.tail _ (.tail _ (.tail _ (.tail _ (.tail _ (List.Mem.head _))))))))))))))))))
theorem i19_ {α:Type _} {x0 x1 x2 x3 x4 x5 x6 x7 x8 x9 x10 x11 x12 x13 x14 x15 x16 x17 x18 a:α} {l:List α}:a∈x0::x1::x2::x3::x4::x5::x6::x7::x8::x9::x10::x11::x12::x13::x14::x15::x16::x17::x18::a::l:=.tail _ (.tail _ (.tail _ (.tail _ (.tail _ (.tail _ (.tail _ (.tail _ (.tail _ (.tail _ (.tail _ (.tail _ (.tail _ (.tail _ (.tail _ (.tail _ (.tail _ (.tail _ (.tail _ (List.Mem.head _)))))))))))))))))))
theorem i20_ {α:Type _} {x0 x1 x2 x3 x4 x5 x6 x7 x8 x9 x10 x11 x12 x13 x14 x15 x16 x17 x18 x19 a:α} {l:List α}:a∈x0::x1::x2::x3::x4::x5::x6::x7::x8::x9::x10::x11::x12::x13::x14::x15::x16::x17::x18::x19::a::l:=.tail _ (.tail _ (.tail _ (.tail _ (.tail _ (.tail _ (.tail _ (.tail _ (.tail _ (.tail _ (.tail _ (.tail _ (.tail _ (.tail _ (.tail _ (.tail _ (.tail _ (.tail _ (.tail _ (.tail _ (List.Mem.head _))))))))))))))))))))
theorem i21_ {α:Type _} {x0 x1 x2 x3 x4 x5 x6 x7 x8 x9 x10 x11 x12 x13 x14 x15 x16 x17 x18 x19 x20 a:α} {l:List α}:a∈x0::x1::x2::x3::x4::x5::x6::x7::x8::x9::x10::x11::x12::x13::x14::x15::x16::x17::x18::x19::x20::a::l:=.tail _ (.tail _ (.tail _ (.tail _ (.tail _ (.tail _ (.tail _ (.tail _ (.tail _ (.tail _ (.tail _ (.tail _ (.tail _ (.tail _ (.tail _ (.tail _ (.tail _ (.tail _ (.tail _ (.tail _ (.tail _ (List.Mem.head _)))))))))))))))))))))
theorem i22_ {α:Type _} {x0 x1 x2 x3 x4 x5 x6 x7 x8 x9 x10 x11 x12 x13 x14 x15 x16 x17 x18 x19 x20 x21 a:α} {l:List α}:a∈x0::x1::x2::x3::x4::x5::x6::x7::x8::x9::x10::x11::x12::x13::x14::x15::x16::x17::x18::x19::x20::x21::a::l:=.tail _ (.tail _ (.tail _ (.tail _ (.tail _ (.tail _ (.tail _ (.tail _ (.tail _ (.tail _ (.tail _ (.tail _ (.tail _ (.tail _ (.tail _ (.tail _ (.tail _ (.tail _ (.tail _ (.tail _ (.tail _ (.tail _ (List.Mem.head _))))))))))))))))))))))
theorem zm {P:Prop} (h:P:=by repeat (first | with_reducible exact List.mem_cons_self | with_reducible apply List.mem_cons_of_mem)):P:=h
theorem zo {P:Prop} (h:P:=by omega):P:=h
theorem zk {P:Prop} (h:P:=by kernel_rfl):P:=h
theorem zd {P:Prop} (h:P:=by decide):P:=h
theorem zw {P:Prop} (h:P:=by simp <;> omega):P:=h
theorem zx {P:Prop} (h:P:=by simp;omega):P:=h
theorem zs {P:Prop} (h:P:=by simp):P:=h
theorem za {P:Prop} (h:P:=by assumption):P:=h
theorem zr {P:Prop} (h:P:=by rfl):P:=h
theorem ze {P:Prop} (h:P:=by decide +kernel):P:=h
theorem zu {P:Prop} (h:P:=by first | (simp;done) | (simp;omega)):P:=h
theorem zh {p:Prop} (h:p):Go.RowKit.Hid p:=h
instance : Coe Int Value:=⟨λ x=>.int .i64 x⟩
instance : Coe Nat Value:=⟨λ x=>.int .i64 (x:Int)⟩
instance : Coe Bool Value:=⟨λ x=>.bool x⟩
instance : CoeOut World Nat:=⟨λ w=>w.heap.size⟩
end Go.Proofs.YtpfgdfpaoldhcaaGreatDoor
namespace Go.Proofs.YtpfgdfpaoldhcaaGreatDoor
def lp (y:Int):Bool:=(y%4==0&&!(y%100==0))||y%400==0
def l0 (m:Int):Int:=if m=1 then 31 else if m=2 then 28 else if m=3 then 31 else if m=4 then 30 else if m=5 then 31 else if m=6 then 30 else if m=7 then 31 else if m=8 then 31 else if m=9 then 30 else if m=10 then 31 else if m=11 then 30 else if m=12 then 31 else 0
def ln (y m:Int):Int:=if m=2∧lp y=true then 29 else l0 m
def may (y m d:Int):Prop:=1≤y∧y≤9999∧1≤m∧m≤12∧1≤d∧d≤ln y m
def mb (y m d:Int):Bool:=decide (1≤y∧y≤9999∧1≤m∧m≤12∧1≤d∧d≤ln y m)
theorem zFp (y m d:Int):mb y m d=true↔may y m d:=by simp[mb,may]
theorem zN4 (y m d:Int):mb y m d=false↔¬may y m d:=by rw[←zFp];simp
def ah (y:Int):Int:=(y-1)*365+(y-1)/4-(y-1)/100+(y-1)/400
def a0 (m:Int):Int:=if m≤1 then 0 else if m=2 then 31 else if m=3 then 59 else if m=4 then 90 else if m=5 then 120 else if m=6 then 151 else if m=7 then 181 else if m=8 then 212 else if m=9 then 243 else if m=10 then 273 else if m=11 then 304 else if m=12 then 334 else 365
def am (y m:Int):Int:=a0 m+if 2<m∧lp y=true then 1 else 0
def nb (y m d:Int):Int:=ah y+am y m+d
def yl (y:Int):Int:=if lp y=true then 366 else 365
theorem zEq (y:Int):lp y=true↔(y%4=0∧¬y%100=0)∨y%400=0:=by simp[lp]
theorem zAh (y m:Int):0≤ln y m∧ln y m≤31:=by unfold ln l0;omega
theorem zGr (y m:Int) (h1:1≤m) (h2:m≤12):28≤ln y m:=by unfold ln l0;omega
theorem zN1 (y m:Int) (h:m<1∨12<m):ln y m=0:=by unfold ln l0;omega
theorem zE4 (y m:Int) (h1:1≤m) (h2:m≤12):am y (m+1)=am y m+ln y m:=by
 unfold am ln a0 l0;cases lp y <;> simp <;> omega
theorem zFl (y:Int):am y 1=0:=by unfold am a0;simp
theorem zPu (y:Int):am y 13=yl y:=by unfold am a0 yl;cases lp y <;> simp
theorem zJ1 (y m:Int):0≤am y m∧am y m≤366:=by unfold am a0;cases lp y <;> simp <;> omega
theorem am_lt (y m k:Int) (h1:1≤m) (h2:m<k) (h3:k≤13):am y m+ln y m≤am y k:=by
 unfold am ln a0 l0;cases lp y <;> simp <;> omega
theorem zPo (y:Int):365≤yl y∧yl y≤366:=by unfold yl;cases lp y <;> simp
theorem zD6 (y:Int):ah (y+1)=ah y+yl y:=by
 unfold ah yl
 by_cases h:lp y=true
 ·rw[if_pos h];rw[zEq] at h;omega
 ·rw[if_neg h];rw[zEq] at h;omega
theorem zPt:ah 1=0:=zd
theorem zMg:ah 10000=3652059:=zd
theorem zKn (y z:Int) (h:y≤z):ah y+365*(z-y)≤ah z:=by unfold ah;omega
theorem zPs (y z:Int) (h:y<z):ah y+yl y≤ah z:=by
 rw[←zD6];have:=zKn (y+1) z zo;omega
theorem zHz (y:Int) (h1:1≤y) (h2:y≤10000):0≤ah y∧ah y≤3652059:=by
 have a:=zKn 1 y h1;have b:=zKn y 10000 h2
 rw[zPt] at a;rw[zMg] at b;omega
theorem zBq (y m d:Int) (h:may y m d):1≤am y m+d∧am y m+d≤yl y:=by
 obtain⟨h1,h2,h3,h4,h5,h6⟩:=h
 have a:=am_lt y m 13 h3 zo zo
 have b:=(zJ1 y m).1
 rw[zPu] at a;omega
theorem zAd (y m d:Int) (h:may y m d):1≤nb y m d∧nb y m d≤3652059:=by
 have a:=zBq y m d h
 obtain⟨h1,h2,h3,h4,h5,h6⟩:=h
 have b:=zHz y h1 zo
 have c:=zPs y 10000 zo
 rw[zMg] at c
 unfold nb;omega
theorem nb_lt (y m d y' m' d':Int) (h:may y m d) (h':may y' m' d') (hl:y<y'∨y=y'∧(m<m'∨m=m'∧d<d')):nb y m d<nb y' m' d':=by
 have a:=zBq y m d h
 have b:=zBq y' m' d' h'
 obtain⟨h1,h2,h3,h4,h5,h6⟩:=h
 obtain⟨g1,g2,g3,g4,g5,g6⟩:=h'
 unfold nb
 rcases hl with hl | ⟨rfl,hl | ⟨rfl,hl⟩⟩
 ·have:=zPs y y' hl;omega
 ·have:=am_lt y m m' h3 hl zo;omega
 ·omega
theorem nb_inj (y m d y' m' d':Int) (h:may y m d) (h':may y' m' d') (he:nb y m d=nb y' m' d'):y=y'∧m=m'∧d=d':=by
 by_cases a:y<y'∨y=y'∧(m<m'∨m=m'∧d<d')
 ·have:=nb_lt y m d y' m' d' h h' a;omega
 ·by_cases b:y'<y∨y'=y∧(m'<m∨m'=m∧d'<d)
  ·have:=nb_lt y' m' d' y m d h' h b;omega
  ·omega
theorem month_of (y r:Int) (h1:0≤r) (h2:r<yl y):∃m,1≤m∧m≤12∧am y m≤r∧r<am y m+ln y m:=by
 have key:∀k:Nat,k≤12→am y ((k:Int)+1)≤r∨∃m,1≤m∧m≤12∧am y m≤r∧r<am y m+ln y m:=by
  intro k
  induction k with
  | zero=>intro _;left;rw[show ((0:Nat):Int)+1=1 from rfl,zFl];exact h1
  | succ k ih=>
   intro hk
   rcases ih zo with h | h
   ·by_cases hr:r<am y ((k:Int)+1)+ln y ((k:Int)+1)
    ·right;exact⟨(k:Int)+1,zo,zo,h,hr⟩
    ·left
     have:=zE4 y ((k:Int)+1) zo zo
     rw[show ((k+1:Nat):Int)+1=(k:Int)+1+1 by omega,this];omega
   ·exact Or.inr h
 rcases key 12 zo with h | h
 ·rw[show ((12:Nat):Int)+1=13 from rfl,zPu] at h;omega
 ·exact h
theorem year_of (n:Int) (h1:1≤n) (h2:n≤3652059):∃y,1≤y∧y≤9999∧ah y<n∧n≤ah y+yl y:=by
 have key:∀k:Nat,k≤9999→ah ((k:Int)+1)<n∨∃y,1≤y∧y≤9999∧ah y<n∧n≤ah y+yl y:=by
  intro k
  induction k with
  | zero=>intro _;left;rw[show ((0:Nat):Int)+1=1 from rfl,zPt];omega
  | succ k ih=>
   intro hk
   rcases ih zo with h | h
   ·by_cases hr:n≤ah ((k:Int)+1)+yl ((k:Int)+1)
    ·right;exact⟨(k:Int)+1,zo,zo,h,hr⟩
    ·left
     rw[show ((k+1:Nat):Int)+1=(k:Int)+1+1 by omega,zD6];omega
   ·exact Or.inr h
 rcases key 9999 zo with h | h
 ·rw[show ((9999:Nat):Int)+1=10000 from rfl,zMg] at h;omega
 ·exact h
theorem zBk (n:Int) (h1:1≤n) (h2:n≤3652059):∃y m d,may y m d∧nb y m d=n:=by
 obtain⟨y,a,b,c,e⟩:=year_of n h1 h2
 obtain⟨m,f,g,i,j⟩:=month_of y (n-ah y-1) zo zo
 exact⟨y,m,n-ah y-am y m,⟨a,b,f,g,zo,zo⟩,by unfold nb;omega⟩
theorem year_div (n y:Int) (h1:1≤y) (h3:ah y<n) (h4:n≤ah y+yl y) :
  ∃r b r2 c,r=(n-1)%146097∧b=min (r/36524) 3∧r2=r-b*36524∧c=min (r2%1461/365) 3 ∧
   y=1+(n-1)/146097*400+(b*100+r2/1461*4)+c∧r2%1461-c*365=n-1-ah y:=by
 obtain⟨a,b,c,d,hy,b0,b3,c0,c24,d0,d3⟩:∃a b c d:Int,y=1+400*a+100*b+4*c+d∧0≤b∧b≤3∧0≤c∧c≤24∧0≤d∧d≤3:=
  ⟨(y-1)/400,(y-1)%400/100,(y-1)%100/4,(y-1)%4,zo,zo,zo,zo,zo,zo,zo⟩
 have ha:ah y=146097*a+36524*b+1461*c+365*d:=by unfold ah;omega
 have hl:yl y=365∨(yl y=366∧d=3∧(c≤23∨b=3)):=by
  unfold yl
  by_cases h:lp y=true
  ·rw[if_pos h];rw[zEq] at h;right;omega
  ·rw[if_neg h];left;rfl
 have e1:(n-1)/146097=a:=zo
 have e2:(n-1)%146097=n-1-146097*a:=zo
 have e3:min ((n-1-146097*a)/36524) 3=b:=zo
 have e4:n-1-146097*a-b*36524=1461*c+(365*d+(n-1-ah y)):=zo
 have e5:(1461*c+(365*d+(n-1-ah y)))/1461=c:=zo
 have e6:(1461*c+(365*d+(n-1-ah y)))%1461=365*d+(n-1-ah y):=zo
 have e7:min ((365*d+(n-1-ah y))/365) 3=d:=zo
 refine⟨_,_,_,_,rfl,rfl,rfl,rfl,?_,?_⟩
 ·rw[e1,e2,e3,e4,e5,e6,e7];omega
 ·rw[e2,e3,e4,e6,e7];omega
end Go.Proofs.YtpfgdfpaoldhcaaGreatDoor
