/- Several texts in one: GBig. -/
import Derived.Test.YtpfgdfpaoldhcaaGreatDoorSuAB
import Derived.Deep.Onto
set_option maxHeartbeats 8000000
set_option maxRecDepth 100000
set_option linter.unusedVariables false
set_option linter.unusedSimpArgs false
namespace Go.Proofs.YtpfgdfpaoldhcaaGreatDoor
def bv:List Int→Int
 | []=>0
 | d::r=>d+10000*bv r
def Dig (l:List Int):Prop:=∀d∈l,0≤d∧d≤9999
def p4 (k:Nat):Int:=10000 ^ k
theorem zIn:p4 0=1:=rfl
theorem zDg (k:Nat):p4 (k+1)=10000*p4 k:=by unfold p4;rw[Int.pow_succ,Int.mul_comm]
theorem zE2 (k:Nat):0<p4 k:=Int.pow_pos zd
theorem p4_add (a b:Nat):p4 (a+b)=p4 a*p4 b:=by unfold p4;exact Int.pow_add _ _ _
theorem zS2 {a b:Nat} (h:a≤b):p4 a≤p4 b:=by
  induction b with
  | zero => have:a=0:=zo
            subst this;exact Int.le_refl _
  | succ b ih=>
    by_cases e:a=b+1
    · subst e;exact Int.le_refl _
    · have:=ih zo;have:=zE2 b;rw[zDg];omega
theorem zD9:bv []=0:=rfl
theorem zC8 (d:Int) (r:List Int):bv (d::r)=d+10000*bv r:=rfl
theorem zGd (l r:List Int):bv (l++r)=bv l+p4 l.length*bv r:=by
 induction l with
 | nil=>rw[List.nil_append,zD9,List.length_nil,zIn];omega
 | cons d l ih=>rw[List.cons_append,zC8,zC8,ih,List.length_cons,zDg,Int.mul_assoc,Int.mul_add];omega
theorem zGe (l:List Int) (d:Int):bv (l++[d])=bv l+p4 l.length*d:=by
 rw[zGd,zC8,zD9];simp
theorem zE6:Dig []:=fun d h=>by cases h
theorem zIa {l:List Int} {d:Int} (h:Dig l) (h0:0≤d) (h1:d≤9999):Dig (l++[d]):=by
 intro x hx
 rcases List.mem_append.1 hx with hx | hx
 ·exact h x hx
 ·have:x=d:=by simpa using hx
  subst this;exact⟨h0,h1⟩
theorem zB4 {l:List Int} (h:Dig l) (k:Nat):0≤l.getD k 0∧l.getD k 0≤9999:=by
 by_cases hk:k<l.length
 ·have e:l.getD k 0=l[k]:=by simp[List.getD,List.getElem?_eq_getElem hk]
  rw[e];exact h _ (List.getElem_mem hk)
 ·have e:l.getD k 0=0:=by simp[List.getD,List.getElem?_eq_none (by omega:l.length≤k)]
  rw[e];decide
theorem zD8 {l:List Int} (h:Dig l):0≤bv l∧bv l<p4 l.length:=by
 induction l with
 | nil=>rw[zD9,List.length_nil,zIn];decide
 | cons d l ih=>
  have hd:=h d zs
  have hl:=ih (fun x hx=>h x (by simp[hx]))
  rw[zC8,List.length_cons,zDg]
  omega
def pad (l:List Int) (k:Nat):List Int:=(List.range k).map fun i=>l.getD i 0
theorem zDq (l:List Int) (k:Nat):(pad l k).length=k:=by simp[pad]
theorem pad_succ (l:List Int) (k:Nat):pad l (k+1)=pad l k++[l.getD k 0]:=by simp[pad,List.range_succ]
theorem zAu (l:List Int) (k:Nat):bv (pad l (k+1))=bv (pad l k)+p4 k*l.getD k 0:=by rw[pad_succ,zGe,zDq]
theorem zI9 {l:List Int} (h:Dig l) (k:Nat):Dig (pad l k):=by
 intro x hx
 obtain⟨i,_,rfl⟩:=List.mem_map.1 hx
 exact zB4 h i
theorem zS3 (l:List Int):pad l l.length=l:=by
 apply List.ext_getElem
 ·simp[pad]
 ·intro i h1 h2
  simp[pad,h2]
theorem zDw (l:List Int) (k:Nat) (h:l.length≤k):bv (pad l k)=bv l:=by
 obtain⟨j,rfl⟩:∃j,k=l.length+j:=⟨k-l.length,zo⟩
 clear h
 induction j with
 | zero=>rw[Nat.add_zero,zS3]
 | succ j ih=>
  rw[show l.length+(j+1)=l.length+j+1 from rfl,zAu,ih,List.getD,List.getElem?_eq_none zo]
  simp
theorem bv_split (l:List Int) (k:Nat):∃r,bv l=bv (pad l k)+p4 k*r:=by
 by_cases h:l.length≤k
 ·exact⟨0,by rw[zDw l k h];omega⟩
 ·refine⟨bv (l.drop k),?_⟩
  have e:pad l k=l.take k:=by
   apply List.ext_getElem
   ·simp[pad];omega
   ·intro i h1 h2
    simp at h2
    simp[pad,List.getElem?_eq_getElem (by omega:i<l.length)]
  have:=zGd (l.take k) (l.drop k)
  rw[List.take_append_drop] at this
  rw[this,e]
  have el:(l.take k).length=k:=zx
  rw[el]
end Go.Proofs.YtpfgdfpaoldhcaaGreatDoor
namespace Go.Proofs.YtpfgdfpaoldhcaaGreatDoor
open Go.RowKit
theorem zFa:(Tryz.prog.info? 3).map (fun i=>(i.zero,i.size,i.bytes))=some (some (.int .i64 0),1,8):=zk
def Big (w:World) (v:Value) (ds:List Int):Prop:=w.ownsRow 0 3 1 v ds.length (ds.map (Value.int .i64))
theorem Big.below {w w':World} {v:Value} {ds:List Int} (h:Big w v ds) (hb:Below w w w'):Big w' v ds:=by
 obtain⟨h1,h2⟩:=h
 refine⟨h1,?_⟩
 rcases h2 with h2 | ⟨g,cap,cur,hv,hg,hh,hr⟩
 ·exact .inl h2
 ·refine .inr ⟨g,cap,cur,hv,hg,?_,hr⟩
  rw[hb.block g (by have:=(Array.getElem?_eq_some_iff.1 hh).1;exact this)]
  exact hh
theorem Big.alloc {w:World} {v:Value} {ds:List Int} (h:Big w v ds) (o:Obj):Big (w.alloc o) v ds:=World.ownsRow.alloc h o
theorem Big.form {w:World} {v:Value} {ds:List Int} (h:Big w v ds) :
  (v=.slice none 0 0∧ds=[])∨∃g cap,v=.slice (some ⟨g,0,none⟩) ds.length cap∧g<w.heap.size∧ds.length≤maxLen∧∀j,j<ds.length→w.cell? ⟨g,j,none⟩=some (.int .i64 (ds.getD j 0)):=by
 have h':=h
 obtain⟨h1,h2⟩:=h
 rcases h2 with⟨rfl,h2⟩ | ⟨g,cap,cur,rfl,hg,hh,hc,hm,hr⟩
 ·exact .inl ⟨rfl,List.length_eq_zero_iff.1 h2⟩
 ·refine .inr ⟨g,cap,rfl,(Array.getElem?_eq_some_iff.1 hh).1,zo,fun j hj=>?_⟩
  rw[World.ownsRow.cellAt h' j zo]
  simp[List.getD,List.getElem?_eq_getElem hj]
theorem zqwgq {P:Prop} (h:P:=by
 go_wp2
 go_ret
 exact⟨rfl,(Below.refl _ _).alloc (Nat.le_refl _) _⟩):P:=h
theorem zBr (v:Value) (ds:List Int) (i:Int) (w:World) (h:Big w v ds) (h0:0≤i) (h1:i≤4611686018427387904) :
  Calls Tryz.prog 56 #[.agg #[v],i] w fun e w'=>e=.returned (ds.getD i.toNat 0)∧Below w w w':=by
 obtain⟨k,rfl⟩:=Int.eq_ofNat_of_zero_le h0
 rw[Int.toNat_natCast]
 rcases h.form with⟨rfl,rfl⟩ | ⟨g,cap,rfl,hg,hm,hc⟩
 ·go_enter Tryz.func56,Tryz.ntmps56
  go_wp2
  go_ret
  exact⟨zs,(Below.refl _ _).alloc (Nat.le_refl _) _⟩
 ·unfold maxLen at hm
  by_cases hk:k<ds.length
  ·have hcell:=hc k hk
   go_enter Tryz.func56,Tryz.ntmps56
   go_wp2
   go_ret
   exact⟨by simp[hk],(Below.refl _ _).alloc (Nat.le_refl _) _⟩
  ·have hz:ds.getD k 0=0:=by simp[List.getD,List.getElem?_eq_none (by omega:ds.length≤k)]
   rw[hz]
   go_enter Tryz.func56,Tryz.ntmps56
   exact zqwgq
def zEg (P:List Int→Prop) (w:World) (e:Ending) (w':World):Prop:=∃v ds,e=.returned (.agg #[v])∧w'.ownsRow w.heap.size 3 1 v ds.length (ds.map (Value.int .i64))∧Dig ds∧P ds∧Below w w w'
theorem zCw {w:World} {base:Nat} {e:TypeId} {size:Nat} {v:Value} {n:Nat} {xs:List Value} (h:w.ownsRow base e size v n xs):∃a k c,v=.slice a k c:=by
 rcases h.2 with⟨rfl,_⟩ | ⟨g,cap,cur,rfl,_⟩
 ·exact⟨_,_,_,rfl⟩
 ·exact⟨_,_,_,rfl⟩
theorem zJf {wr w1:World} {base:Nat} {e:TypeId} {size n:Nat} {v:Value} {xs:List Value} {o:Obj} (hsz:base≤wr.heap.size) (hown:wr.ownsRow base e size v n xs) (hg:(wr.alloc o).grownBy w1 v.ownBlock):Below base wr w1:=
 ((Below.refl base wr).alloc hsz o).grown hg zx (fun k hk=>(World.ownsRow.lt hown k hk).1)
def FromRel (N:Int) (B:Nat) (w:World) (n v:Value) (wr:World):Prop:=
 ∃(m:Int) (ds:List Int),n=.int .u64 m∧0≤m∧m<18446744073709551616∧wr.ownsRow (B+1) 3 1 v ds.length (ds.map (Value.int .i64))∧Dig ds∧bv ds+p4 ds.length*m=N ∧
  (0<ds.length→p4 (ds.length-1)≤N)∧wr.cell? ⟨B,0,none⟩=some (.slice none 0 0)∧wr.frozen? ⟨B,0,none⟩=false∧Below B w wr∧B+1≤wr.heap.size
theorem len5 {k:Nat} {N:Int} (h:p4 k≤N) (hN:N<18446744073709551616):k<5:=by
 by_cases hk:k<5
 ·exact hk
 ·have:=zS2 (show 5≤k by omega)
  have e:p4 5=100000000000000000000:=zd
  omega
theorem zR5 {N:Int} {m:Int} {ds:List Int} (hm:0<m) (hN:N<18446744073709551616) (hd:Dig ds) (hv:bv ds+p4 ds.length*m=N) :
  ds.length<5∧Dig (ds++[m%10000])∧bv (ds++[m%10000])+p4 (ds++[m%10000]).length*(m/10000)=N∧p4 ((ds++[m%10000]).length-1)≤N:=by
 have b:=zD8 hd
 have pp:=zE2 ds.length
 have hle:p4 ds.length≤p4 ds.length*m:=by
  have:=Int.mul_le_mul_of_nonneg_left (show 1≤m by omega) (Int.le_of_lt pp)
  omega
 have hN':p4 ds.length≤N:=zo
 refine⟨len5 hN' hN,zIa hd zo zo,?_,?_⟩
 ·rw[zGe,List.length_append,List.length_singleton,zDg]
  have e:m=m%10000+10000*(m/10000):=zo
  have:p4 ds.length*m=p4 ds.length*(m%10000)+10000*p4 ds.length*(m/10000):=by
   conv=>lhs;rw[e]
   rw[Int.mul_add,←Int.mul_assoc,Int.mul_comm (p4 ds.length) 10000]
  omega
 ·rw[List.length_append,List.length_singleton,Nat.add_sub_cancel];exact hN'
theorem zqyv3 {P:Prop} (h:P:=by
 intro j u hj
 match j,hj with
 | 0,hj=>simp at hj;subst hj;simp[Addr.add,World.cell?_alloc_new]):P:=h
theorem fromU (n:Int) (w:World) (h0:0≤n) (h1:n<18446744073709551616) :
  Calls Tryz.prog 58 #[.int .u64 n] w (zEg (fun ds=>bv ds=n∧ds.length≤5∧(bv ds=0→ds=[])) w):=by
 obtain⟨i0,hi,hz0,hz1,hz2⟩:=info_parts zFa
 obtain⟨B,hB⟩:∃B,w.heap.size=B:=⟨_,rfl⟩
 have HB:=zh hB
 go_enter Tryz.func58,Tryz.ntmps58
 go_wp2
 go_loopw [0,3] (fun n' v wr=>FromRel n B w n' v wr) (fun n' _ _=>(intOf n').toNat)
 case atStart=>exact⟨n,[],rfl,h0,h1,World.ownsRow_nil _ _ _ _,zE6,by rw[zD9,List.length_nil,zIn];omega,fun h=>by simp at h,by simp[←HB.out,World.cell?_alloc_new],by simp[←HB.out,go_sem],by rw[←HB.out];exact (Below.refl _ _).alloc (Nat.le_refl _) _,by simp[←HB.out]⟩
 case round=>
  obtain⟨m,ds,rfl,m0,m1,hown,hd,hv,hp,hcB,hfB,hb,hsz⟩:=hrel
  have HV:=zh hv
  have HP:=zh hp
  have HD:=zh hd
  clear hv hp hd
  by_cases hm:0<m
  ·obtain⟨s1,s2,s3,s4⟩:=zR5 hm h1 HD.out HV.out
   have S:=zh (And.intro s2 (And.intro s3 s4))
   clear s2 s3 s4
   go_wp2_with (first
    | (at_builtin;refine wpList_append_own _ rfl _ _ 26 rfl (B+1) 3 i0 (0:Int) 1 8 Tryz.underlying26 hi hz0 hz1 hz2 rfl zd _ _ _ rfl (hown.alloc _) ⟨wr,0,none⟩ 1 1 [(m%10000:Int)] rfl rfl ?c1 ?c2 ?c3 ?c4 ?c5 ?_)
    | go_in)
   case c1=>
    exact zqyv3
   case c2=>intro u hu;simp at hu;subst hu;rfl
   case c3=>unfold maxLen;omega
   case c4=>omega
   case c5=>simp;omega
   ·intro v' w1 hown' hgrow _
    have R:=zJf hsz hown hgrow
    clear hgrow hown
    go_wp2
    go_roundw
    case rel=>
     exact⟨m/10000,ds++[m%10000],rfl,zo,zo,by simpa using hown',S.out.1,S.out.2.1,fun _=>S.out.2.2,(R.cell (p:=⟨B,0,none⟩) zs).trans hcB,(R.frozen (p:=⟨B,0,none⟩) zs).trans hfB,hb.trans (R.mono zo),by have:=R.size;omega⟩
    case measure=>simp[intOf];omega
  ·obtain⟨a3,n3,c3,rfl⟩:=zCw hown
   go_wp2
   refine bodyPost_ret (v:=.agg #[.slice a3 n3 c3]) (by simp[results,Tryz.results58,go_sem,hcB]) rfl ⟨_,ds,rfl,?_,HD.out,⟨?_,?_,?_⟩,?_⟩
   ·exact World.ownsRow.mono (ownsRow_setCell_below hown zs _) zo
   ·have:=HV.out
    rw[show m=0 from by omega,Int.mul_zero,Int.add_zero] at this
    exact this
   ·by_cases hl:0<ds.length
    ·have:=len5 (HP.out hl) h1
     omega
    ·omega
   ·intro hbv
    have hv:=HV.out
    rw[show m=0 from by omega,Int.mul_zero,Int.add_zero,hbv] at hv
    by_cases hl:0<ds.length
    ·have:=HP.out hl
     have:=zE2 (ds.length-1)
     omega
    ·exact List.eq_nil_of_length_eq_zero zo
   ·exact (hb.setCell zs _).mono zo
end Go.Proofs.YtpfgdfpaoldhcaaGreatDoor
namespace Go.Proofs.YtpfgdfpaoldhcaaGreatDoor
open Go.RowKit
theorem Big.slice {w:World} {v:Value} {ds:List Int} (h:Big w v ds):∃a c,v=.slice a ds.length c:=by
 rcases h.form with⟨rfl,rfl⟩ | ⟨g,cap,rfl,_⟩
 ·exact⟨_,_,rfl⟩
 ·exact⟨_,_,rfl⟩
def CmpRel (da db:List Int) (va vb:Value) (B:Nat) (w:World) (i:Value) (wr:World):Prop:=
 ∃k:Nat,k≤100000∧i=.int .i64 ((k:Int)-1)∧bv da-bv db=bv (pad da k)-bv (pad db k)∧Big wr va da∧Big wr vb db∧wr.cell? ⟨B,0,none⟩=some va∧wr.cell? ⟨B+1,0,none⟩=some vb∧Below B w wr∧B+1<wr.heap.size
theorem cmp_top {da db:List Int} {k:Nat} (ha:Dig da) (hb:Dig db) (h:bv da-bv db=bv (pad da (k+1))-bv (pad db (k+1))) :
  (da.getD k 0<db.getD k 0→bv da<bv db)∧(db.getD k 0<da.getD k 0→bv db<bv da)∧(da.getD k 0=db.getD k 0→bv da-bv db=bv (pad da k)-bv (pad db k)):=by
 have b1:=zD8 (zI9 ha k)
 have b2:=zD8 (zI9 hb k)
 rw[zDq] at b1 b2
 rw[zAu,zAu] at h
 have pp:=zE2 k
 refine⟨fun e=>?_,fun e=>?_,fun e=>?_⟩
 ·have:=Int.mul_le_mul_of_nonneg_left (show da.getD k 0+1≤db.getD k 0 by omega) (Int.le_of_lt pp)
  rw[Int.mul_add] at this
  omega
 ·have:=Int.mul_le_mul_of_nonneg_left (show db.getD k 0+1≤da.getD k 0 by omega) (Int.le_of_lt pp)
  rw[Int.mul_add] at this
  omega
 ·rw[e] at h;omega
theorem cmpB (va vb:Value) (da db:List Int) (w:World) (ha:Big w va da) (hb:Big w vb db) (hda:Dig da) (hdb:Dig db) (la:da.length≤100000) (lb:db.length≤100000) :
  Calls Tryz.prog 34 #[.agg #[va],.agg #[vb]] w fun e w'=>e=.returned (cmpI (bv da) (bv db))∧Below w w w':=by
 obtain⟨c,C⟩:∃c,Hid (cmpI (bv da) (bv db)=c):=⟨_,zh rfl⟩
 rw[C.out]
 obtain⟨aa,ac,ea⟩:=ha.slice
 obtain⟨ba,bc,eb⟩:=hb.slice
 obtain⟨B,hB⟩:∃B,w.heap.size=B:=⟨_,rfl⟩
 have HA:=zh hda
 have HD:=zh hdb
 clear hda hdb
 have HG:Hid (Below B w ((w.alloc (.cells #[va] 68)).alloc (.cells #[vb] 68))):=zh (by rw[←hB];exact ((Below.refl _ _).alloc (Nat.le_refl _) _).alloc zs _)
 subst ea eb
 by_cases hl:da.length<db.length
 all_goals
  go_enter Tryz.func34,Tryz.ntmps34
  go_wp2
  go_loopw [6] (fun i wr=>CmpRel da db (.slice aa da.length ac) (.slice ba db.length bc) B w i wr) (fun i _=>(intOf i+1).toNat)
  case atStart=>
   first
    | exact⟨db.length,lb,rfl,by rw[zDw da _ zo,zDw db _ zo],(ha.alloc _).alloc _,(hb.alloc _).alloc _,by simp[←hB,go_sem],by simp[←hB,go_sem],HG.out,by simp[hB]⟩
    | exact⟨da.length,la,rfl,by rw[zDw da _ zo,zDw db _ zo],(ha.alloc _).alloc _,(hb.alloc _).alloc _,by simp[←hB,go_sem],by simp[←hB,go_sem],HG.out,by simp[hB]⟩
  case round=>
   obtain⟨k,hk,rfl,hv,Ha,Hb,ca,cb,hbw,hsz⟩:=hrel
   have HV:=zh hv
   clear hv
   by_cases hk0:k=0
   ·subst hk0
    go_wp2
    go_ret
    refine⟨?_,hbw.mono zo⟩
    have e:=C.out
    have v:=HV.out
    rw[zQh (by simp[pad,zD9] at v;omega)] at e
    rw[←e]
    rfl
   ·obtain⟨j,rfl⟩:∃j,k=j+1:=⟨k-1,zo⟩
    obtain⟨T1,T2,T3⟩:=cmp_top HA.out HD.out HV.out
    obtain⟨x,EX⟩:∃x,Hid (da.getD j 0=x):=⟨_,zh rfl⟩
    obtain⟨y,EY⟩:∃y,Hid (db.getD j 0=y):=⟨_,zh rfl⟩
    rw[EX.out,EY.out] at T1 T2 T3
    have HT:=zh (And.intro T1 (And.intro T2 T3))
    clear T1 T2 T3
    go_wp2_with fail
    with_reducible refine (zBr _ da (j:Int) _ Ha zo zo).mono ?_
    rw[Int.toNat_natCast,EX.out]
    rintro e w1 ⟨rfl,hb1⟩
    replace ca:=keep hb1 zo ca
    replace cb:=keep hb1 zo cb
    replace Ha:=Ha.below hb1
    replace Hb:=Hb.below hb1
    replace hbw:=hbw.trans (hb1.mono zo)
    replace hsz:B+1<w1.heap.size:=by have:=hb1.size;omega
    clear hb1
    go_wp2_with fail
    with_reducible refine (zBr _ db (j:Int) _ Hb zo zo).mono ?_
    rw[Int.toNat_natCast,EY.out]
    rintro e w2 ⟨rfl,hb1⟩
    replace ca:=keep hb1 zo ca
    replace cb:=keep hb1 zo cb
    replace Ha:=Ha.below hb1
    replace Hb:=Hb.below hb1
    replace hbw:=hbw.trans (hb1.mono zo)
    replace hsz:B+1<w2.heap.size:=by have:=hb1.size;omega
    clear hb1
    by_cases h1:x<y
    ·go_wp2
     go_ret
     refine⟨?_,hbw.mono zo⟩
     have e:=C.out
     rw[zQi (HT.out.1 h1)] at e
     rw[←e]
     rfl
    ·by_cases h2:y<x
     ·go_wp2
      go_ret
      refine⟨?_,hbw.mono zo⟩
      have e:=C.out
      rw[zF5 (HT.out.2.1 h2)] at e
      rw[←e]
      rfl
     ·go_wp2
      go_roundw
      case rel=>exact⟨j,zo,congrArg (Value.int .i64) zo,HT.out.2.2 zo,Ha,Hb,ca,cb,hbw,hsz⟩
      case measure=>simp[intOf]
end Go.Proofs.YtpfgdfpaoldhcaaGreatDoor
namespace Go.Proofs.YtpfgdfpaoldhcaaGreatDoor
open Go.RowKit
theorem zQ6 {ds:List Int} {n:Nat} (hn:n≤ds.length) (h:∀j,n≤j→j<ds.length→ds.getD j 0=0):bv (ds.take n)=bv ds:=by
 have e:ds=ds.take n++ds.drop n:=(List.take_append_drop n ds).symm
 have z:∀l:List Int,(∀d∈l,d=0)→bv l=0:=by
  intro l hl
  induction l with
  | nil=>rfl
  | cons d l ih=>
   rw[zC8,hl d zs,ih (fun x hx=>hl x (by simp[hx]))]
   rfl
 have hz:bv (ds.drop n)=0:=by
  apply z
  intro d hd
  obtain⟨i,hi,rfl⟩:=List.getElem_of_mem hd
  simp at hi
  have:=h (n+i) zo zo
  simpa [List.getD,List.getElem?_eq_getElem (show n+i<ds.length by omega)] using this
 have:=zGd (ds.take n) (ds.drop n)
 rw[List.take_append_drop] at this
 rw[this,hz]
 omega
theorem zKq {ds:List Int} {m:Nat} (hd:Dig ds) (hm:m<ds.length) (hx:ds.getD m 0≠0):bv (ds.take (m+1))≠0:=by
 have e:ds.getD m 0=ds[m]:=by simp[List.getD,List.getElem?_eq_getElem hm]
 rw[List.take_succ_eq_append_getElem hm,zGe]
 have a:=(zD8 (fun d h=>hd d (List.mem_of_mem_take h):Dig (ds.take m))).1
 have b:=(hd ds[m] (List.getElem_mem hm)).1
 have c:0<p4 (ds.take m).length*ds[m]:=Int.mul_pos (zE2 _) (by rw[e] at hx;omega)
 omega
theorem dig_take {ds:List Int} (h:Dig ds) (n:Nat):Dig (ds.take n):=fun d hd=>h d (List.mem_of_mem_take hd)
theorem zIm (w:World) (o:Obj):((w.alloc o).alloc (.cells #[] 3)).ownsRow (w+1) 3 1 (.slice (some ⟨w+1,0,none⟩) 0 0) 0 []:=by
 refine⟨zs,.inr ⟨w+1,0,#[],rfl,Nat.le_refl _,?_,Nat.le_refl _,Nat.zero_le _,zs,zs⟩⟩
 show (((w.heap.push o).push (.cells #[] 3)))[w.heap.size+1]?=_
 rw[Array.getElem?_push,if_pos zs]
theorem trim_nil (w:World) :
  Calls Tryz.prog 57 #[.slice none 0 0] w (zEg (fun es=>es=[]) w):=by
 go_enter Tryz.func57,Tryz.ntmps57
 go_wp2
 refine wp_loop_rounds 1 ?_
 rw[rounds_succ]
 go_wp2
 exact bodyPost_ret (v:=.agg #[.slice (some ⟨w+1,0,none⟩) 0 0]) (by simp[results,Tryz.results57,go_sem]) rfl ⟨_,[],rfl,World.ownsRow.mono (zIm _ _) (Nat.le_succ _),zE6,rfl,((Below.refl _ _).alloc (Nat.le_refl _) _).alloc zs _⟩
theorem zUe (g cap:Nat) (ds:List Int) (w:World) (h:Big w (.slice (some ⟨g,0,none⟩) ds.length cap) ds) (hd:Dig ds) (hl:ds.length≤100000) :
  Calls Tryz.prog 57 #[.slice (some ⟨g,0,none⟩) ds.length cap] w (zEg (fun es=>bv es=bv ds∧es.length≤ds.length∧(bv es=0→es=[])) w):=by
 obtain⟨i0,hi,hz0,hz1,hz2⟩:=info_parts zFa
 have hcap:ds.length≤cap:=by
  rcases h.2 with⟨e,_⟩ | ⟨g',cap',cur,e,_,_,hc,_⟩
  ·cases e
  ·cases e;exact hc
 obtain⟨hg,hc⟩:g<w.heap.size∧∀j,j<ds.length→w.cell? ⟨g,j,none⟩=some (.int .i64 (ds.getD j 0)):=by
  rcases h.form with⟨e,_⟩ | ⟨g',cap',e,hg,_,hc⟩
  ·cases e
  ·cases e;exact⟨hg,hc⟩
 have HC:=zh hc
 have HD:=zh hd
 clear hc hd
 go_enter Tryz.func57,Tryz.ntmps57
 go_wp2
 go_loop [3] (fun s=>∃n:Nat,n≤ds.length∧s=.int .i64 n∧∀j,n≤j→j<ds.length→ds.getD j 0=0) (fun s=>(intOf s).toNat)
 case atStart=>exact⟨ds.length,Nat.le_refl _,rfl,fun j h1 h2=>absurd h2 zo⟩
 case round=>
  obtain⟨n,hn,rfl,hz⟩:=hrel
  have HZ:=zh hz
  clear hz
  by_cases hn0:n=0
  ·subst hn0
   go_wp2
   exact bodyPost_ret (v:=.agg #[.slice (some ⟨w+1,0,none⟩) 0 0]) (by simp[results,Tryz.results57,go_sem]) rfl ⟨_,[],rfl,World.ownsRow.mono (zIm _ _) (Nat.le_succ _),zE6,⟨by rw[←zQ6 (Nat.zero_le _) (HZ.out)];rfl,Nat.zero_le _,fun _=>rfl⟩,((Below.refl _ _).alloc (Nat.le_refl _) _).alloc zs _⟩
  ·obtain⟨m,rfl⟩:∃m,n=m+1:=⟨n-1,zo⟩
   have hcm:=HC.out m zo
   obtain⟨x,EX⟩:∃x,Hid (ds.getD m 0=x):=⟨_,zh rfl⟩
   rw[EX.out] at hcm
   by_cases hx:x=0
   ·have hxb:(x==0)=true:=beq_iff_eq.2 hx
    have HX:=zh hx
    clear hx
    go_wp2
    go_round
    case rel=>
     refine⟨m,zo,rfl,fun j h1 h2=>?_⟩
     by_cases hj:j=m
     ·subst hj;rw[EX.out,HX.out]
     ·exact HZ.out j zo h2
    case measure=>simp[intOf]
   ·have hxb:(x==0)=false:=beq_eq_false_iff_ne.2 hx
    have hT:(ds.take (m+1)).length=m+1:=zx
    have HT:=zh hT
    have NZ:=zh (zKq (m:=m) HD.out zo (by rw[EX.out];exact hx))
    clear hT hx
    go_wp2_with (at_builtin;refine wpList_append_own _ rfl _ _ 26 rfl (w+1) 3 i0 (0:Int) 1 8 Tryz.underlying26 hi hz0 hz1 hz2 rfl zd _ 0 [] rfl (zIm w _) ⟨g,0,none⟩ (m+1) cap ((ds.take (m+1)).map (Value.int .i64)) rfl ?c0 ?c1 ?c2 ?c3 ?c4 ?c5 ?_)
    case c1=>
     intro j u hj
     by_cases hjm:j<m+1
     ·have hjl:j<ds.length:=zo
      have:=HC.out j hjl
      rw[List.getElem?_take,if_pos hjm,List.getElem?_map,List.getElem?_eq_getElem hjl] at hj
      simp at hj
      subst hj
      rw[this]
      simp[List.getD,List.getElem?_eq_getElem hjl]
     ·rw[List.getElem?_take,if_neg hjm] at hj
      simp at hj
    case c2=>
     intro u hu
     obtain⟨d,_,rfl⟩:=List.mem_map.1 (List.mem_of_mem_take hu)
     rfl
    case c3=>unfold maxLen;omega
    case c4=>omega
    ·intro v' w1 hown' hgrow _
     have R:Below (w+1) ((w.alloc (.cells #[.slice none 0 0] 68)).alloc (.cells #[] 3)) w1:=(Below.refl _ _).grown hgrow zs (fun k hk=>by simp[Value.ownBlock] at hk;omega)
     have cB:w1.cell? ⟨w,0,none⟩=some (.slice none 0 0):=(R.cell (p:=⟨w,0,none⟩) zs).trans (by simp[go_sem])
     have fB:w1.frozen? ⟨w,0,none⟩=false:=(R.frozen (p:=⟨w,0,none⟩) zs).trans (by simp[go_sem])
     have hB:Below w w w1:=(((Below.refl _ _).alloc (Nat.le_refl _) _).alloc zs _).trans (R.mono zo)
     obtain⟨a3,n3,c3,rfl⟩:=zCw hown'
     clear hgrow R
     go_wp2
     refine bodyPost_ret (v:=.agg #[.slice a3 n3 c3]) (by simp[results,Tryz.results57,go_sem,cB]) rfl ⟨_,ds.take (m+1),rfl,?_,dig_take HD.out _,⟨zQ6 zo HZ.out,by rw[HT.out];omega,fun h=>absurd h NZ.out⟩,hB.setCell zs _⟩
     rw[HT.out]
     have:=World.ownsRow.mono (ownsRow_setCell_below hown' (a:=⟨w,0,none⟩) zs (.slice a3 n3 c3)) (Nat.le_succ _)
     simpa using this
end Go.Proofs.YtpfgdfpaoldhcaaGreatDoor
namespace Go.Proofs.YtpfgdfpaoldhcaaGreatDoor
open Go.RowKit
structure Going (w:World) (B:Nat) (va vb:Value) (da db:List Int) (v:Value) (ds:List Int) (W:World):Prop where
 a:Big W va da
 b:Big W vb db
 own:W.ownsRow (B+3) 3 1 v ds.length (ds.map (Value.int .i64))
 ra:W.cell? ⟨B,0,none⟩=some va
 rb:W.cell? ⟨B+1,0,none⟩=some vb
 rc:W.cell? ⟨B+2,0,none⟩=some (.slice none 0 0)
 rf:W.frozen? ⟨B+2,0,none⟩=false
 old:Below B w W
 size:B+3≤W.heap.size
theorem zqewq {P:Prop} (h:P:=by
 obtain⟨h1,h2⟩:=h
 refine⟨h1,?_⟩
 rcases h2 with h2 | ⟨g,cap,cur,hv,hg,hh,hr⟩
 ·exact .inl h2
 ·exact .inr ⟨g,cap,cur,hv,hg,by rw[hb.block g ((Array.getElem?_eq_some_iff.1 hh).1)];exact hh,hr⟩):P:=h
theorem zEt {W W':World} {base:Nat} {e:TypeId} {size n:Nat} {v:Value} {xs:List Value} (h:W.ownsRow base e size v n xs) (hb:Below W W W'):W'.ownsRow base e size v n xs:=by
 exact zqewq
theorem Going.below {w:World} {B:Nat} {va vb v:Value} {da db ds:List Int} {W W':World} (h:Going w B va vb da db v ds W) (hb:Below W W W'):Going w B va vb da db v ds W':=
 ⟨h.a.below hb,h.b.below hb,zEt h.own hb,keep hb (by have:=h.size;omega) h.ra,keep hb (by have:=h.size;omega) h.rb,keep hb (by have:=h.size;omega) h.rc,zA6 hb (by have:=h.size;omega) h.rf,h.old.trans (hb.mono (by have:=h.size;omega)),by have:=h.size;have:=hb.size;omega⟩
theorem Going.drew {w:World} {B:Nat} {va vb v:Value} {da db ds:List Int} {W:World} (h:Going w B va vb da db v ds W):Going w B va vb da db v ds W.drew:=
 ⟨h.a,h.b,h.own,h.ra,h.rb,h.rc,h.rf,h.old.drew,h.size⟩
theorem zqz87 {P:Prop} (h:P:=by
 have:=fu g (by rw[hv];rfl)
 exact .inr ⟨g,cap,cur,hv,hgg,by rw[R.block g zo];exact hh,hr⟩):P:=h
theorem Going.more {w:World} {B:Nat} {va vb v v':Value} {da db ds:List Int} {W W':World} {x:Int} {o:Obj} (h:Going w B va vb da db v ds W) (fa:∀k,va.ownBlock=some k→k<B) (fb:∀k,vb.ownBlock=some k→k<B)
  (hown:W'.ownsRow (B+3) 3 1 v' (ds.length+1) (ds.map (Value.int .i64)++[.int .i64 x])) (hg:(W.alloc o).grownBy W' v.ownBlock):Going w B va vb da db v' (ds++[x]) W':=by
 have R:Below (B+3) W W':=zJf h.size h.own hg
 have far:∀{u:Value} {es:List Int},Big W u es→(∀k,u.ownBlock=some k→k<B)→Big W' u es:=by
  intro u es hu fu
  obtain⟨h1,h2⟩:=hu
  refine⟨h1,?_⟩
  rcases h2 with h2 | ⟨g,cap,cur,hv,hgg,hh,hr⟩
  ·exact .inl h2
  ·exact zqz87
 refine⟨far h.a fa,far h.b fb,by simpa using hown,(R.cell (p:=⟨B,0,none⟩) zs).trans h.ra,(R.cell (p:=⟨B+1,0,none⟩) zs).trans h.rb,(R.cell (p:=⟨B+2,0,none⟩) zs).trans h.rc,
  (R.frozen (p:=⟨B+2,0,none⟩) zs).trans h.rf,h.old.trans (R.mono zo),by have:=R.size;have:=h.size;omega⟩
theorem Big.old {w:World} {v:Value} {ds:List Int} (h:Big w v ds):∀k,v.ownBlock=some k→k<w.heap.size:=fun k hk=>(World.ownsRow.lt h k hk).2
theorem zC5 {w:World} {B:Nat} {va vb v:Value} {da db ds:List Int} {W:World} (h:W.cell? ⟨B,0,none⟩=some va∧W.cell? ⟨B+1,0,none⟩=some vb∧Going w B va vb da db v ds W):Going w B va vb da db v ds W:=h.2.2
theorem zF9 {w:World} {B:Nat} {va vb v:Value} {da db ds:List Int} {W:World} (h:Going w B va vb da db v ds W):W.cell? ⟨B,0,none⟩=some va∧W.cell? ⟨B+1,0,none⟩=some vb∧Going w B va vb da db v ds W:=⟨h.ra,h.rb,h⟩
theorem zE7 {w:World} {va vb:Value} {da db:List Int} {t:TypeId} (ha:Big w va da) (hb:Big w vb db) :
  Going w w.heap.size va vb da db (.slice none 0 0) [] (((w.alloc (.cells #[va] t)).alloc (.cells #[vb] t)).alloc (.cells #[.slice none 0 0] t)):=
 ⟨((ha.alloc _).alloc _).alloc _,((hb.alloc _).alloc _).alloc _,World.ownsRow_nil _ _ _ _,by simp[go_sem],by simp[go_sem],by simp[go_sem],by simp[go_sem],(((Below.refl _ _).alloc (Nat.le_refl _) _).alloc zs _).alloc zw _,zs⟩
def PlusRel (w:World) (B:Nat) (va vb:Value) (da db:List Int) (v c i:Value) (wr:World):Prop:=
 ∃(k:Nat) (cc:Int) (ds:List Int),i=.int .i64 k∧c=.int .i64 cc∧ds.length=k∧0≤cc∧cc≤1∧Dig ds∧bv ds+p4 k*cc=bv (pad da k)+bv (pad db k)∧k≤max da.length db.length+1∧(max da.length db.length<k→cc=0)∧Going w B va vb da db v ds wr
theorem zS6 {da db ds:List Int} {k:Nat} {cc:Int} (ha:Dig da) (hb:Dig db) (hl:ds.length=k) (hd:Dig ds) (hv:bv ds+p4 k*cc=bv (pad da k)+bv (pad db k)) :
  Dig (ds++[(da.getD k 0+db.getD k 0+cc)%10000])∧bv (ds++[(da.getD k 0+db.getD k 0+cc)%10000])+p4 (k+1)*((da.getD k 0+db.getD k 0+cc)/10000)=bv (pad da (k+1))+bv (pad db (k+1)):=by
 have x:=zB4 ha k
 have y:=zB4 hb k
 refine⟨zIa hd zo zo,?_⟩
 rw[zGe,hl,zAu,zAu,zDg]
 generalize da.getD k 0=X at *
 generalize db.getD k 0=Y at *
 have e:X+Y+cc=(X+Y+cc)%10000+10000*((X+Y+cc)/10000):=zo
 have:p4 k*(X+Y+cc)=p4 k*((X+Y+cc)%10000)+10000*p4 k*((X+Y+cc)/10000):=by
  conv=>lhs;rw[e]
  rw[Int.mul_add,←Int.mul_assoc,Int.mul_comm (p4 k) 10000]
 rw[Int.mul_add,Int.mul_add] at this
 omega
theorem plus_nil (aa:Option Addr) (ac:Nat) (ba:Option Addr) (bc:Nat) (w:World) :
  Calls Tryz.prog 43 #[.agg #[.slice aa 0 ac],.agg #[.slice ba 0 bc]] w (zEg (fun es=>es=[]) w):=by
 go_enter Tryz.func43,Tryz.ntmps43
 go_wp2
 refine wp_loop_rounds 1 ?_
 rw[rounds_succ]
 go_wp2
 exact bodyPost_ret (v:=.agg #[.slice none 0 0]) (by simp[results,Tryz.results43,go_sem]) rfl ⟨_,[],rfl,World.ownsRow_nil _ _ _ _,zE6,rfl,(((Below.refl _ _).alloc (Nat.le_refl _) _).alloc zs _).alloc zw _⟩
theorem zqqgf {P:Prop} (h:P:=by
 intro v' w1 hown' hgrow _
 have G3:=Going.more G2 FA.out FB.out hown' hgrow
 have H3:=zh G3
 clear hown' hgrow G3 G2
 go_wp2
 go_roundw
 case rel=>
  exact⟨k+1,(x+y+cc)/10000,ds++[(x+y+cc)%10000],by go_num,rfl,by simp[HL.out],zo,zo,ST.out.1,ST.out.2,zo,CZ.out,H3.out⟩
 case measure=>simp[intOf];omega):P:=h
theorem plusB (va vb:Value) (da db:List Int) (w:World) (ha:Big w va da) (hb:Big w vb db) (hda:Dig da) (hdb:Dig db) (la:da.length≤90000) (lb:db.length≤90000) :
  Calls Tryz.prog 43 #[.agg #[va],.agg #[vb]] w (zEg (fun es=>bv es=bv da+bv db∧es.length≤max da.length db.length+1) w):=by
 obtain⟨i0,hi,hz0,hz1,hz2⟩:=info_parts zFa
 have G0:=zh (zE7 (t:=68) ha hb)
 have FA:=zh ha.old
 have FB:=zh hb.old
 obtain⟨aa,ac,ea⟩:=ha.slice
 obtain⟨ba,bc,eb⟩:=hb.slice
 have HA:=zh hda
 have HD:=zh hdb
 clear hda hdb ha hb
 subst ea eb
 obtain⟨B,hB⟩:∃B,w.heap.size=B:=⟨_,rfl⟩
 rw[hB] at G0 FA FB
 go_enter Tryz.func43,Tryz.ntmps43
 go_wp2
 go_loopw [5,6,7] (fun v c i wr=>PlusRel w B (.slice aa da.length ac) (.slice ba db.length bc) da db v c i wr) (fun _ _ i _=>(max da.length db.length+2-(intOf i).toNat))
 case atStart=>exact⟨0,0,[],rfl,rfl,rfl,zd,zd,zE6,rfl,zo,fun h=>by omega,G0.out⟩
 case round=>
  obtain⟨k,cc,ds,rfl,rfl,hl,c0,c1,hd,hv,hk,hc,G⟩:=hrel
  have HV:=zh hv
  have HC:=zh hc
  have HL:=zh hl
  have HDs:=zh hd
  have ra:=G.ra
  have rb:=G.rb
  have GG:=zh G
  clear hv hc hl hd G
  have hk2:k≤90001:=zo
  by_cases hgo:k<da.length∨k<db.length∨0<cc
  ·have xb:=zB4 HA.out k
   have yb:=zB4 HD.out k
   obtain⟨x,EX⟩:∃x,Hid (da.getD k 0=x):=⟨_,zh rfl⟩
   obtain⟨y,EY⟩:∃y,Hid (db.getD k 0=y):=⟨_,zh rfl⟩
   rw[EX.out] at xb
   rw[EY.out] at yb
   obtain⟨x0,x1⟩:=xb
   obtain⟨y0,y1⟩:=yb
   have st:=zS6 HA.out HD.out HL.out HDs.out HV.out
   rw[EX.out,EY.out] at st
   have ST:=zh st
   have CZ:Hid (max da.length db.length<k+1→(x+y+cc)/10000=0):=zh (fun hm=>by
    have hx:da.getD k 0=0:=by simp[List.getD,List.getElem?_eq_none (by omega:da.length≤k)]
    have hy:db.getD k 0=0:=by simp[List.getD,List.getElem?_eq_none (by omega:db.length≤k)]
    rw[EX.out] at hx
    rw[EY.out] at hy
    omega)
   have KM:k≤max da.length db.length:=by
    by_cases e:max da.length db.length<k
    ·have:=HC.out e;omega
    ·omega
   have HS:=zh (zF9 GG.out.drew)
   clear st
   have e1:IntKind.i64.wrap (x+y)=x+y:=IntWalk.i64_in _ zo
   have e2:IntKind.i64.wrap (x+y+cc)=x+y+cc:=IntWalk.i64_in _ zo
   have hgo':k<da.length∨(¬k<da.length∧k<db.length)∨(¬k<da.length∧¬k<db.length∧0<cc):=zo
   clear hgo
   rcases hgo' with h1 | ⟨h1,h2⟩ | ⟨h1,h2,h3⟩
   ·go_wp2_with fail
    go_region_held3 (fun w'=>w'.cell? ⟨B,0,none⟩=some (.slice aa da.length ac)∧w'.cell? ⟨B+1,0,none⟩=some (.slice ba db.length bc)∧Going w B (.slice aa da.length ac) (.slice ba db.length bc) da db u5 ds w') (first | exact HS.out | (refine zF9 (Going.below (zC5 ?_) hb);assumption))
     (first
      | (go_at_call 56;(with_reducible refine (zBr (.slice aa da.length ac) da (k:Int) _ (Going.a (zC5 za)) zo zo).mono ?_);rw[Int.toNat_natCast,EX.out];rintro e w' ⟨rfl,hb⟩)
      | (go_at_call 56;(with_reducible refine (zBr (.slice ba db.length bc) db (k:Int) _ (Going.b (zC5 za)) zo zo).mono ?_);rw[Int.toNat_natCast,EY.out];rintro e w' ⟨rfl,hb⟩))
    have G2:Going w B (.slice aa da.length ac) (.slice ba db.length bc) da db u5 ds w':=zC5 za
    have hsz:=G2.size
    have HL2:ds.length≤90001:=by have:=HL.out;omega
    go_wp2_with (at_builtin;refine wpList_append_own _ rfl _ _ 26 rfl (B+3) 3 i0 (0:Int) 1 8 Tryz.underlying26 hi hz0 hz1 hz2 rfl zd _ _ _ rfl (G2.own.alloc _) ⟨w',0,none⟩ 1 1 [.int .i64 ((x+y+cc)%10000)] rfl rfl ?c1a ?c2a ?c3a ?c4a ?c5a ?_)
    case c1a=>
     exact zqyv3
    case c2a=>intro u hu;simp at hu;subst hu;rfl
    case c3a=>unfold maxLen;omega
    case c4a=>omega
    case c5a=>simp;omega
    ·exact zqqgf
   ·go_wp2_with fail
    go_region_held3 (fun w'=>w'.cell? ⟨B,0,none⟩=some (.slice aa da.length ac)∧w'.cell? ⟨B+1,0,none⟩=some (.slice ba db.length bc)∧Going w B (.slice aa da.length ac) (.slice ba db.length bc) da db u5 ds w') (first | exact HS.out | (refine zF9 (Going.below (zC5 ?_) hb);assumption))
     (first
      | (go_at_call 56;(with_reducible refine (zBr (.slice aa da.length ac) da (k:Int) _ (Going.a (zC5 za)) zo zo).mono ?_);rw[Int.toNat_natCast,EX.out];rintro e w' ⟨rfl,hb⟩)
      | (go_at_call 56;(with_reducible refine (zBr (.slice ba db.length bc) db (k:Int) _ (Going.b (zC5 za)) zo zo).mono ?_);rw[Int.toNat_natCast,EY.out];rintro e w' ⟨rfl,hb⟩))
    have G2:Going w B (.slice aa da.length ac) (.slice ba db.length bc) da db u5 ds w':=zC5 za
    have hsz:=G2.size
    have HL2:ds.length≤90001:=by have:=HL.out;omega
    go_wp2_with (at_builtin;refine wpList_append_own _ rfl _ _ 26 rfl (B+3) 3 i0 (0:Int) 1 8 Tryz.underlying26 hi hz0 hz1 hz2 rfl zd _ _ _ rfl (G2.own.alloc _) ⟨w',0,none⟩ 1 1 [.int .i64 ((x+y+cc)%10000)] rfl rfl ?c1b ?c2b ?c3b ?c4b ?c5b ?_)
    case c1b=>
     exact zqyv3
    case c2b=>intro u hu;simp at hu;subst hu;rfl
    case c3b=>unfold maxLen;omega
    case c4b=>omega
    case c5b=>simp;omega
    ·exact zqqgf
   ·go_wp2_with fail
    go_region_held3 (fun w'=>w'.cell? ⟨B,0,none⟩=some (.slice aa da.length ac)∧w'.cell? ⟨B+1,0,none⟩=some (.slice ba db.length bc)∧Going w B (.slice aa da.length ac) (.slice ba db.length bc) da db u5 ds w') (first | exact HS.out | (refine zF9 (Going.below (zC5 ?_) hb);assumption))
     (first
      | (go_at_call 56;(with_reducible refine (zBr (.slice aa da.length ac) da (k:Int) _ (Going.a (zC5 za)) zo zo).mono ?_);rw[Int.toNat_natCast,EX.out];rintro e w' ⟨rfl,hb⟩)
      | (go_at_call 56;(with_reducible refine (zBr (.slice ba db.length bc) db (k:Int) _ (Going.b (zC5 za)) zo zo).mono ?_);rw[Int.toNat_natCast,EY.out];rintro e w' ⟨rfl,hb⟩))
    have G2:Going w B (.slice aa da.length ac) (.slice ba db.length bc) da db u5 ds w':=zC5 za
    have hsz:=G2.size
    have HL2:ds.length≤90001:=by have:=HL.out;omega
    go_wp2_with (at_builtin;refine wpList_append_own _ rfl _ _ 26 rfl (B+3) 3 i0 (0:Int) 1 8 Tryz.underlying26 hi hz0 hz1 hz2 rfl zd _ _ _ rfl (G2.own.alloc _) ⟨w',0,none⟩ 1 1 [.int .i64 ((x+y+cc)%10000)] rfl rfl ?c1c ?c2c ?c3c ?c4c ?c5c ?_)
    case c1c=>
     exact zqyv3
    case c2c=>intro u hu;simp at hu;subst hu;rfl
    case c3c=>unfold maxLen;omega
    case c4c=>omega
    case c5c=>simp;omega
    ·exact zqqgf
  ·have hc0:cc=0:=zo
   have n1:¬k<da.length:=zo
   have n2:¬k<db.length:=zo
   have n3:¬0<cc:=zo
   have HC0:=zh hc0
   clear hc0 hgo
   obtain⟨a3,m3,c3,rfl⟩:=zCw GG.out.own
   have rc:=GG.out.rc
   have rf:=GG.out.rf
   go_wp2
   refine bodyPost_ret (v:=.agg #[.slice a3 m3 c3]) (by simp[results,Tryz.results43,go_sem,rc]) rfl ⟨_,ds,rfl,?_,HDs.out,⟨?_,?_⟩,?_⟩
   ·exact World.ownsRow.mono (ownsRow_setCell_below GG.out.own zs _) zo
   ·have:=HV.out
    rw[HC0.out,Int.mul_zero,Int.add_zero,zDw da k zo,zDw db k zo] at this
    exact this
   ·rw[HL.out];exact hk
   ·rw[hB];exact GG.out.old.setCell zx _
end Go.Proofs.YtpfgdfpaoldhcaaGreatDoor
namespace Go.Proofs.YtpfgdfpaoldhcaaGreatDoor
open Go.RowKit
theorem zG4 (v:Value) (ds:List Int) (w:World) (h:Big w v ds) (hd:Dig ds) (hl:ds.length≤100000) :
  Calls Tryz.prog 57 #[v] w (zEg (fun es=>bv es=bv ds∧es.length≤ds.length∧(bv es=0→es=[])) w):=by
 rcases h.form with⟨rfl,rfl⟩ | ⟨g,cap,rfl,_⟩
 ·refine (trim_nil w).mono ?_
  rintro e w' ⟨v,es,he,hb,hd,rfl,hw⟩
  exact⟨v,[],he,hb,hd,⟨rfl,Nat.le_refl _,fun _=>rfl⟩,hw⟩
 ·exact zUe g cap ds w h hd hl
def LessRel (w:World) (B:Nat) (va vb:Value) (da db:List Int) (v c i:Value) (wr:World):Prop:=
 ∃(k:Nat) (cc:Int) (ds:List Int),i=.int .i64 k∧c=.int .i64 cc∧ds.length=k∧0≤cc∧cc≤1∧Dig ds∧bv (pad da k)-bv (pad db k)=bv ds-p4 k*cc∧k≤da.length∧Going w B va vb da db v ds wr
theorem zJk {da db ds:List Int} {k:Nat} {cc x y s b:Int} (hx:da.getD k 0=x) (hy:db.getD k 0=y) (hs:x-y-cc=s-10000*b) (s0:0≤s) (s1:s≤9999) (hl:ds.length=k) (hd:Dig ds) (hv:bv (pad da k)-bv (pad db k)=bv ds-p4 k*cc) :
  Dig (ds++[s])∧bv (pad da (k+1))-bv (pad db (k+1))=bv (ds++[s])-p4 (k+1)*b:=by
 refine⟨zIa hd s0 s1,?_⟩
 rw[zGe,hl,zAu,zAu,zDg,hx,hy]
 have:p4 k*(x-y-cc)=p4 k*s-10000*p4 k*b:=by
  rw[hs,Int.mul_sub,←Int.mul_assoc,Int.mul_comm (p4 k) 10000]
 rw[Int.mul_sub,Int.mul_sub] at this
 omega
theorem less_end {da db ds:List Int} {cc:Int} (hda:Dig da) (hdb:Dig db) (hd:Dig ds) (hl:ds.length=da.length) (c0:0≤cc) (hle:bv db≤bv da) (hv:bv (pad da da.length)-bv (pad db da.length)=bv ds-p4 da.length*cc):bv ds=bv da-bv db:=by
 rw[zDw da _ (Nat.le_refl _)] at hv
 have ba:=zD8 hda
 have bd:=zD8 hd
 rw[hl] at bd
 obtain⟨r,hr⟩:=bv_split db da.length
 have bp:=zD8 (zI9 hdb da.length)
 rw[zDq] at bp
 have bb:=zD8 hdb
 have pp:=zE2 da.length
 have r0:r=0:=by
  by_cases h1:1≤r
  ·have:=Int.mul_le_mul_of_nonneg_left h1 (Int.le_of_lt pp);omega
  ·by_cases h2:r≤-1
   ·have:=Int.mul_le_mul_of_nonneg_left h2 (Int.le_of_lt pp);rw[Int.mul_neg] at this;omega
   ·omega
 rw[r0,Int.mul_zero,Int.add_zero] at hr
 have z:cc=0:=by
  by_cases h1:1≤cc
  ·have:=Int.mul_le_mul_of_nonneg_left h1 (Int.le_of_lt pp);omega
  ·omega
 rw[z,Int.mul_zero] at hv
 omega
theorem lessB (va vb:Value) (da db:List Int) (w:World) (ha:Big w va da) (hb:Big w vb db) (hda:Dig da) (hdb:Dig db) (la:da.length≤90000) (hle:bv db≤bv da) :
  Calls Tryz.prog 83 #[.agg #[va],.agg #[vb]] w (zEg (fun es=>bv es=bv da-bv db∧es.length≤da.length∧(bv es=0→es=[])) w):=by
 obtain⟨i0,hi,hz0,hz1,hz2⟩:=info_parts zFa
 have G0:=zh (zE7 (t:=68) ha hb)
 have FA:=zh ha.old
 have FB:=zh hb.old
 obtain⟨aa,ac,ea⟩:=ha.slice
 obtain⟨ba,bc,eb⟩:=hb.slice
 have HA:=zh hda
 have HD:=zh hdb
 have HLE:=zh hle
 clear hda hdb ha hb hle
 subst ea eb
 obtain⟨B,hB⟩:∃B,w.heap.size=B:=⟨_,rfl⟩
 rw[hB] at G0 FA FB
 go_enter Tryz.func83,Tryz.ntmps83
 go_wp2
 go_loopw [5,6,7] (fun v c i wr=>LessRel w B (.slice aa da.length ac) (.slice ba db.length bc) da db v c i wr) (fun _ _ i _=>(da.length-(intOf i).toNat))
 case atStart=>exact⟨0,0,[],rfl,rfl,rfl,zd,zd,zE6,rfl,zo,G0.out⟩
 case round=>
  obtain⟨k,cc,ds,rfl,rfl,hl,c0,c1,hd,hv,hk,G⟩:=hrel
  have HV:=zh hv
  have HL:=zh hl
  have HDs:=zh hd
  have ra:=G.ra
  have rb:=G.rb
  have GG:=zh G
  clear hv hl hd G
  have hk2:k≤90000:=zo
  by_cases hgo:k<da.length
  ·have xb:=zB4 HA.out k
   have yb:=zB4 HD.out k
   obtain⟨x,EX⟩:∃x,Hid (da.getD k 0=x):=⟨_,zh rfl⟩
   obtain⟨y,EY⟩:∃y,Hid (db.getD k 0=y):=⟨_,zh rfl⟩
   rw[EX.out] at xb
   rw[EY.out] at yb
   obtain⟨x0,x1⟩:=xb
   obtain⟨y0,y1⟩:=yb
   have HS:=zh (zF9 GG.out.drew)
   have e1:IntKind.i64.wrap (x-y)=x-y:=IntWalk.i64_in _ zo
   have e2:IntKind.i64.wrap (x-y-cc)=x-y-cc:=IntWalk.i64_in _ zo
   go_wp2_with fail
   go_region_held3 (fun w'=>w'.cell? ⟨B,0,none⟩=some (.slice aa da.length ac)∧w'.cell? ⟨B+1,0,none⟩=some (.slice ba db.length bc)∧Going w B (.slice aa da.length ac) (.slice ba db.length bc) da db u5 ds w') (first | exact HS.out | (refine zF9 (Going.below (zC5 ?_) hb);assumption))
    (first
     | (go_at_call 56;(with_reducible refine (zBr (.slice aa da.length ac) da (k:Int) _ (Going.a (zC5 za)) zo zo).mono ?_);rw[Int.toNat_natCast,EX.out];rintro e w' ⟨rfl,hb⟩)
     | (go_at_call 56;(with_reducible refine (zBr (.slice ba db.length bc) db (k:Int) _ (Going.b (zC5 za)) zo zo).mono ?_);rw[Int.toNat_natCast,EY.out];rintro e w' ⟨rfl,hb⟩))
   have G2:Going w B (.slice aa da.length ac) (.slice ba db.length bc) da db u5 ds w':=zC5 za
   have hsz:=G2.size
   have HL2:ds.length≤90000:=by have:=HL.out;omega
   clear e1 e2
   by_cases hneg:x-y-cc<0
   ·have ST:=zh (zJk (s:=x-y-cc+10000) (b:=1) EX.out EY.out zo zo zo HL.out HDs.out HV.out)
    go_wp2_with (at_builtin;refine wpList_append_own _ rfl _ _ 26 rfl (B+3) 3 i0 (0:Int) 1 8 Tryz.underlying26 hi hz0 hz1 hz2 rfl zd _ _ _ rfl (G2.own.alloc _) ⟨w',0,none⟩ 1 1 [.int .i64 (x-y-cc+10000)] rfl rfl ?c1a ?c2a ?c3a ?c4a ?c5a ?_)
    case c1a=>
     exact zqyv3
    case c2a=>first | (intro u hu;simp at hu;subst hu;rfl) | rfl | trivial
    case c3a=>unfold maxLen;omega
    case c4a=>omega
    case c5a=>first | (simp;omega) | omega
    ·intro v' w1 hown' hgrow _
     have G3:=Going.more G2 FA.out FB.out hown' hgrow
     have H3:=zh G3
     clear hown' hgrow G3 G2
     go_wp2
     go_roundw
     case rel=>
      exact⟨k+1,1,ds++[x-y-cc+10000],by go_num,rfl,by simp[HL.out],zd,zd,ST.out.1,ST.out.2,zo,H3.out⟩
     case measure=>simp[intOf];omega
   ·have ST:=zh (zJk (s:=x-y-cc) (b:=0) EX.out EY.out zo zo zo HL.out HDs.out HV.out)
    go_wp2_with (at_builtin;refine wpList_append_own _ rfl _ _ 26 rfl (B+3) 3 i0 (0:Int) 1 8 Tryz.underlying26 hi hz0 hz1 hz2 rfl zd _ _ _ rfl (G2.own.alloc _) ⟨w',0,none⟩ 1 1 [.int .i64 (x-y-cc)] rfl rfl ?c1b ?c2b ?c3b ?c4b ?c5b ?_)
    case c2b=>first | (intro u hu;simp at hu;subst hu;rfl) | rfl | trivial
    case c3b=>unfold maxLen;omega
    case c4b=>omega
    case c5b=>first | (simp;omega) | omega
    ·intro v' w1 hown' hgrow _
     have G3:=Going.more G2 FA.out FB.out hown' hgrow
     have H3:=zh G3
     clear hown' hgrow G3 G2
     go_wp2
     go_roundw
     case rel=>
      exact⟨k+1,0,ds++[x-y-cc],by go_num,rfl,by simp[HL.out],zd,zd,ST.out.1,ST.out.2,zo,H3.out⟩
     case measure=>simp[intOf];omega
  ·have hkl:k=da.length:=zo
   have EN:Hid (bv ds=bv da-bv db):=zh (less_end HA.out HD.out HDs.out (by rw[HL.out];exact hkl) c0 HLE.out (by rw[←hkl];exact HV.out))
   have HKL:=zh hkl
   clear hkl
   have hsz:=GG.out.size
   go_wp2_with fail
   have hbg:Big wr u5 ds:=World.ownsRow.mono GG.out.own (Nat.zero_le _)
   with_reducible refine (zG4 _ ds _ hbg HDs.out (by rw[HL.out];omega)).mono ?_
   rintro e w2 ⟨v',es,rfl,hbig,hdig,⟨hval,hlen,hnil⟩,hb2⟩
   have G4:=GG.out.below hb2
   have rc:=G4.rc
   have rf:=G4.rf
   have FIN:Hid (bv es=bv da-bv db∧es.length≤da.length∧(bv es=0→es=[])):=zh ⟨by rw[hval];exact EN.out,by rw[HL.out,HKL.out] at hlen;exact hlen,hnil⟩
   have HO:=zh (And.intro G4.old hbig)
   clear hval hlen hnil hb2
   obtain⟨a3,m3,c3,rfl⟩:=zCw hbig
   go_wp2
   refine bodyPost_ret (v:=.agg #[.slice a3 m3 c3]) (by simp[results,Tryz.results83,go_sem,rc]) rfl ⟨_,es,rfl,?_,hdig,FIN.out,?_⟩
   ·exact World.ownsRow.mono (ownsRow_setCell_below HO.out.2 zx _) zo
   ·rw[hB];exact HO.out.1.setCell zx _
end Go.Proofs.YtpfgdfpaoldhcaaGreatDoor
namespace Go.Proofs.YtpfgdfpaoldhcaaGreatDoor
theorem bv_set (l:List Int) (k:Nat) (x:Int) (h:k<l.length):bv (l.set k x)=bv l+p4 k*(x-l.getD k 0):=by
 induction l generalizing k with
 | nil=>simp at h
 | cons d l ih=>
  cases k with
  | zero=>simp[zC8,zIn];omega
  | succ k=>
   have:=ih k (by simpa using h)
   rw[List.set_cons_succ,zC8,zC8,this,zDg,List.getD_cons_succ]
   grind
theorem zQq {l:List Int} (h:Dig l) (k:Nat) {x:Int} (h0:0≤x) (h1:x≤9999):Dig (l.set k x):=by
 intro d hd
 rcases List.mem_or_eq_of_mem_set hd with hd | rfl
 ·exact h d hd
 ·exact⟨h0,h1⟩
theorem zNy (n:Nat):bv (List.replicate n 0)=0:=by
 induction n with
 | zero=>rfl
 | succ n ih=>rw[List.replicate_succ,zC8,ih];rfl
theorem zGj (n:Nat):Dig (List.replicate n 0):=by
 intro d hd
 rw[List.eq_of_mem_replicate hd]
 decide
theorem zQ5 {l:List Int} (h:Dig l) (k:Nat):bv (pad l k)≤bv l:=by
 have m:∀j,bv (pad l k)≤bv (pad l (k+j)):=by
  intro j
  induction j with
  | zero=>exact Int.le_refl _
  | succ j ih=>
   rw[show k+(j+1)=k+j+1 from rfl,zAu]
   have:=Int.mul_nonneg (Int.le_of_lt (zE2 (k+j))) (zB4 h (k+j)).1
   omega
 have:=m l.length
 rwa [zDw l (k+l.length) zo] at this
theorem p4_lt {a b:Nat} (h:p4 a<p4 b):a<b:=by
 by_cases e:a<b
 ·exact e
 ·have:=zS2 (show b≤a by omega);omega
def zDv (da db l:List Int) (i j:Nat) (c:Int):Prop:=bv l+p4 (i+j)*c=bv (pad da i)*bv db+p4 i*(da.getD i 0*bv (pad db j))
theorem zOf {da db l:List Int} {i:Nat} (h:bv l=bv (pad da i)*bv db):zDv da db l i 0 0:=by
 unfold zDv
 simp[pad,zD9]
 exact h
theorem zSc {da db l:List Int} {i j:Nat} {c:Int} (h:zDv da db l i j c) (hk:i+j<l.length) :
  zDv da db (l.set (i+j) ((l.getD (i+j) 0+da.getD i 0*db.getD j 0+c)%10000)) i (j+1) ((l.getD (i+j) 0+da.getD i 0*db.getD j 0+c)/10000):=by
 unfold zDv at *
 rw[bv_set _ _ _ hk,zAu,←Nat.add_assoc,zDg]
 generalize l.getD (i+j) 0=L at *
 generalize db.getD j 0=y at *
 generalize da.getD i 0=x at *
 have e:(L+x*y+c)%10000+10000*((L+x*y+c)/10000)=L+x*y+c:=zo
 have q:p4 (i+j)=p4 i*p4 j:=p4_add i j
 generalize (L+x*y+c)%10000=M at *
 generalize (L+x*y+c)/10000=D at *
 generalize p4 (i+j)=P at *
 generalize p4 i=I at *
 generalize p4 j=J at *
 generalize bv (pad db j)=Y at *
 generalize bv (pad da i)=X at *
 generalize bv db=B at *
 generalize bv l=V at *
 have e2:P*M+10000*P*D=P*L+P*(x*y)+P*c:=by
  have:=congrArg (fun t=>P*t) e
  simp only[Int.mul_add] at this
  grind
 grind
theorem zSa {da db l:List Int} {i j:Nat} (h:zDv da db l i j 0) (hj:db.length≤j):bv l=bv (pad da (i+1))*bv db:=by
 unfold zDv at h
 rw[zDw db j hj] at h
 rw[zAu]
 grind
theorem zSb {da db l:List Int} {i j:Nat} {c:Int} (ha:Dig da) (hb:Dig db) (hl:Dig l) (h:zDv da db l i j c) (hc:0<c):j≤db.length:=by
 have h1:=(zD8 hl).1
 have pp:=zE2 (i+j)
 have h2:p4 (i+j)≤p4 (i+j)*c:=by
  have:=Int.mul_le_mul_of_nonneg_left (show 1≤c by omega) (Int.le_of_lt pp)
  omega
 have x0:=(zB4 ha i).1
 have h3:da.getD i 0*bv (pad db j)≤da.getD i 0*bv db:=Int.mul_le_mul_of_nonneg_left (zQ5 hb j) x0
 have h4:p4 i*(da.getD i 0*bv (pad db j))≤p4 i*(da.getD i 0*bv db):=Int.mul_le_mul_of_nonneg_left h3 (Int.le_of_lt (zE2 i))
 have a1:=zD8 (zI9 ha (i+1))
 rw[zDq] at a1
 have b1:=zD8 hb
 have h5:bv (pad da (i+1))*bv db<p4 (i+1)*p4 db.length:=by
  have g1:bv (pad da (i+1))*bv db≤p4 (i+1)*bv db:=Int.mul_le_mul_of_nonneg_right (Int.le_of_lt a1.2) b1.1
  have g2:p4 (i+1)*bv db<p4 (i+1)*p4 db.length:=Int.mul_lt_mul_of_pos_left b1.2 (zE2 _)
  omega
 have h6:bv (pad da (i+1))*bv db=bv (pad da i)*bv db+p4 i*(da.getD i 0*bv db):=by
  rw[zAu];grind
 unfold zDv at h
 rw[←p4_add] at h5
 have:=p4_lt (show p4 (i+j)<p4 (i+1+db.length) by omega)
 omega
theorem zRv {x y:Int} (x0:0≤x) (x1:x≤9999) (y0:0≤y) (y1:y≤9999):0≤x*y∧x*y≤99980001:=by
 have h1:=Int.mul_nonneg x0 y0
 have h2:=Int.mul_le_mul_of_nonneg_right x1 y0
 omega
end Go.Proofs.YtpfgdfpaoldhcaaGreatDoor
namespace Go.Proofs.YtpfgdfpaoldhcaaGreatDoor
open Go.RowKit
structure Making (w:World) (B g n:Nat) (va vb:Value) (da db l:List Int) (W:World):Prop where
 a:Big W va da
 b:Big W vb db
 own:W.ownsRow (B+3) 3 1 (.slice (some ⟨g,0,none⟩) n n) n (l.map (Value.int .i64))
 len:l.length=n
 ra:W.cell? ⟨B,0,none⟩=some va
 rb:W.cell? ⟨B+1,0,none⟩=some vb
 rc:W.cell? ⟨B+2,0,none⟩=some (.slice none 0 0)
 rf:W.frozen? ⟨B+2,0,none⟩=false
 old:Below B w W
 size:B+3≤W.heap.size
theorem Making.below {w:World} {B g n:Nat} {va vb:Value} {da db l:List Int} {W W':World} (h:Making w B g n va vb da db l W) (hb:Below W W W'):Making w B g n va vb da db l W':=
 ⟨h.a.below hb,h.b.below hb,zEt h.own hb,h.len,keep hb (by have:=h.size;omega) h.ra,keep hb (by have:=h.size;omega) h.rb,keep hb (by have:=h.size;omega) h.rc,zA6 hb (by have:=h.size;omega) h.rf,h.old.trans (hb.mono (by have:=h.size;omega)),by have:=h.size;have:=hb.size;omega⟩
theorem Making.drew {w:World} {B g n:Nat} {va vb:Value} {da db l:List Int} {W:World} (h:Making w B g n va vb da db l W):Making w B g n va vb da db l W.drew:=
 ⟨h.a,h.b,h.own,h.len,h.ra,h.rb,h.rc,h.rf,h.old.drew,h.size⟩
theorem Making.at {w:World} {B g n:Nat} {va vb:Value} {da db l:List Int} {W:World} (h:Making w B g n va vb da db l W) {k:Nat} (hk:k<n):W.cell? ⟨g,k,none⟩=some (.int .i64 (l.getD k 0)):=by
 rw[World.ownsRow.cellAt h.own k zo]
 simp[List.getD,List.getElem?_eq_getElem (show k<l.length by rw[h.len];exact hk)]
theorem Making.stored {w:World} {B g n:Nat} {va vb:Value} {da db l:List Int} {W:World} (h:Making w B g n va vb da db l W) (fa:∀k,va.ownBlock=some k→k<B) (fb:∀k,vb.ownBlock=some k→k<B) (k:Nat) (x:Int) :
  Making w B g n va vb da db (l.set k x) (W.setCell ⟨g,k,none⟩ x):=by
 have hg:B+3≤g:=(World.ownsRow.lt h.own g rfl).1
 have R:Below (B+3) W (W.setCell ⟨g,k,none⟩ x):=(Below.refl _ _).setCell hg _
 have far:∀{u:Value} {es:List Int},Big W u es→(∀k,u.ownBlock=some k→k<B)→Big (W.setCell ⟨g,k,none⟩ x) u es:=by
  intro u es hu fu
  obtain⟨h1,h2⟩:=hu
  refine⟨h1,?_⟩
  rcases h2 with h2 | ⟨g',cap,cur,hv,hgg,hh,hr⟩
  ·exact .inl h2
  ·have:=fu g' (by rw[hv];rfl)
   exact .inr ⟨g',cap,cur,hv,hgg,by rw[R.block g' zo];exact hh,hr⟩
 refine⟨far h.a fa,far h.b fb,?_,by simp[h.len],(R.cell (p:=⟨B,0,none⟩) zs).trans h.ra,(R.cell (p:=⟨B+1,0,none⟩) zs).trans h.rb,(R.cell (p:=⟨B+2,0,none⟩) zs).trans h.rc,
  (R.frozen (p:=⟨B+2,0,none⟩) zs).trans h.rf,h.old.trans (R.mono zo),by have:=R.size;have:=h.size;omega⟩
 have:=(World.ownsRow.stored h.own k x).1
 rwa [←List.map_set] at this
theorem zJm {w:World} {B n:Nat} {va vb:Value} {da db l:List Int} {v:Value} {W W':World} (G:Going w B va vb da db v [] W) (fa:∀k,va.ownBlock=some k→k<B) (fb:∀k,vb.ownBlock=some k→k<B)
  (hown:W'.ownsRow (B+3) 3 1 (.slice (some ⟨B+3,0,none⟩) n n) n (l.map (Value.int .i64))) (hg:W.grownBy W' none):Making w B (B+3) n va vb da db l W':=by
 have R:Below (B+3) W W':=(Below.refl _ _).grown hg G.size (fun k hk=>by cases hk)
 have far:∀{u:Value} {es:List Int},Big W u es→(∀k,u.ownBlock=some k→k<B)→Big W' u es:=by
  intro u es hu fu
  obtain⟨h1,h2⟩:=hu
  refine⟨h1,?_⟩
  rcases h2 with h2 | ⟨g,cap,cur,hv,hgg,hh,hr⟩
  ·exact .inl h2
  ·exact zqz87
 refine⟨far G.a fa,far G.b fb,hown,?_,(R.cell (p:=⟨B,0,none⟩) zs).trans G.ra,(R.cell (p:=⟨B+1,0,none⟩) zs).trans G.rb,(R.cell (p:=⟨B+2,0,none⟩) zs).trans G.rc,
  (R.frozen (p:=⟨B+2,0,none⟩) zs).trans G.rf,G.old.trans (R.mono zo),by have:=R.size;have:=G.size;omega⟩
 have:=hown.1
 simpa using this
theorem Big.cell {W:World} {v:Value} {ds:List Int} (h:Big W v ds) {k:Nat} (hk:k<ds.length):∃g cap,v=.slice (some ⟨g,0,none⟩) ds.length cap∧W.cell? ⟨g,k,none⟩=some (.int .i64 (ds.getD k 0)):=by
 rcases h.form with⟨_,rfl⟩ | ⟨g,cap,rfl,hg,_,hc⟩
 ·simp at hk
 ·exact⟨g,cap,rfl,hc k hk⟩
theorem zRn {w:World} {B g n k ga i:Nat} {va vb:Value} {da db l:List Int} {z x:Value} {W:World} (h:W.cell? ⟨B,0,none⟩=some va∧W.cell? ⟨B+1,0,none⟩=some vb∧W.cell? ⟨g,k,none⟩=some z∧W.cell? ⟨ga,i,none⟩=some x∧Making w B g n va vb da db l W):Making w B g n va vb da db l W:=h.2.2.2.2
theorem zN3 {w:World} {B g n k ga i:Nat} {va vb:Value} {da db l:List Int} {z x:Value} {W:World} (h:Making w B g n va vb da db l W) (hz:W.cell? ⟨g,k,none⟩=some z) (hx:W.cell? ⟨ga,i,none⟩=some x) :
  W.cell? ⟨B,0,none⟩=some va∧W.cell? ⟨B+1,0,none⟩=some vb∧W.cell? ⟨g,k,none⟩=some z∧W.cell? ⟨ga,i,none⟩=some x∧Making w B g n va vb da db l W:=⟨h.ra,h.rb,hz,hx,h⟩
theorem zRo {w:World} {B g n k ga i:Nat} {va vb:Value} {da db l:List Int} {z x:Value} {W W':World} (h:W.cell? ⟨B,0,none⟩=some va∧W.cell? ⟨B+1,0,none⟩=some vb∧W.cell? ⟨g,k,none⟩=some z∧W.cell? ⟨ga,i,none⟩=some x∧Making w B g n va vb da db l W) (hb:Below W W W') :
  W'.cell? ⟨B,0,none⟩=some va∧W'.cell? ⟨B+1,0,none⟩=some vb∧W'.cell? ⟨g,k,none⟩=some z∧W'.cell? ⟨ga,i,none⟩=some x∧Making w B g n va vb da db l W':=
 zN3 (h.2.2.2.2.below hb) (keep hb (zA0 h.2.2.1) h.2.2.1) (keep hb (zA0 h.2.2.2.1) h.2.2.2.1)
def ProdOut (w:World) (B g n:Nat) (va vb:Value) (da db:List Int) (i:Value) (wr:World):Prop:=
 ∃(k:Nat) (l:List Int),i=.int .i64 k∧k≤da.length∧Dig l∧bv l=bv (pad da k)*bv db∧Making w B g n va vb da db l wr
def ProdIn (w:World) (B g n i:Nat) (va vb:Value) (da db:List Int) (c j:Value) (wr:World):Prop:=
 ∃(k:Nat) (cc:Int) (l:List Int),j=.int .i64 k∧c=.int .i64 cc∧0≤cc∧cc≤9999∧k≤db.length+1∧Dig l∧zDv da db l i k cc∧Making w B g n va vb da db l wr
theorem prodB (va vb:Value) (da db:List Int) (w:World) (ha:Big w va da) (hb:Big w vb db) (hda:Dig da) (hdb:Dig db) (la:da.length≤40000) (lb:db.length≤40000) :
  Calls Tryz.prog 32 #[.agg #[va],.agg #[vb]] w (zEg (fun es=>bv es=bv da*bv db∧es.length≤da.length+db.length+1∧(bv es=0→es=[])) w):=by
 obtain⟨i0,hi,hz0,hz1,hz2⟩:=info_parts zFa
 have G0:=zh (zE7 (t:=68) ha hb)
 have FA:=zh ha.old
 have FB:=zh hb.old
 obtain⟨aa,ac,ea⟩:=ha.slice
 obtain⟨ba,bc,eb⟩:=hb.slice
 have HA:=zh hda
 have HD:=zh hdb
 clear hda hdb ha hb
 subst ea eb
 obtain⟨B,hB⟩:∃B,w.heap.size=B:=⟨_,rfl⟩
 rw[hB] at G0 FA FB
 go_enter Tryz.func32,Tryz.ntmps32
 go_wp2_with (first | (at_make;refine wpList_make_full _ rfl _ _ 26 rfl (B+3) 3 i0 (0:Int) 1 Tryz.underlying26 hi hz0 hz1 _ _ _ _ (da.length+db.length+1) rfl rfl ?c1 ?c2 ?c3 ?c4 ?c5 ?_) | go_in)
 case c1=>first | rfl | omega | (simp;omega)
 case c2=>first | rfl | omega | (simp;omega)
 case c3=>rw[hz2];omega
 case c4=>unfold maxLen;omega
 case c5=>simp[hB]
 intro w1 hown hgrow
 have hown':w1.ownsRow (B+3) 3 1 (.slice (some ⟨B+3,0,none⟩) (da.length+db.length+1) (da.length+db.length+1)) (da.length+db.length+1) ((List.replicate (da.length+db.length+1) (0:Int)).map (Value.int .i64)):=by
  rw[List.map_replicate,←toList_madeCells_one];exact hown
 have G1:=zh (zJm G0.out FA.out FB.out hown' hgrow)
 clear hown hown' hgrow G0
 go_wp2
 go_loopw [6] (fun i wr=>ProdOut w B (B+3) (da.length+db.length+1) (.slice aa da.length ac) (.slice ba db.length bc) da db i wr) (fun i _=>(da.length-(intOf i).toNat))
 case atStart=>exact⟨0,List.replicate (da.length+db.length+1) 0,rfl,Nat.zero_le _,zGj _,by rw[zNy];simp[pad,zD9],G1.out⟩
 case round=>
  obtain⟨i,l,rfl,hi1,hd,hv,G⟩:=hrel
  have HV:=zh hv
  have HDs:=zh hd
  have ra:=G.ra
  have rb:=G.rb
  have GG:=zh G
  clear hv hd G
  by_cases hgo:i<da.length
  ·go_wp2
   obtain⟨wo,rfl⟩:∃wo:World,wo=wr:=⟨_,rfl⟩
   clear ra rb
   go_loopw [7,8,9] (fun c j _ wr=>ProdIn w B (B+3) (da.length+db.length+1) i (.slice aa da.length ac) (.slice ba db.length bc) da db c j wr) (fun _ j _ _=>(db.length+2-(intOf j).toNat))
   case atStart=>exact⟨0,0,l,rfl,rfl,zd,zd,zo,HDs.out,zOf HV.out,GG.out⟩
   case round=>
    obtain⟨j,cc,l2,rfl,rfl,c0,c1,hj,hd2,hv2,G2⟩:=hrel
    have HV2:=zh hv2
    have HD2:=zh hd2
    have rb2:=G2.rb
    have ra2:=G2.ra
    have GG2:=zh G2
    clear hv2 hd2 G2
    by_cases hin:j<db.length∨0<cc
    ·have hjb:j≤db.length:=by
      rcases hin with h | h
      ·omega
      ·exact zSb HA.out HD.out HD2.out HV2.out h
     have hlen:i+j<l2.length:=by rw[GG2.out.len];omega
     have ST:=zSc HV2.out hlen
     have xb:=zB4 HA.out i
     have yb:=zB4 HD.out j
     have zb:=zB4 HD2.out (i+j)
     have cl:=GG2.out.at (k:=i+j) zo
     have ca:=GG2.out.a.cell hgo
     obtain⟨x,EX⟩:∃x,Hid (da.getD i 0=x):=⟨_,zh rfl⟩
     obtain⟨y,EY⟩:∃y,Hid (db.getD j 0=y):=⟨_,zh rfl⟩
     obtain⟨z,EZ⟩:∃z,Hid (l2.getD (i+j) 0=z):=⟨_,zh rfl⟩
     rw[EX.out] at xb ST ca
     rw[EY.out] at yb ST
     rw[EZ.out] at zb ST cl
     obtain⟨x0,x1⟩:=xb
     obtain⟨y0,y1⟩:=yb
     obtain⟨z0,z1⟩:=zb
     obtain⟨m0,m1⟩:=zRv x0 x1 y0 y1
     obtain⟨ga,oa,eaa,hcell⟩:=ca
     obtain⟨p,EP⟩:∃p,Hid (x*y=p):=⟨_,zh rfl⟩
     rw[EP.out] at m0 m1 ST
     have HST:=zh ST
     clear ST
     simp only[Value.slice.injEq,true_and] at eaa
     obtain⟨rfl,rfl⟩:=eaa
     have HS:=zh (zN3 GG2.out.drew cl hcell)
     have w1':IntKind.i64.wrap ((i:Int)+j)=(i:Int)+j:=IntWalk.i64_in _ zo
     have w2:IntKind.i64.wrap (x*y)=p:=by rw[EP.out];exact IntWalk.i64_in _ zo
     have w3:IntKind.i64.wrap (z+p)=z+p:=IntWalk.i64_in _ zo
     have w4:IntKind.i64.wrap (z+p+cc)=z+p+cc:=IntWalk.i64_in _ zo
     have k1:(0:Int)≤(i:Int)+j:=zo
     have k2:(i:Int)+j<(da.length:Int)+db.length+1:=zo
     have k3:((i:Int)+j).toNat=i+j:=zo
     by_cases h1:j<db.length
     all_goals
      go_wp2_with fail
      go_region_held3 (fun w'=>w'.cell? ⟨B,0,none⟩=some (.slice (some ⟨ga,0,none⟩) da.length ac)∧w'.cell? ⟨B+1,0,none⟩=some (.slice ba db.length bc)∧w'.cell? ⟨B+3,i+j,none⟩=some (.int .i64 z)∧w'.cell? ⟨ga,i,none⟩=some (.int .i64 x)∧Making w B (B+3) (da.length+db.length+1) (.slice (some ⟨ga,0,none⟩) da.length ac) (.slice ba db.length bc) da db l2 w') (first | exact HS.out | (refine zRo ?_ hb;assumption))
       (first
        | (go_at_call 56;(with_reducible refine (zBr (.slice ba db.length bc) db (j:Int) _ (Making.b (zRn za)) zo zo).mono ?_);rw[Int.toNat_natCast,EY.out];rintro e w' ⟨rfl,hb⟩))
      have G3:Making w B (B+3) (da.length+db.length+1) (.slice (some ⟨ga,0,none⟩) da.length ac) (.slice ba db.length bc) da db l2 w':=zRn za
      have fz:=World.ownsRow.frozenAt G3.own (i+j)
      have cl3:=G3.at (k:=i+j) zo
      rw[EZ.out] at cl3
      have G4:=zh (G3.stored FA.out FB.out (i+j) ((z+p+cc)%10000))
      clear G3
      go_wp2
      go_roundw
      case rel=>exact⟨j+1,(z+p+cc)/10000,_,by go_num,rfl,zo,zo,zo,zQq HD2.out _ zo zo,HST.out,G4.out⟩
      case measure=>simp[intOf];omega
    ·have n1:¬j<db.length:=zo
     have n2:¬0<cc:=zo
     have EN:Hid (bv l2=bv (pad da (i+1))*bv db):=zh (zSa (j:=j) (by have:=HV2.out;rwa [show cc=0 from by omega] at this) zo)
     clear hin
     go_wp2
     go_roundw
     case rel=>exact⟨i+1,l2,by go_num,zo,HD2.out,EN.out,GG2.out⟩
     case measure=>simp[intOf];omega
  ·have hkl:i=da.length:=zo
   have EN:Hid (bv l=bv da*bv db):=zh (by have:=HV.out;rwa [hkl,zS3] at this)
   clear hkl
   have hsz:=GG.out.size
   go_wp2_with fail
   have hbg:Big wr (.slice (some ⟨B+3,0,none⟩) (da.length+db.length+1) (da.length+db.length+1)) l:=by
    have:=GG.out.len
    have h:=World.ownsRow.mono GG.out.own (Nat.zero_le _)
    unfold Big
    rw[this]
    exact h
   with_reducible refine (zG4 _ l _ hbg HDs.out (by rw[GG.out.len];omega)).mono ?_
   rintro e w2 ⟨v',es,rfl,hbig,hdig,⟨hval,hlen,hnil⟩,hb2⟩
   have G4:=GG.out.below hb2
   have rc:=G4.rc
   have rf:=G4.rf
   have FIN:Hid (bv es=bv da*bv db∧es.length≤da.length+db.length+1∧(bv es=0→es=[])):=zh ⟨by rw[hval];exact EN.out,by rw[GG.out.len] at hlen;exact hlen,hnil⟩
   have HO:=zh (And.intro G4.old hbig)
   clear hval hlen hnil hb2 G4
   obtain⟨a3,m3,c3,rfl⟩:=zCw hbig
   go_wp2
   refine bodyPost_ret (v:=.agg #[.slice a3 m3 c3]) (by simp[results,Tryz.results32,go_sem,rc]) rfl ⟨_,es,rfl,?_,hdig,FIN.out,?_⟩
   ·exact World.ownsRow.mono (ownsRow_setCell_below HO.out.2 zx _) zo
   ·rw[hB];exact HO.out.1.setCell zx _
end Go.Proofs.YtpfgdfpaoldhcaaGreatDoor
namespace Go.Proofs.YtpfgdfpaoldhcaaGreatDoor
open Go.RowKit
def BigN (W:World) (v:Value) (n:Int) (m:Nat):Prop:=∃ds,Big W v ds∧Dig ds∧bv ds=n∧ds.length≤m∧(bv ds=0→ds=[])
def zEh (n:Int) (m:Nat) (w:World) (e:Ending) (w':World):Prop:=∃a k c,e=.returned (.agg #[.slice a k c])∧BigN w' (.slice a k c) n m∧(∀g,(Value.slice a k c).ownBlock=some g→w.heap.size≤g)∧Below w w w'
theorem BigN.below {w w':World} {v:Value} {n:Int} {m:Nat} (h:BigN w v n m) (hb:Below w w w'):BigN w' v n m:=by
 obtain⟨ds,h1,h2,h3,h4⟩:=h
 exact⟨ds,h1.below hb,h2,h3,h4⟩
theorem BigN.alloc {w:World} {v:Value} {n:Int} {m:Nat} (h:BigN w v n m) (o:Obj):BigN (w.alloc o) v n m:=by
 obtain⟨ds,h1,h2,h3,h4⟩:=h
 exact⟨ds,h1.alloc o,h2,h3,h4⟩
theorem BigN.drew {w:World} {v:Value} {n:Int} {m:Nat} (h:BigN w v n m):BigN w.drew v n m:=h
theorem BigN.nonneg {w:World} {v:Value} {n:Int} {m:Nat} (h:BigN w v n m):0≤n:=by
 obtain⟨ds,_,h2,rfl,_⟩:=h
 exact (zD8 h2).1
theorem BigN.more {w:World} {v:Value} {n:Int} {m m':Nat} (h:BigN w v n m) (hm:m≤m'):BigN w v n m':=by
 obtain⟨ds,h1,h2,h3,h4⟩:=h
 exact⟨ds,h1,h2,h3,Nat.le_trans h4.1 hm,h4.2⟩
theorem BigN.nil (w:World):BigN w (.slice none 0 0) 0 0:=⟨[],World.ownsRow_nil _ _ _ _,zE6,rfl,Nat.le_refl _,fun _=>rfl⟩
theorem Big.setCell {W:World} {v:Value} {ds:List Int} (h:Big W v ds) {p:Addr} (hp:v.ownBlock≠some p.block) (u:Value):Big (W.setCell p u) v ds:=by
 obtain⟨h1,h2⟩:=h
 refine⟨h1,?_⟩
 rcases h2 with h2 | ⟨g,cap,cur,hv,hg,hh,hr⟩
 ·exact .inl h2
 ·refine .inr ⟨g,cap,cur,hv,hg,?_,hr⟩
  rw[Below.heap_setCell _ _ _ _ (by rintro rfl;exact hp (by rw[hv];rfl))]
  exact hh
theorem BigN.setCell {W:World} {v:Value} {n:Int} {m:Nat} (h:BigN W v n m) {p:Addr} (hp:v.ownBlock≠some p.block) (u:Value):BigN (W.setCell p u) v n m:=by
 obtain⟨ds,h1,h2,h3,h4⟩:=h
 exact⟨ds,h1.setCell hp u,h2,h3,h4⟩
theorem BigN.old {w:World} {v:Value} {n:Int} {m:Nat} (h:BigN w v n m):∀k,v.ownBlock=some k→k<w.heap.size:=by
 obtain⟨ds,h1,_⟩:=h
 exact h1.old
theorem zEb {P:List Int→Prop} {w:World} {n:Int} {m:Nat} {e:Ending} {w':World} (h:zEg P w e w') (hp:∀ds,P ds→bv ds=n∧ds.length≤m∧(bv ds=0→ds=[])):zEh n m w e w':=by
 obtain⟨v,ds,rfl,hown,hd,hP,hb⟩:=h
 obtain⟨a,k,c,rfl⟩:=zCw hown
 exact⟨a,k,c,rfl,⟨ds,World.ownsRow.mono hown (Nat.zero_le _),hd,(hp ds hP).1,(hp ds hP).2⟩,fun g hg=>(World.ownsRow.lt hown g hg).1,hb⟩
theorem zId (n:Int) (w:World) (h0:0≤n) (h1:n<18446744073709551616):Calls Tryz.prog 58 #[.int .u64 n] w (zEh n 5 w):=
 (fromU n w h0 h1).mono fun _ _ h=>zEb h fun _ h=>h
theorem plus_n (va vb:Value) (x y:Int) (a b:Nat) (w:World) (ha:BigN w va x a) (hb:BigN w vb y b) (la:a≤90000) (lb:b≤90000) :
  Calls Tryz.prog 43 #[.agg #[va],.agg #[vb]] w (zEh (x+y) (max a b+1) w):=by
 obtain⟨da,a1,a2,rfl,a4⟩:=ha
 obtain⟨db,b1,b2,rfl,b4⟩:=hb
 by_cases hz:bv da+bv db=0
 ·have za:=(zD8 a2).1
  have zb:=(zD8 b2).1
  obtain rfl:=a4.2 zo
  obtain rfl:=b4.2 zo
  obtain⟨aa,ac,rfl⟩:=a1.slice
  obtain⟨ba,bc,rfl⟩:=b1.slice
  refine (plus_nil aa ac ba bc w).mono fun _ _ h=>zEb h fun _ h=>?_
  subst h
  exact⟨rfl,Nat.zero_le _,fun _=>rfl⟩
 ·exact (plusB va vb da db w a1 b1 a2 b2 zo zo).mono fun _ _ h=>zEb h fun _ h=>⟨h.1,zo,fun h'=>absurd (h.1.symm.trans h') hz⟩
theorem less_n (va vb:Value) (x y:Int) (a b:Nat) (w:World) (ha:BigN w va x a) (hb:BigN w vb y b) (la:a≤90000) (hle:y≤x) :
  Calls Tryz.prog 83 #[.agg #[va],.agg #[vb]] w (zEh (x-y) a w):=by
 obtain⟨da,a1,a2,rfl,a4⟩:=ha
 obtain⟨db,b1,b2,rfl,b4⟩:=hb
 exact (lessB va vb da db w a1 b1 a2 b2 zo hle).mono fun _ _ h=>zEb h fun _ h=>⟨h.1,zo,h.2.2⟩
theorem zEu (va vb:Value) (x y:Int) (a b:Nat) (w:World) (ha:BigN w va x a) (hb:BigN w vb y b) (la:a≤40000) (lb:b≤40000) :
  Calls Tryz.prog 32 #[.agg #[va],.agg #[vb]] w (zEh (x*y) (a+b+1) w):=by
 obtain⟨da,a1,a2,rfl,a4⟩:=ha
 obtain⟨db,b1,b2,rfl,b4⟩:=hb
 exact (prodB va vb da db w a1 b1 a2 b2 zo zo).mono fun _ _ h=>zEb h fun _ h=>⟨h.1,zo,h.2.2⟩
theorem zH8 (va vb:Value) (x y:Int) (a b:Nat) (w:World) (ha:BigN w va x a) (hb:BigN w vb y b) (la:a≤100000) (lb:b≤100000) :
  Calls Tryz.prog 34 #[.agg #[va],.agg #[vb]] w fun e w'=>e=.returned (cmpI x y)∧Below w w w':=by
 obtain⟨da,a1,a2,rfl,a4⟩:=ha
 obtain⟨db,b1,b2,rfl,b4⟩:=hb
 exact cmpB va vb da db w a1 b1 a2 b2 zo zo
theorem zAz {W:World} {v:Value} {n:Int} {m:Nat} {B:Nat} {p:Addr} {u:Value} (h:BigN W v n m) (hv:∀g,v.ownBlock=some g→B≤g) (hp:p.block<B):BigN (W.setCell p u) v n m:=
 h.setCell (fun e=>by have:=hv _ e;omega) u
end Go.Proofs.YtpfgdfpaoldhcaaGreatDoor
namespace Go.Proofs.YtpfgdfpaoldhcaaGreatDoor
open Go.RowKit
structure Wided (w:World) (B h:Nat) (xh xl:Int) (vh:Value) (W:World):Prop where
 c0:W.cell? ⟨B,0,none⟩=some (.int .u64 xh)
 c1:W.cell? ⟨B,1,none⟩=some (.int .u64 xl)
 ch:W.cell? ⟨h,0,none⟩=some vh
 nh:BigN W vh 4294967296 5
 rf:W.frozen? ⟨B+1,0,none⟩=false
 old:Below B w W
 size:B+2≤W.heap.size
theorem Wided.below {w:World} {B h:Nat} {xh xl:Int} {vh:Value} {W W':World} (k:Wided w B h xh xl vh W) (hb:Below W W W'):Wided w B h xh xl vh W':=
 ⟨keep hb (zA0 k.c0) k.c0,keep hb (zA0 k.c1) k.c1,keep hb (zA0 k.ch) k.ch,k.nh.below hb,zA6 hb (by have:=k.size;omega) k.rf,k.old.trans (hb.mono (by have:=k.size;omega)),by have:=k.size;have:=hb.size;omega⟩
theorem Wided.drew {w:World} {B h:Nat} {xh xl:Int} {vh:Value} {W:World} (k:Wided w B h xh xl vh W):Wided w B h xh xl vh W.drew:=⟨k.c0,k.c1,k.ch,k.nh,k.rf,k.old.drew,k.size⟩
theorem Wided.stored {w:World} {B h:Nat} {xh xl:Int} {vh:Value} {W:World} (k:Wided w B h xh xl vh W) (hh:B+2≤h) (hv:∀g,vh.ownBlock=some g→B+2≤g) (u:Value):Wided w B h xh xl vh (W.setCell ⟨B+1,0,none⟩ u):=
 ⟨by rw[World.cell?_setCell_far _ _ _ _ zs];exact k.c0,by rw[World.cell?_setCell_far _ _ _ _ zs];exact k.c1,by rw[World.cell?_setCell_far _ _ _ _ zx];exact k.ch,zAz k.nh hv zs,by rw[World.frozen?_setCell];exact k.rf,k.old.setCell zs _,by simpa using k.size⟩
end Go.Proofs.YtpfgdfpaoldhcaaGreatDoor
namespace Go.Proofs.YtpfgdfpaoldhcaaGreatDoor
open Go.RowKit
theorem zFw {w W:World} {B m:Nat} {n:Int} {a:Option Addr} {k c:Nat} (hB:w.heap.size=B) (hs:BigN W (.slice a k c) n m) (hf:∀g,(Value.slice a k c).ownBlock=some g→B+1≤g) (old:Below B w W) :
  zEh n m w (.returned (.agg #[.slice a k c])) (W.setCell ⟨B,0,none⟩ (.slice a k c)):=
 ⟨a,k,c,rfl,zAz hs hf zs,fun g hg=>by have:=hf g hg;omega,by rw[hB];exact old.setCell zs _⟩
theorem zCb (n:Int) (w:World) (h0:0≤n) (h1:n<9223372036854775808):Calls Tryz.prog 33 #[n] w (zEh n 5 w):=by
 have hc:IntKind.u64.wrap n=n:=IntWalk.u64_in n zo
 go_enter Tryz.func33,Tryz.ntmps33
 go_wp2_with fail
 with_reducible refine (zId n _ zo zo).mono ?_
 rintro e w1 ⟨sa,sk,sc,rfl,NS,FS,hb⟩
 have RF:w1.frozen? ⟨w,0,none⟩=false:=zA6 hb zs (by simp[go_sem])
 have R:w1.cell? ⟨w,0,none⟩=some (.slice none 0 0):=keep hb zs zn
 have FIN:=zh (zFw rfl NS (by simpa using FS) (((Below.refl _ _).alloc (Nat.le_refl _) _).trans (hb.mono zs)))
 clear NS FS hb
 go_wp2
 exact bodyPost_ret (v:=.agg #[.slice sa sk sc]) (by simp[results,Tryz.results33,go_sem,R]) rfl FIN.out
structure Halved (w:World) (B h:Nat) (vh:Value) (W:World):Prop where
 ch:W.cell? ⟨h,0,none⟩=some vh
 nh:BigN W vh 4294967296 5
 old:Below B w W
 size:B+1≤W.heap.size
theorem Halved.below {w:World} {B h:Nat} {vh:Value} {W W':World} (k:Halved w B h vh W) (hb:Below W W W'):Halved w B h vh W':=
 ⟨keep hb (zA0 k.ch) k.ch,k.nh.below hb,k.old.trans (hb.mono (by have:=k.size;omega)),by have:=k.size;have:=hb.size;omega⟩
theorem Halved.drew {w:World} {B h:Nat} {vh:Value} {W:World} (k:Halved w B h vh W):Halved w B h vh W.drew:=⟨k.ch,k.nh,k.old.drew,k.size⟩
theorem Halved.stored {w:World} {B h:Nat} {vh:Value} {W:World} (k:Halved w B h vh W) (hh:B+1≤h) (hv:∀g,vh.ownBlock=some g→B+1≤g) (u:Value):Halved w B h vh (W.setCell ⟨B,0,none⟩ u):=
 ⟨by rw[World.cell?_setCell_far _ _ _ _ zx];exact k.ch,zAz k.nh hv zs,k.old.setCell zs _,by simpa using k.size⟩
structure Boxed (w:World) (B:Nat) (xh xl:Int) (v:Value) (n:Int) (m:Nat) (W:World):Prop where
 c0:W.cell? ⟨B,0,none⟩=some (.int .u64 xh)
 c1:W.cell? ⟨B,1,none⟩=some (.int .u64 xl)
 cv:W.cell? ⟨B+1,0,none⟩=some v
 nv:BigN W v n m
 old:Below B w W
 size:B+2≤W.heap.size
theorem Boxed.below {w:World} {B m:Nat} {xh xl n:Int} {v:Value} {W W':World} (k:Boxed w B xh xl v n m W) (hb:Below W W W'):Boxed w B xh xl v n m W':=
 ⟨keep hb (zA0 k.c0) k.c0,keep hb (zA0 k.c1) k.c1,keep hb (zA0 k.cv) k.cv,k.nv.below hb,k.old.trans (hb.mono (by have:=k.size;omega)),by have:=k.size;have:=hb.size;omega⟩
theorem Boxed.drew {w:World} {B m:Nat} {xh xl n:Int} {v:Value} {W:World} (k:Boxed w B xh xl v n m W):Boxed w B xh xl v n m W.drew:=⟨k.c0,k.c1,k.cv,k.nv,k.old.drew,k.size⟩
end Go.Proofs.YtpfgdfpaoldhcaaGreatDoor
namespace Go.Proofs.YtpfgdfpaoldhcaaGreatDoor
open Go.RowKit
def Fact.num (v:Value) (n:Int) (m:Nat):Fact:=.that (fun W=>BigN W v n m) (fun _ _ hb h=>BigN.below h hb)
theorem Held.num {w W:World} {fs:List Fact} (h:Held w fs W) {v:Value} {n:Int} {m:Nat} (hf:BigN W v n m):Held w (.num v n m::fs) W:=h.add (f:=.num v n m) hf
theorem Held.big {w W:World} {fs:List Fact} (h:Held w fs W) (v:Value) (n:Int) (m:Nat) (hm:Fact.num v n m∈fs:=by exact zm):BigN W v n m:=h.all _ hm
end Go.Proofs.YtpfgdfpaoldhcaaGreatDoor
