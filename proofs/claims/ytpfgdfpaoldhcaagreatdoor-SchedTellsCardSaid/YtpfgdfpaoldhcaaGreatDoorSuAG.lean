/- Several texts in one: Quot. -/
import Derived.Test.YtpfgdfpaoldhcaaGreatDoorSuAF
import Derived.Deep.RegionLaw
import Derived.Deep.AppendLies
set_option maxHeartbeats 8000000
set_option maxRecDepth 100000
set_option linter.unusedVariables false
set_option linter.unusedSimpArgs false
namespace Go.Proofs.YtpfgdfpaoldhcaaGreatDoor
open Go.RowKit
structure Dividing (w:World) (B R n:Nat) (va vb:Value) (da:List Int) (y:Int) (mb:Nat) (q:List Int) (vr:Value) (rn:Int) (rm:Nat) (W:World):Prop where
 a:Big W va da
 b:BigN W vb y mb
 own:W.ownsRow (B+4) 3 1 (.slice (some ⟨B+4,0,none⟩) n n) n (q.map (Value.int .i64))
 len:q.length=n
 ra:W.cell? ⟨B,0,none⟩=some va
 rb:W.cell? ⟨B+1,0,none⟩=some vb
 r1:W.cell? ⟨B+2,0,none⟩=some (.slice none 0 0)
 f1:W.frozen? ⟨B+2,0,none⟩=false
 r2:W.cell? ⟨B+3,0,none⟩=some (.slice none 0 0)
 f2:W.frozen? ⟨B+3,0,none⟩=false
 rr:W.cell? ⟨R,0,none⟩=some vr
 fr:W.frozen? ⟨R,0,none⟩=false
 nr:BigN W vr rn rm
 vf:∀g,vr.ownBlock=some g→R<g
 fa:∀g,va.ownBlock=some g→g<B
 fb:∀g,vb.ownBlock=some g→g<B
 hR:B+5≤R
 old:Below B w W
 size:R<W.heap.size
section
variable {w:World} {B R n:Nat} {va vb:Value} {da:List Int} {y:Int} {mb:Nat} {q:List Int} {vr:Value} {rn:Int} {rm:Nat} {W W':World}
theorem Dividing.below (h:Dividing w B R n va vb da y mb q vr rn rm W) (hb:Below W W W'):Dividing w B R n va vb da y mb q vr rn rm W':=
 ⟨h.a.below hb,h.b.below hb,zEt h.own hb,h.len,keep hb (zA0 h.ra) h.ra,keep hb (zA0 h.rb) h.rb,keep hb (zA0 h.r1) h.r1,zA6 hb (zA0 h.r1) h.f1,keep hb (zA0 h.r2) h.r2,zA6 hb (zA0 h.r2) h.f2,
  keep hb (zA0 h.rr) h.rr,zA6 hb (zA0 h.rr) h.fr,h.nr.below hb,h.vf,h.fa,h.fb,h.hR,h.old.trans (hb.mono (by have:=h.size;have:=h.hR;omega)),Nat.lt_of_lt_of_le h.size hb.size⟩
theorem Dividing.drew (h:Dividing w B R n va vb da y mb q vr rn rm W):Dividing w B R n va vb da y mb q vr rn rm W.drew:=
 ⟨h.a,h.b,h.own,h.len,h.ra,h.rb,h.r1,h.f1,h.r2,h.f2,h.rr,h.fr,h.nr,h.vf,h.fa,h.fb,h.hR,h.old.drew,h.size⟩
theorem Dividing.storeQ (h:Dividing w B R n va vb da y mb q vr rn rm W) (k:Nat) (x:Int):Dividing w B R n va vb da y mb (q.set k x) vr rn rm (W.setCell ⟨B+4,k,none⟩ x):=by
 have hR:=h.hR
 have far:∀(p:Addr),p.block≠B+4→(W.setCell ⟨B+4,k,none⟩ x).cell? p=W.cell? p:=fun p hp=>World.cell?_setCell_far _ _ _ _ (by simpa using (Ne.symm hp))
 refine⟨h.a.setCell (fun e=>by have:=h.fa _ e;simp at this;omega) _,h.b.setCell (fun e=>by have:=h.fb _ e;simp at this;omega) _,?_,by simp[h.len],(far _ zs).trans h.ra,(far _ zs).trans h.rb,(far _ zs).trans h.r1,by rw[World.frozen?_setCell];exact h.f1,
  (far _ zs).trans h.r2,by rw[World.frozen?_setCell];exact h.f2,(far _ zx).trans h.rr,by rw[World.frozen?_setCell];exact h.fr,h.nr.setCell (fun e=>by have:=h.vf _ e;simp at this;omega) _,h.vf,h.fa,h.fb,hR,h.old.setCell zs _,by simpa using h.size⟩
 have:=(World.ownsRow.stored h.own k x).1
 rwa [←List.map_set] at this
theorem Dividing.storeR (h:Dividing w B R n va vb da y mb q vr rn rm W) {vr':Value} {rn':Int} {rm':Nat} (hn:BigN W vr' rn' rm') (hv:∀g,vr'.ownBlock=some g→R<g):Dividing w B R n va vb da y mb q vr' rn' rm' (W.setCell ⟨R,0,none⟩ vr'):=by
 have hR:=h.hR
 have far:∀(p:Addr),p.block≠R→(W.setCell ⟨R,0,none⟩ vr').cell? p=W.cell? p:=fun p hp=>World.cell?_setCell_far _ _ _ _ (by simpa using (Ne.symm hp))
 refine⟨h.a.setCell (fun e=>by have:=h.fa _ e;simp at this;omega) _,h.b.setCell (fun e=>by have:=h.fb _ e;simp at this;omega) _,?_,h.len,(far _ zx).trans h.ra,(far _ zx).trans h.rb,(far _ zx).trans h.r1,by rw[World.frozen?_setCell];exact h.f1,
  (far _ zx).trans h.r2,by rw[World.frozen?_setCell];exact h.f2,World.cell?_setCell_same W _ _ h.rr,by rw[World.frozen?_setCell];exact h.fr,hn.setCell (fun e=>by have:=hv _ e;simp at this) _,hv,h.fa,h.fb,hR,h.old.setCell zx _,by simpa using h.size⟩
 obtain⟨o1,o2⟩:=h.own
 refine⟨o1,?_⟩
 rcases o2 with o2 | ⟨g,cap,cur,hv,hg,hh,hr⟩
 ·exact .inl o2
 ·refine .inr ⟨g,cap,cur,hv,hg,?_,hr⟩
  simp only[Value.slice.injEq,Option.some.injEq,Addr.mk.injEq,and_true] at hv
  rw[Below.heap_setCell _ _ _ _ zx]
  exact hh
end
theorem zH9 {w:World} {B:Nat} {va vb:Value} {da:List Int} {y:Int} {mb:Nat} {w1:World} {t:TypeId} (hB:w.heap.size=B) (ha:Big w va da) (hb:BigN w vb y mb) (fa:∀g,va.ownBlock=some g→g<w.heap.size) (fb:∀g,vb.ownBlock=some g→g<w.heap.size)
  (hown:w1.ownsRow (B+4) 3 1 (.slice (some ⟨B+1+1+1+1,0,none⟩) da.length da.length) da.length (madeCells #[(0:Int)] da.length).toList)
  (hg:((((w.alloc (.cells #[va] t)).alloc (.cells #[vb] t)).alloc (.cells #[.slice none 0 0] t)).alloc (.cells #[.slice none 0 0] t)).grownBy w1 none) :
  Dividing w B w1.heap.size da.length va vb da y mb (List.replicate da.length 0) (.slice none 0 0) 0 0 (w1.alloc (.cells #[.slice none 0 0] t)):=by
 have hs:((((w.alloc (.cells #[va] t)).alloc (.cells #[vb] t)).alloc (.cells #[.slice none 0 0] t)).alloc (.cells #[.slice none 0 0] t)).heap.size=B+4:=by simp[hB]
 have hw1:B+5≤w1.heap.size:=by
  have:=(World.ownsRow.lt hown (B+4) (by simp[Value.ownBlock])).2
  omega
 have R:Below (B+4) ((((w.alloc (.cells #[va] t)).alloc (.cells #[vb] t)).alloc (.cells #[.slice none 0 0] t)).alloc (.cells #[.slice none 0 0] t)) w1:=(Below.refl _ _).grown hg zo (fun k hk=>by cases hk)
 have R':Below (B+4) ((((w.alloc (.cells #[va] t)).alloc (.cells #[vb] t)).alloc (.cells #[.slice none 0 0] t)).alloc (.cells #[.slice none 0 0] t)) (w1.alloc (.cells #[.slice none 0 0] t)):=R.alloc zo _
 have far:∀{u:Value} {es:List Int},Big w u es→(∀k,u.ownBlock=some k→k<w.heap.size)→Big (w1.alloc (.cells #[.slice none 0 0] t)) u es:=by
  intro u es hu fu
  obtain⟨h1,h2⟩:=(((hu.alloc (.cells #[va] t)).alloc (.cells #[vb] t)).alloc (.cells #[.slice none 0 0] t)).alloc (.cells #[.slice none 0 0] t)
  refine⟨h1,?_⟩
  rcases h2 with h2 | ⟨g,cap,cur,hv,hgg,hh,hr⟩
  ·exact .inl h2
  ·have:=fu g (by rw[hv];rfl)
   exact .inr ⟨g,cap,cur,hv,hgg,by rw[R'.block g zo];exact hh,hr⟩
 obtain⟨db,b1,b2,b3,b4⟩:=hb
 refine⟨far ha fa,⟨db,far b1 fb,b2,b3,b4⟩,?_,zs,(R'.cell (p:=⟨B,0,none⟩) zs).trans (by simp[←hB,go_sem]),(R'.cell (p:=⟨B+1,0,none⟩) zs).trans (by simp[←hB,go_sem]),(R'.cell (p:=⟨B+2,0,none⟩) zs).trans (by simp[←hB,go_sem]),(R'.frozen (p:=⟨B+2,0,none⟩) zs).trans (by simp[←hB,go_sem]),
  (R'.cell (p:=⟨B+3,0,none⟩) zs).trans (by simp[←hB,go_sem]),(R'.frozen (p:=⟨B+3,0,none⟩) zs).trans (by simp[←hB,go_sem]),zn,by simp[go_sem],BigN.nil _,fun g hg=>by simp[Value.ownBlock] at hg,fun g hg=>hB▸fa g hg,fun g hg=>hB▸fb g hg,hw1,?_,zs⟩
 ·have:=hown.alloc (.cells #[.slice none 0 0] t)
  rw[toList_madeCells_one] at this
  rw[List.map_replicate]
  exact this
 ·refine Below.trans ?_ (R'.mono zo)
  rw[←hB]
  exact ((((Below.refl _ _).alloc (Nat.le_refl _) _).alloc zs _).alloc zw _).alloc zw _
theorem zHd {w:World} {i0:TypeInfo} (hi:Tryz.prog.info? 3=some i0) (hz0:i0.zero=some (.int .i64 0)) (hz1:i0.size=1) (hz2:i0.bytes=8) (ty:TypeId) (base:Nat) (v:Value) (n:Nat) (xs:List Value) (hown:w.ownsRow base 3 1 v n xs)
    (s:Value) (ds:List Int) (hs:Big w s ds) (h63:n+ds.length≤maxLen) (hb:(n+ds.length)*8≤140737488355328) (hbase:base≤w.heap.size) :
    ∃v' w',(Builtin.append_ #[26,26] ty #[v,s]).run Tryz.prog w=.ok v' w'∧w'.ownsRow base 3 1 v' (n+ds.length) (xs++ds.map (Value.int .i64))∧w.grownBy w' v.ownBlock:=by
  rcases hs.form with⟨rfl,rfl⟩ | ⟨g,cap,rfl,hg,hm,hc⟩
  · exact⟨v,w,run_append_owned_none (P:=Tryz.prog) w base 26 ty 3 i0 1 Tryz.underlying26 hi v n xs hown,by simpa using hown,World.grownBy.refl _ _⟩
  · obtain ⟨v',w',hr,h2,h3,_⟩:=run_append_own_at (P:=Tryz.prog) w base 26 ty 3 i0 (0:Int) 1 8 Tryz.underlying26 hi hz0 hz1 hz2 rfl zd v n xs hown ⟨g,0,none⟩ ds.length cap (ds.map (Value.int .i64)) zs (fun j u hj=>by
        have hlt:j<ds.length:=by have:=(List.getElem?_eq_some_iff.1 hj).1;simpa using this
        have e:((⟨g,0,none⟩:Addr).add j)=⟨g,j,none⟩:=by unfold Addr.add;split <;> simp_all
        rw[e,hc j hlt]
        rw[List.getElem?_map,List.getElem?_eq_getElem hlt] at hj
        simp at hj
        subst hj
        simp[List.getD,List.getElem?_eq_getElem hlt]) (fun u hu=>by obtain⟨d,_,rfl⟩:=List.mem_map.1 hu;rfl) h63 hb hbase
    exact⟨v',w',hr,h2,h3⟩
theorem zDl {w:World} {i0:TypeInfo} {ops:Array Oper} {o:Oper} {a:Act} {K:Act→World→Prop} {Q:Exit→Act→World→Prop} {E:Prop} (hgd:o.guard=none) (so xo:Operand)
  (ho:o.op=.call { callee:=.builtin .append,args:=#[so,xo],argTypes:=#[26,26] })
  (hi:Tryz.prog.info? 3=some i0) (hz0:i0.zero=some (.int .i64 0)) (hz1:i0.size=1) (hz2:i0.bytes=8) (base:Nat) (v:Value) (n:Nat) (xs:List Value) (hv:a.eval so=v) (hown:w.ownsRow base 3 1 v n xs)
  (s:Value) (ds:List Int) (hx:a.eval xo=s) (hs:Big w s ds) (h63:n+ds.length≤maxLen) (hb:(n+ds.length)*8≤140737488355328) (hbase:base≤w.heap.size)
  (h:∀v' w',w'.ownsRow base 3 1 v' (n+ds.length) (xs++ds.map (Value.int .i64))→w.grownBy w' v.ownBlock→K (a.put o.dst v') w') :
  if Region.wanted o (yielded ops a.tmps)=true then Oper.wp Tryz.prog o a w K Q else E:=by
 have hw:Region.wanted o (yielded ops a.tmps)=true:=by simp[Region.wanted,hgd]
 rw[if_pos hw]
 obtain⟨v',w',hr,h2,h3⟩:=zHd hi hz0 hz1 hz2 o.type base v n xs hown s ds hs h63 hb hbase
 unfold Oper.wp execOp
 simp only[ho,resolve,invoke,builtin,Sem.run_bind,Sem.run_pure,Result.andThen_ok,List.map_toArray,List.map_cons,List.map_nil,hv,hx,hr]
 exact h v' w' h2 h3
theorem zJe {w w2:World} {x:Int} (hg:(w.drew.alloc (.cells #[x] 3)).grownBy w2 (Value.slice (some ⟨w,0,none⟩) 1 1).ownBlock):Below w w w2:=
 (((Below.refl w.heap.size w).drew).alloc (Nat.le_refl _) _).grown hg zs (fun k hk=>by simp[Value.ownBlock] at hk;omega)
theorem zKh {w2:World} {base:Nat} {v2:Value} {x r:Int} {dr:List Int} {m:Nat} (hown:w2.ownsRow base 3 1 v2 (1+dr.length) ([.int .i64 x]++dr.map (Value.int .i64))) (x0:0≤x) (x1:x≤9999) (hd:Dig dr) (hv:bv dr=r) (hl:dr.length≤m) (hm:m≤90000) :
  Calls Tryz.prog 57 #[v2] w2 (zEh (x+10000*r) (m+1) w2):=by
 have hb:Big w2 v2 (x::dr):=by
  have:=World.ownsRow.mono hown (Nat.zero_le _)
  unfold Big
  rw[List.length_cons,Nat.add_comm]
  exact this
 refine (zG4 v2 (x::dr) w2 hb (dig_cons hd x0 x1) zx).mono fun _ _ h=>zEb h fun es he=>?_
 rw[zC8,hv] at he
 exact⟨he.1,by have:=he.2.1;simp at this;omega,he.2.2⟩
section
variable {w:World} {B R n:Nat} {va vb:Value} {da:List Int} {y:Int} {mb:Nat} {q:List Int} {vr:Value} {rn:Int} {rm:Nat} {W:World}
theorem zEl (h:W.cell? ⟨B+1,0,none⟩=some vb∧W.cell? ⟨R,0,none⟩=some vr∧Dividing w B R n va vb da y mb q vr rn rm W):Dividing w B R n va vb da y mb q vr rn rm W:=h.2.2
theorem zHl (h:Dividing w B R n va vb da y mb q vr rn rm W):W.cell? ⟨B+1,0,none⟩=some vb∧W.cell? ⟨R,0,none⟩=some vr∧Dividing w B R n va vb da y mb q vr rn rm W:=⟨h.rb,h.rr,h⟩
theorem Dividing.cellQ (h:Dividing w B R n va vb da y mb q vr rn rm W) {k:Nat} (hk:k<n):W.cell? ⟨B+4,k,none⟩=some (.int .i64 (q.getD k 0)):=by
 rw[World.ownsRow.cellAt h.own k zo]
 simp[List.getD,List.getElem?_eq_getElem (show k<q.length by rw[h.len];exact hk)]
end
theorem cmp_le {x y:Int} (h:cmpI x y≤0):x≤y:=by
 by_cases e:x≤y
 ·exact e
 ·rw[zF5 zo] at h;omega
theorem cmp_gt {x y:Int} (h:¬cmpI x y≤0):y<x:=by
 by_cases e:y<x
 ·exact e
 ·exfalso
  by_cases e2:x=y
  ·rw[zQh e2] at h;omega
  ·rw[zQi zo] at h;omega
structure Ended (w:World) (B R n:Nat) (q:List Int) (u1 u2 vr:Value) (r:Int) (m:Nat) (W:World):Prop where
 own:W.ownsRow (B+4) 3 1 (.slice (some ⟨B+4,0,none⟩) n n) n (q.map (Value.int .i64))
 len:q.length=n
 c1:W.cell? ⟨B+2,0,none⟩=some u1
 f1:W.frozen? ⟨B+2,0,none⟩=false
 c2:W.cell? ⟨B+3,0,none⟩=some u2
 f2:W.frozen? ⟨B+3,0,none⟩=false
 cr:W.cell? ⟨R,0,none⟩=some vr
 nr:BigN W vr r m
 vf:∀g,vr.ownBlock=some g→B+4<g
 hR:B+5≤R
 old:Below B w W
 size:B+4<W.heap.size
section
variable {w:World} {B R n:Nat} {q:List Int} {u1 u2 vr:Value} {r:Int} {m:Nat} {W W':World}
theorem Ended.below (h:Ended w B R n q u1 u2 vr r m W) (hb:Below W W W'):Ended w B R n q u1 u2 vr r m W':=
 ⟨zEt h.own hb,h.len,keep hb (zA0 h.c1) h.c1,zA6 hb (zA0 h.c1) h.f1,keep hb (zA0 h.c2) h.c2,zA6 hb (zA0 h.c2) h.f2,keep hb (zA0 h.cr) h.cr,h.nr.below hb,h.vf,h.hR,h.old.trans (hb.mono (by have:=h.size;omega)),Nat.lt_of_lt_of_le h.size hb.size⟩
theorem Ended.set2 (h:Ended w B R n q u1 u2 vr r m W) (u:Value):Ended w B R n q u1 u vr r m (W.setCell ⟨B+3,0,none⟩ u):=by
 have hR:=h.hR
 exact⟨ownsRow_setCell_below h.own zs _,h.len,(World.cell?_setCell_far _ _ _ _ zs).trans h.c1,by rw[World.frozen?_setCell];exact h.f1,World.cell?_setCell_same W _ _ h.c2,by rw[World.frozen?_setCell];exact h.f2,(World.cell?_setCell_far _ _ _ _ zx).trans h.cr,h.nr.setCell (fun e=>by have:=h.vf _ e;simp at this) _,h.vf,hR,h.old.setCell zs _,by simpa using h.size⟩
theorem Ended.set1 (h:Ended w B R n q u1 u2 vr r m W) (u:Value):Ended w B R n q u u2 vr r m (W.setCell ⟨B+2,0,none⟩ u):=by
 have hR:=h.hR
 exact⟨ownsRow_setCell_below h.own zs _,h.len,World.cell?_setCell_same W _ _ h.c1,by rw[World.frozen?_setCell];exact h.f1,(World.cell?_setCell_far _ _ _ _ zs).trans h.c2,by rw[World.frozen?_setCell];exact h.f2,(World.cell?_setCell_far _ _ _ _ zx).trans h.cr,h.nr.setCell (fun e=>by have:=h.vf _ e;simp at this) _,h.vf,hR,h.old.setCell zs _,by simpa using h.size⟩
theorem trim_n (h:Ended w B R n q u1 u2 vr r m W) (hd:Dig q) (hn:n≤90000):Calls Tryz.prog 57 #[.slice (some ⟨B+4,0,none⟩) n n] W (zEh (bv q) n W):=by
 have hb:Big W (.slice (some ⟨B+4,0,none⟩) n n) q:=by
  unfold Big
  rw[h.len]
  exact World.ownsRow.mono h.own (Nat.zero_le _)
 exact (zG4 _ q W hb hd (by rw[h.len];omega)).mono fun _ _ h'=>zEb h' fun es he=>⟨he.1,by have:=h.len;omega,he.2.2⟩
theorem zKx {va vb:Value} {da:List Int} {y:Int} {mb:Nat} (h:Dividing w B R n va vb da y mb q vr r m W):Ended w B R n q (.slice none 0 0) (.slice none 0 0) vr r m W:=
 ⟨h.own,h.len,h.r1,h.f1,h.r2,h.f2,h.rr,h.nr,fun g hg=>by have:=h.vf g hg;have:=h.hR;omega,h.hR,h.old,by have:=h.size;have:=h.hR;omega⟩
end
theorem zQw {W W':World} {B:Nat} {a:Option Addr} {k c:Nat} {n:Int} {m:Nat} (h:BigN W' (.slice a k c) n m) (hf:∀g,(Value.slice a k c).ownBlock=some g→W.heap.size≤g) (hs:B+4<W.heap.size) (u:Value) :
  BigN ((W'.setCell ⟨B+2,0,none⟩ (.slice a k c)).setCell ⟨B+3,0,none⟩ u) (.slice a k c) n m:=
 zAz (B:=B+4) (zAz (B:=B+4) h (fun g hg=>by have:=hf g hg;omega) zs) (fun g hg=>by have:=hf g hg;omega) zs
def zJ0 (x y:Int) (m:Nat) (w:World) (e:Ending) (w':World):Prop:=
 ∃a k c a2 k2 c2,e=.returned (.tuple #[.agg #[.slice a k c],.agg #[.slice a2 k2 c2]])∧BigN w' (.slice a k c) (x/y) m∧BigN w' (.slice a2 k2 c2) (x%y) m ∧
  (∀g,(Value.slice a k c).ownBlock=some g→w.heap.size≤g)∧(∀g,(Value.slice a2 k2 c2).ownBlock=some g→w.heap.size≤g)∧Below w w w'
def QuotOut (w:World) (B R n:Nat) (va vb:Value) (da:List Int) (y:Int) (mb:Nat) (i:Value) (wr:World):Prop:=
 ∃(k:Nat) (q:List Int) (ra:Option Addr) (rk rc:Nat) (r:Int),i=.int .i64 ((k:Int)-1)∧k≤n∧Dig q∧zIz da q y k r∧Dividing w B R n va vb da y mb q (.slice ra rk rc) r (n-k) wr
def QuotIn (w:World) (B R n:Nat) (va vb:Value) (da:List Int) (y:Int) (mb:Nat) (q:List Int) (vr:Value) (r:Int) (m:Nat) (lo hi:Value) (wr:World):Prop:=
 ∃(l h:Int),lo=.int .i64 l∧hi=.int .i64 h∧0≤l∧l<h∧h≤10000∧y*l≤r∧r<y*h∧Dividing w B R n va vb da y mb q vr r m wr
theorem quotB (va:Value) (da:List Int) (ba:Option Addr) (bk bc:Nat) (y:Int) (mb:Nat) (w:World) (ha:Big w va da) (hb:BigN w (.slice ba bk bc) y mb) (hda:Dig da) (la:da.length≤30000) (lb:mb≤30000) (hy:0<y) :
  Calls Tryz.prog 63 #[.agg #[va],.agg #[.slice ba bk bc]] w (zJ0 (bv da) y da.length w):=by
 obtain⟨i0,hi,hz0,hz1,hz2⟩:=info_parts zFa
 have FA:=zh ha.old
 have FB:=zh hb.old
 obtain⟨aa,ac,ea⟩:=ha.slice
 have HA:=zh hda
 have KA:=zh ha
 have KB:=zh hb
 clear hda ha hb
 subst ea
 obtain⟨B,hB⟩:∃B,w.heap.size=B:=⟨_,rfl⟩
 go_enter Tryz.func63,Tryz.ntmps63
 go_wp2_with (first | (at_make;refine wpList_make_full _ rfl _ _ 26 rfl (B+4) 3 i0 (0:Int) 1 Tryz.underlying26 hi hz0 hz1 _ _ _ _ da.length rfl rfl ?c1 ?c2 ?c3 ?c4 ?c5 ?_) | go_in)
 case c1=>first | rfl | omega | (simp;omega)
 case c2=>first | rfl | omega | (simp;omega)
 case c3=>rw[hz2];omega
 case c4=>unfold maxLen;omega
 case c5=>simp[hB]
 intro w1 hown hgrow
 have D0:=zh (zH9 (t:=68) hB KA.out KB.out FA.out FB.out hown hgrow)
 have hs1:B+5≤w1.heap.size:=by
  have:=(World.ownsRow.lt hown (B+4) (by simp[Value.ownBlock])).2
  omega
 have ra1:=D0.out.ra
 have rb1:=D0.out.rb
 clear hown hgrow
 go_wp2
 clear ra1 rb1
 obtain⟨R,hR⟩:∃R,w1.heap.size=R:=⟨_,rfl⟩
 rw[hR] at D0 hs1 ⊢
 go_loopw [8] (fun i wr=>QuotOut w B R da.length (.slice aa da.length ac) (.slice ba bk bc) da y mb i wr) (fun i _=>(intOf i+1).toNat)
 case atStart=>exact⟨da.length,List.replicate da.length 0,none,0,0,0,rfl,Nat.le_refl _,zGj _,zOj hy zs,by rw[Nat.sub_self];exact D0.out⟩
 case round=>
  obtain⟨k,q,ra,rk,rc,r,rfl,hk,hdq,hq,G⟩:=hrel
  have HQ:=zh hq
  have HDq:=zh hdq
  have GG:=zh G
  clear hq hdq G
  by_cases hk0:k=0
  ·subst hk0
   have EN:=zh (zKx GG.out.drew)
   have hbg:Hid (bv q=bv da/y∧r=bv da%y):=zh (zSf HQ.out)
   have rr:=GG.out.rr
   have ll:=GG.out.len
   have LL:=zh ll
   have c1:=GG.out.r1
   have c2:=GG.out.r2
   have f1:=GG.out.f1
   have f2:=GG.out.f2
   have hRR:=GG.out.hR
   clear ll
   go_wp2_with fail
   go_region_with (go_at_call 57;(with_reducible refine (trim_n EN.out HDq.out zo).mono ?_);rintro e w' ⟨ta,tk,tc,rfl,NT,FT,hb⟩;have E2:=zh (EN.out.below hb);have F2:=zh (zQw NT FT EN.out.size (.slice ra rk rc));have F3:=zh (fun g hg=>show B≤g from Nat.le_trans (Nat.le_trans (Nat.le_add_right B 4) (Nat.le_of_lt EN.out.size)) (FT g hg));have c3:=E2.out.c1;have c4:=E2.out.c2;have f3:=E2.out.f1;have f4:=E2.out.f2;have rr2:=E2.out.cr;clear hb NT FT)
   all_goals
    have FIN:=zh ((E2.out.set1 (.slice ta tk tc)).set2 (.slice ra rk rc))
    go_wp2
    refine bodyPost_ret (v:=.tuple #[.agg #[.slice ta tk tc],.agg #[.slice ra rk rc]]) (by simp[results,Tryz.results63,go_sem,c3,c4]) rfl ⟨_,_,_,_,_,_,rfl,?_,?_,?_,?_,?_⟩
    ·rw[←hbg.out.1];exact F2.out
    ·rw[←hbg.out.2];exact FIN.out.nr
    ·rw[hB];exact F3.out
    ·rw[hB];exact fun g hg=>by have:=FIN.out.vf g hg;omega
    ·rw[hB];exact FIN.out.old
  ·obtain⟨j,rfl⟩:∃j,k=j+1:=⟨k-1,zo⟩
   have hjl:j<da.length:=zo
   obtain⟨ga,oa,eaa,hcell⟩:=GG.out.a.cell hjl
   simp only[Value.slice.injEq,true_and] at eaa
   obtain⟨rfl,rfl⟩:=eaa
   have xb:=zB4 HA.out j
   obtain⟨x,EX⟩:∃x,Hid (da.getD j 0=x):=⟨_,zh rfl⟩
   rw[EX.out] at xb hcell
   obtain⟨x0,x1⟩:=xb
   have rr:=GG.out.rr
   have r_a:=GG.out.ra
   have e1:((j+1:Nat):Int)-1=(j:Int):=zo
   rw[e1]
   clear e1
   obtain⟨dr,hbr,hdr,hvr,hlr,-⟩:=GG.out.nr
   have HVR:=zh (And.intro hdr (And.intro hvr hlr))
   clear hdr hvr
   have hlr2:dr.length≤30000:=zo
   clear hlr
   have D1:=zh GG.out.drew
   have HBR:=zh (hbr.alloc (w:=wr.drew) (.cells #[.int .i64 x] 3))
   clear hbr
   have hsz:=GG.out.size
   have hRB:=GG.out.hR
   have hga:ga<B:=GG.out.fa ga rfl
   go_upto_region 6 with (fail)
   go_cut [] (fun wx=>∃sa sk sc,Dividing w B R da.length (.slice (some ⟨ga,0,none⟩) da.length ac) (.slice ba bk bc) da y mb q (.slice sa sk sc) (x+10000*r) (da.length-j) wx)
   case first=>
    refine wp_region_held_drew (S:=fun w'=>w'.cell? ⟨B,0,none⟩=some (.slice (some ⟨ga,0,none⟩) da.length ac)∧w'.cell? ⟨ga,j,none⟩=some (.int .i64 x)) zk ⟨r_a,hcell⟩ (fun hHeld=>?_)
    refine zT 0 ?_
    go_frame
    refine zT 1 ?_
    go_frame
    refine zT 2 ?_
    go_frame
    refine zT 3 ?_
    go_frame
    refine zT 4 ?_
    go_frame
    refine zT 6 ?_
    go_frame
    refine wpAnyH_ready (rs:=[5,7]) zk zs ?_
    refine AllReadyH.cons (o:=⟨some 30,_,_,_,_,_⟩) rfl (fun K hK=>?_) ?_
    ·go_simp
     refine hK.out _ _ ⟨zC6 r_a (zA0 r_a),zC6 hcell (zA0 hcell)⟩ (fun hNew=>?_)
     clear hK K hHeld
     have hHeld:=hNew
     clear hNew
     try go_frame
     refine wpAnyH_ready (rs:=[7]) zk zs ?_
     refine AllReadyH.cons (o:=⟨some 32,_,_,_,_,_⟩) rfl (fun K hK=>?_) AllReadyH.nil
     go_simp
     refine hK.out _ _ za (fun hNew=>?_)
     clear hK K hHeld
     have hHeld:=hNew
     clear hNew
     try go_frame
     refine wpAnyH_ready (rs:=[8]) zk zs ?_
     refine AllReadyH.cons (o:=⟨some 33,_,_,_,_,_⟩) rfl (fun K hK=>?_) AllReadyH.nil
     refine zDl zr (.tmp 30) (.tmp 32) zr hi hz0 hz1 hz2 wr.heap.size (.slice (some ⟨wr,0,none⟩) 1 1) 1 [.int .i64 x] zr (World.ownsRow_lit wr.drew #[.int .i64 x] 1 (Nat.le_refl _) (by unfold maxLen;omega) rfl) (.slice ra rk rc) dr zr HBR.out (by unfold maxLen;omega) zo zs ?_
     intro v2 w2 hown2 hgrow2
     have BG:=zJe hgrow2
     refine hK.out _ _ ⟨keep BG (zA0 r_a) r_a,keep BG (zA0 hcell) hcell⟩ (fun hNew=>?_)
     clear hK K hHeld
     have hHeld:=hNew
     clear hNew
     try go_frame
     refine wpAnyH_ready (rs:=[9]) zk zs ?_
     refine AllReadyH.cons (o:=⟨some 34,_,_,_,_,_⟩) rfl (fun K hK=>?_) AllReadyH.nil
     go_simp
     with_reducible refine (zKh hown2 x0 x1 HVR.out.1 HVR.out.2.1 HVR.out.2.2 zo).mono ?_
     rintro e w3 ⟨sa,sk,sc,rfl,NS,FS,hb3⟩
     have D2:=GG.out.below BG
     have D3:=D2.below hb3
     have rr3:=D3.rr
     have fr3:=D3.fr
     have FIN:=zh (D3.storeR (NS.more (show da.length-(j+1)+1≤da.length-j by omega)) (fun g hg=>Nat.lt_of_lt_of_le D2.size (FS g hg)))
     have SS:=zh hHeld
     have HB3:=zh hb3
     clear hown2 hgrow2 BG NS FS hb3 D2 D3
     go_wp2_with fail
     refine hK.out _ _ ⟨keep HB3.out (zA0 SS.out.1) SS.out.1,keep HB3.out (zA0 SS.out.2) SS.out.2⟩ (fun hNew=>?_)
     clear hK K hHeld
     have hHeld:=hNew
     clear hNew
     try go_frame
     have HH:=zh hHeld
     refine wpAnyH_ready (rs:=[10]) zk zs ?_
     refine AllReadyH.cons (o:=⟨none,_,_,_,_,_⟩) rfl (fun K hK=>?_) AllReadyH.nil
     go_simp
     refine hK.out _ _ ⟨(World.cell?_setCell_far _ _ _ _ zx).trans HH.out.1,(World.cell?_setCell_far _ _ _ _ zx).trans HH.out.2⟩ (fun hNew=>?_)
     clear hK K hHeld
     have hHeld:=hNew
     clear hNew
     try go_frame
     refine wpAnyH_done zk ?_ _
     clear hHeld
     go_wp2
     go_meet
     exact⟨sa,sk,sc,FIN.out⟩
    refine AllReadyH.cons (o:=⟨some 32,_,_,_,_,_⟩) rfl (fun K hK=>?_) AllReadyH.nil
    go_simp
    refine hK.out _ _ za (fun hNew=>?_)
    clear hK K hHeld
    have hHeld:=hNew
    clear hNew
    try go_frame
    refine wpAnyH_ready (rs:=[5]) zk zs ?_
    refine AllReadyH.cons (o:=⟨some 30,_,_,_,_,_⟩) rfl (fun K hK=>?_) AllReadyH.nil
    go_simp
    refine hK.out _ _ ⟨zC6 r_a (zA0 r_a),zC6 hcell (zA0 hcell)⟩ (fun hNew=>?_)
    clear hK K hHeld
    have hHeld:=hNew
    clear hNew
    try go_frame
    refine wpAnyH_ready (rs:=[8]) zk zs ?_
    refine AllReadyH.cons (o:=⟨some 33,_,_,_,_,_⟩) rfl (fun K hK=>?_) AllReadyH.nil
    refine zDl zr (.tmp 30) (.tmp 32) zr hi hz0 hz1 hz2 wr.heap.size (.slice (some ⟨wr,0,none⟩) 1 1) 1 [.int .i64 x] zr (World.ownsRow_lit wr.drew #[.int .i64 x] 1 (Nat.le_refl _) (by unfold maxLen;omega) rfl) (.slice ra rk rc) dr zr HBR.out (by unfold maxLen;omega) zo zs ?_
    intro v2 w2 hown2 hgrow2
    have BG:=zJe hgrow2
    refine hK.out _ _ ⟨keep BG (zA0 r_a) r_a,keep BG (zA0 hcell) hcell⟩ (fun hNew=>?_)
    clear hK K hHeld
    have hHeld:=hNew
    clear hNew
    try go_frame
    refine wpAnyH_ready (rs:=[9]) zk zs ?_
    refine AllReadyH.cons (o:=⟨some 34,_,_,_,_,_⟩) rfl (fun K hK=>?_) AllReadyH.nil
    go_simp
    with_reducible refine (zKh hown2 x0 x1 HVR.out.1 HVR.out.2.1 HVR.out.2.2 zo).mono ?_
    rintro e w3 ⟨sa,sk,sc,rfl,NS,FS,hb3⟩
    have D2:=GG.out.below BG
    have D3:=D2.below hb3
    have rr3:=D3.rr
    have fr3:=D3.fr
    have FIN:=zh (D3.storeR (NS.more (show da.length-(j+1)+1≤da.length-j by omega)) (fun g hg=>Nat.lt_of_lt_of_le D2.size (FS g hg)))
    have SS:=zh hHeld
    have HB3:=zh hb3
    clear hown2 hgrow2 BG NS FS hb3 D2 D3
    go_wp2_with fail
    refine hK.out _ _ ⟨keep HB3.out (zA0 SS.out.1) SS.out.1,keep HB3.out (zA0 SS.out.2) SS.out.2⟩ (fun hNew=>?_)
    clear hK K hHeld
    have hHeld:=hNew
    clear hNew
    try go_frame
    have HH:=zh hHeld
    refine wpAnyH_ready (rs:=[10]) zk zs ?_
    refine AllReadyH.cons (o:=⟨none,_,_,_,_,_⟩) rfl (fun K hK=>?_) AllReadyH.nil
    go_simp
    refine hK.out _ _ ⟨(World.cell?_setCell_far _ _ _ _ zx).trans HH.out.1,(World.cell?_setCell_far _ _ _ _ zx).trans HH.out.2⟩ (fun hNew=>?_)
    clear hK K hHeld
    have hHeld:=hNew
    clear hNew
    try go_frame
    refine wpAnyH_done zk ?_ _
    clear hHeld
    go_wp2
    go_meet
    exact⟨sa,sk,sc,FIN.out⟩
   case rest=>
    obtain⟨sa,sk,sc,G1⟩:=hcut
    have rb0:=HQ.out.2.1
    have rb1:=HQ.out.2.2
    have T1:=zh (zOi x1 rb1)
    obtain⟨r1,HR1⟩:∃r1,Hid (x+10000*r=r1):=⟨_,zh rfl⟩
    rw[HR1.out] at G1 T1
    have T0:Hid (y*0≤r1):=zh (by have:=HR1.out;omega)
    have r10:0≤r1:=by have:=HR1.out;omega
    have GG1:=zh G1
    clear G1 GG HBR D1 HVR rr r_a hcell rb0 rb1
    go_wp2
    go_loopw [9,10,11] (fun lo hi _ wr=>QuotIn w B R da.length (.slice (some ⟨ga,0,none⟩) da.length ac) (.slice ba bk bc) da y mb q (.slice sa sk sc) r1 (da.length-j) lo hi wr) (fun lo hi _ _=>(intOf hi-intOf lo).toNat)
    case atStart=>exact⟨0,10000,rfl,rfl,zd,zd,zd,T0.out,T1.out,GG1.out⟩
    case round=>
     obtain⟨l,h,rfl,rfl,l0,lh,h1,L1,L2,G2⟩:=hrel
     have HL:=zh (And.intro L1 L2)
     have GG2:=zh G2
     clear L1 L2 G2
     by_cases hgo:1<h-l
     ·go_wp2_with fail
      obtain⟨mid,hmid⟩:∃mid,(l+h)/2=mid:=⟨_,rfl⟩
      rw[hmid]
      have m1:l<mid:=zo
      have m2:mid<h:=zo
      have m3:0≤mid:=zo
      clear hmid
      have HS:=zh (zHl GG2.out.drew)
      obtain⟨c,HC⟩:∃c,Hid (cmpI (y*mid) r1=c):=⟨_,zh rfl⟩
      go_region_held3 (fun w'=>w'.cell? ⟨B+1,0,none⟩=some (.slice ba bk bc)∧w'.cell? ⟨R,0,none⟩=some (.slice sa sk sc)∧Dividing w B R da.length (.slice (some ⟨ga,0,none⟩) da.length ac) (.slice ba bk bc) da y mb q (.slice sa sk sc) r1 (da.length-j) w')
       (first | exact HS.out | (refine zHl (Dividing.below (zEl ?_) hb);assumption))
       (first
        | (go_at_call 33;(with_reducible refine (zCb mid _ zo zo).mono ?_);rintro e w' ⟨fa,fk,fc,rfl,NF,-,hb⟩)
        | (go_at_call 32;(with_reducible refine (zEu (.slice ba bk bc) (.slice fa fk fc) y mid mb 5 _ (Dividing.b (zEl za)) NF zo zo).mono ?_);rintro e w' ⟨pa,pk,pc,rfl,NP,-,hb⟩)
        | (go_at_call 34;(with_reducible refine (zH8 (.slice pa pk pc) (.slice sa sk sc) (y*mid) r1 (mb+5+1) (da.length-j) _ NP (Dividing.nr (zEl za)) zo zo).mono ?_);rw[HC.out];rintro e w' ⟨rfl,hb⟩))
      have G3:=zh (zEl za)
      by_cases hc:c≤0
      ·have L3:Hid (y*mid≤r1):=zh (cmp_le (by rw[HC.out];exact hc))
       go_wp2
       go_roundw
       case rel=>exact⟨mid,h,rfl,rfl,m3,m2,h1,L3.out,HL.out.2,G3.out⟩
       case measure=>simp[intOf];omega
      ·have L3:Hid (r1<y*mid):=zh (cmp_gt (by rw[HC.out];exact hc))
       go_wp2
       go_roundw
       case rel=>exact⟨l,mid,rfl,rfl,l0,m1,zo,HL.out.1,L3.out,G3.out⟩
       case measure=>simp[intOf];omega
     ·have hh:h=l+1:=zo
      have ST:=zh (zSg HQ.out hjl (by rw[GG2.out.len]) (by rw[EX.out,HR1.out];exact HL.out.1) (by rw[EX.out,HR1.out,←hh];exact HL.out.2))
      rw[EX.out,HR1.out] at ST
      clear hh
      have fz:=World.ownsRow.frozenAt GG2.out.own j
      have cq:=(GG2.out.cellQ hjl)
      go_upto_region 15 with (fail)
      have G5:=(GG2.out.storeQ j l)
      generalize wr.setCell ⟨B+4,j,none⟩ l=W5 at G5 ⊢
      have HLE:=zh HL.out.1
      clear fz cq GG2 HL
      have rb5:=G5.rb
      have rr5:=G5.rr
      replace G5:=zh G5.drew
      go_region_with (first
       | (go_at_call 33;(with_reducible refine (zCb l _ zo zo).mono ?_);rintro e w' ⟨fa,fk,fc,rfl,NF,-,hb⟩;replace G5:=zh (G5.out.below hb);have rb6:=G5.out.rb;have rr6:=G5.out.rr;clear hb)
       | (go_at_call 32;(with_reducible refine (zEu (.slice ba bk bc) (.slice fa fk fc) y l mb 5 _ G5.out.b NF zo zo).mono ?_);rintro e w' ⟨pa,pk,pc,rfl,NP,-,hb⟩;replace G5:=zh (G5.out.below hb);have rr7:=G5.out.rr;clear hb NF)
       | (go_at_call 83;(with_reducible refine (less_n (.slice sa sk sc) (.slice pa pk pc) r1 (y*l) (da.length-j) (mb+5+1) _ G5.out.nr NP zo HLE.out).mono ?_);rintro e w' ⟨ta,tk,tc,rfl,NT,FT,hb⟩;have G6:=G5.out.below hb;have rr8:=G6.rr;have fr8:=G6.fr;have FIN:=zh (G6.storeR NT (fun g hg=>Nat.lt_of_lt_of_le G5.out.size (FT g hg)));clear hb NP NT FT G6))
      all_goals
       go_wp2
       go_roundw
       case rel=>exact⟨j,q.set j l,ta,tk,tc,r1-y*l,rfl,zo,zQq HDq.out _ l0 zo,ST.out,FIN.out⟩
       case measure=>simp[intOf]
theorem zGw (va:Value) (ba:Option Addr) (bk bc:Nat) (x y:Int) (a b:Nat) (w:World) (ha:BigN w va x a) (hb:BigN w (.slice ba bk bc) y b) (la:a≤30000) (lb:b≤30000) (hy:0<y) :
  Calls Tryz.prog 63 #[.agg #[va],.agg #[.slice ba bk bc]] w (zJ0 x y a w):=by
 obtain⟨da,a1,a2,rfl,a4⟩:=ha
 refine (quotB va da ba bk bc y b w a1 hb a2 zo lb hy).mono fun _ _ h=>?_
 obtain⟨a,k,c,a2,k2,c2,h1,h2,h3,h4,h5,h6⟩:=h
 exact⟨a,k,c,a2,k2,c2,h1,h2.more a4.1,h3.more a4.1,h4,h5,h6⟩
end Go.Proofs.YtpfgdfpaoldhcaaGreatDoor
