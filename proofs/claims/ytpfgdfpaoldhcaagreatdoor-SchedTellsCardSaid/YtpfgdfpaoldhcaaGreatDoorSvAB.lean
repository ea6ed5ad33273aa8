/- Several texts in one: ScLawNum. -/
import Derived.Test.YtpfgdfpaoldhcaaGreatDoorSvAA
set_option maxHeartbeats 8000000
set_option maxRecDepth 100000
set_option linter.unusedVariables false
set_option linter.unusedSimpArgs false
namespace Go.Proofs.YtpfgdfpaoldhcaaGreatDoor
open Go.RowKit
structure Tm.Like (s t:Tm):Prop where
 co:s.co=t.co
 st:s.st=t.st
 en:s.en=t.en
 ms:s.ms=t.ms
 bk:s.bk=t.bk
 lg:s.lg=t.lg
 eo:s.eo=t.eo
theorem Tm.Like.dd {s t:Tm} (h:s.Like t) (X:Nat→Int) (q i:Nat):s.dd X q i=t.dd X q i:=by unfold Tm.dd;rw[h.bk,h.st,h.en]
theorem Tm.Like.grid {s t:Tm} (h:s.Like t) (X:Nat→Int) (K:Nat):s.grid X K=t.grid X K:=by unfold Tm.grid;rw[h.bk]
theorem Tm.Like.q {s t:Tm} (h:s.Like t) (X E:Nat→Int) (m:Nat):s.q X E m=t.q X E m:=by unfold Tm.q Tm.ot;rw[h.lg,h.bk,h.st,h.en]
theorem Tm.Like.walk {s t:Tm} (h:s.Like t) {X E:Nat→Int} {m:Nat} (w:t.Walk X E m):s.Walk X E m:=w.long h.st h.en h.ms h.bk h.eo
theorem Tm.Like.ns {s t:Tm} (h:s.Like t) (x:Pl):x.ns s=x.ns t:=by unfold Pl.ns;rw[h.co]
theorem Tm.Like.code {s t:Tm} (h:s.Like t) (x:Pl) (hc:s.code=t.code):x.code s=x.code t:=by unfold Pl.code;rw[hc,h.ns]
theorem PlanOut.turn {x:Pl} {s t:Tm} {n0:Nat} {e:Ending} {W:World} (h:s.Like t) (hc:s.code=t.code) (p:PlanOut x s n0 e W):PlanOut x t n0 e W:=by
 have hx:=h.code x hc
 obtain⟨a0,a1,a2,a3,c0,c1,c2,c3,rfl,h0,h1,h2,h3,h4⟩:=p
 have e1:x.n s=x.n t:=by unfold Pl.n;rw[hx]
 have e2:x.np s=x.np t:=by unfold Pl.np;rw[hx]
 have e3:x.ng s=x.ng t:=by unfold Pl.ng;rw[hx,h.ns]
 have e4:x.eo s=x.eo t:=by unfold Pl.eo;rw[hx,h.eo]
 have e5:x.en s=x.en t:=by unfold Pl.en;rw[hx]
 have e6:x.f s=x.f t:=by unfold Pl.f;rw[hx,h.ms]
 rw[e1] at h0 h1
 rw[e2] at h2
 rw[e3] at h3
 exact⟨a0,a1,a2,a3,c0,c1,c2,c3,by rw[e1,e2,e3,e4,e5,e6,hx],h0.ext (fun i _=>h.dd _ _ _),h1,h2,h3,h4⟩
theorem PlanIs.turn {x:Pl} {s t:Tm} {c:Ca} (h:s.Like t) (hr:s.ro=t.ro) (hc:t.code=0) (p:PlanIs t c x):PlanIs s c x where
 walk _:=h.walk (p.walk hc)
 q _:=by rw[h.q];exact p.q hc
 roll i hi:=by rw[h.dd,hr];exact p.roll i hi
 grid i hi:=by unfold Pl.G;rw[h.grid,hr];exact p.grid i hi
 part i hi:=by rw[h.co,h.eo,h.ms,h.ns];exact p.part i hi
theorem PlanIs.none {x:Pl} {t:Tm} {c:Ca} (hr:t.ro=0) (hc:t.code=0) (p:PlanIs t c x):(∀i,i<x.q+2→x.V i=t.dd x.X x.q i∧x.C i=0)∧∀i,i<x.K→x.GV i=x.G t i∧x.GC i=0:=by
 have key:∀{n v e:Int},ToIs c n t.ro v e→(1≤n∧n≤3652059)→v=n∧e=0:=fun {n v e} h d=>by
  rw[hr] at h
  have g:ToIs c n 0 n 0:=Or.inl ⟨rfl,Or.inl ⟨by unfold dy;exact d,rfl,rfl⟩⟩
  exact h.same g
 exact⟨fun i hi=>key (p.roll i hi) (p.dday hc hi),fun i hi=>key (p.grid i hi) (p.gday hc hi)⟩
theorem oz_is {n:Int} (h:1≤n∧n≤3652059):(wcal oz).Is n:=(zUu oz n).2 ⟨h,rfl⟩
theorem PlanIs.free {x:Pl} {s t:Tm} {c:Ca} (h:s.Like t) (hr:t.ro=0) (hu:0≤s.ro∧s.ro≤4) (hc:t.code=0) (p:PlanIs t c x):PlanIs s (wcal oz) x:=by
 obtain⟨f,g⟩:=p.none hr hc
 exact {
  walk:=fun _=>h.walk (p.walk hc)
  q:=fun _=>by rw[h.q];exact p.q hc
  roll:=fun i hi=>by
   rw[h.dd,(f i hi).1,(f i hi).2]
   exact ToIs.stay (oz_is (p.dday hc hi)) hu.1 hu.2
  grid:=fun i hi=>by
   have e:x.G s i=x.G t i:=by unfold Pl.G;rw[h.grid]
   rw[e,(g i hi).1,(g i hi).2]
   exact ToIs.stay (oz_is (p.gday hc hi)) hu.1 hu.2
  part:=fun i hi=>by rw[h.co,h.eo,h.ms,h.ns];exact p.part i hi }
end Go.Proofs.YtpfgdfpaoldhcaaGreatDoor
