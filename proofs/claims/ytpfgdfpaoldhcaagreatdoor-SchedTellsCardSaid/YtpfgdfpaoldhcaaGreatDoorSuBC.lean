/- Several texts in one: DaShown, ScMem. -/
import Derived.Test.YtpfgdfpaoldhcaaGreatDoorSuAY
set_option maxHeartbeats 8000000
set_option maxRecDepth 100000
set_option linter.unusedVariables false
set_option linter.unusedSimpArgs false
namespace Go.Proofs.YtpfgdfpaoldhcaaGreatDoor
open Go.RowKit
theorem zA8 {W:World} {ao:Option Addr} {X:Nat→Int} {n cap:Nat} (h:DaysAt W ao X n cap) {B o:Nat} {old:Value} (ho:W.cell? ⟨B,o,none⟩=some old) (hne:∀j,j<n→old≠.int .i64 (X j)) (u:Value):DaysAt (W.setCell ⟨B,o,none⟩ u) ao X n cap:=
 ⟨h.1,fun hn=>by
  obtain⟨b,off,e,hc⟩:=h.2 hn
  refine⟨b,off,e,fun j hj=>?_⟩
  rw[World.cell?_setCell_other (h:=fun g=>?_)]
  ·exact hc j hj
  ·injection g with g1 g2 _
   subst g1
   subst g2
   have:=hc j hj
   rw[ho] at this
   exact hne j hj (Option.some.inj this)⟩
def okset (B o:Nat) (old:Value) (w:World):Fact→Prop
 | .cell b i _=>b≠B∨i≠o
 | .free _ _=>True
 | .is _ _=>True
 | .that P _=>P w∨∀(W:World) (u:Value),W.cell? ⟨B,o,none⟩=some old→P W→P (W.setCell ⟨B,o,none⟩ u)
theorem Held.put16 {w W:World} {fs:List Fact} (h:Held w fs W) (gs:List Fact) (B o:Nat) (old u:Value) (hm:Fact.cell B o old∈fs) (hB:w.heap.size≤B) (hg:∀f∈gs,f∈fs∧okset B o old w f):Held w (.cell B o u::gs) (W.setCell ⟨B,o,none⟩ u):=by
 have hb:=h.old.setCell (p:=⟨B,o,none⟩) hB u
 have hc:=h.cell B o old hm
 refine⟨hb,fun f hf=>?_⟩
 rcases List.mem_cons.1 hf with rfl | hf
 ·exact World.cell?_setCell_same' _ _ _ (by rw[hc];rfl)
 ·obtain⟨m,k⟩:=hg f hf
  have a:=h.all f m
  cases f with
  | cell b i v=>
   exact (World.cell?_setCell_other W ⟨B,o,none⟩ ⟨b,i,none⟩ u (fun g=>by
    injection g with g1 g2 _
    rcases k with k | k
    ·exact k g1.symm
    ·exact k g2.symm)).trans a
  | free b i=>exact⟨by simpa using a.1,by simpa [go_sem] using a.2⟩
  | is b i=>
   exact zqgcx
  | that P hP=>
   rcases k with k | k
   ·exact hP _ _ hb k
   ·exact k W u hc a
def FactsS (w:World):Prop:=Lens w∧zPp w∧zPq w∧ErrsT w∧Errs_ac w∧Errs w
theorem FactsS.t {w:World} (h:FactsS w):FactsT w:=⟨h.1,h.2.1,h.2.2.1,h.2.2.2.1⟩
theorem FactsS.w {w:World} (h:FactsS w):FactsW w:=⟨h.1,h.2.1⟩
theorem FactsS.c {w:World} (h:FactsS w):FactsC w:=⟨h.1,h.2.2.2.2.1,h.2.2.2.2.2⟩
theorem FactsS.below {W W':World} (h:FactsS W) (hb:Below W W W'):FactsS W':=
 have a:=h.t.below hb
 have b:=h.c.below hb
 ⟨a.1,a.2.1,a.2.2.1,a.2.2.2,b.2.1,b.2.2⟩
def zAg:Fact:=.that FactsS (fun _ _ hb h=>h.below hb)
theorem Held.factsS {w W:World} {fs:List Fact} (h:Held w fs W) (hm:zAg∈fs:=by exact zm):FactsS W:=h.all _ hm
theorem zA3 {W:World} {B i C o:Nat} {v:Value} (h:W.cell? ⟨B,i,none⟩=some v) (hne:B≠C∨i≠o) (u:Value):(W.setCell ⟨C,o,none⟩ u).cell? ⟨B,i,none⟩=some v:=
 (World.cell?_setCell_other W ⟨C,o,none⟩ ⟨B,i,none⟩ u (fun g=>by
  injection g with g1 g2 _
  rcases hne with k | k
  ·exact k g1.symm
  ·exact k g2.symm)).trans h
structure TermsAt (W:World) (B:Nat) (t:Tm):Prop where
 c0:W.cell? ⟨B,0,none⟩=some (.int .i64 t.mo)
 c1:W.cell? ⟨B,1,none⟩=some (.int .i64 t.ra)
 c2:W.cell? ⟨B,2,none⟩=some (.int .i64 t.ki)
 c3:W.cell? ⟨B,3,none⟩=some (.int .i64 t.co)
 c4:W.cell? ⟨B,4,none⟩=some (.int .i64 t.st)
 c5:W.cell? ⟨B,5,none⟩=some (.int .i64 t.en)
 c6:W.cell? ⟨B,6,none⟩=some (.int .i64 t.ms)
 c7:W.cell? ⟨B,7,none⟩=some (.bool t.bk)
 c8:W.cell? ⟨B,8,none⟩=some (.bool t.lg)
 c9:W.cell? ⟨B,9,none⟩=some (.bool t.eo)
 c10:W.cell? ⟨B,10,none⟩=some (.int .i64 t.ro)
theorem TermsAt.below {W W':World} {B:Nat} {t:Tm} (h:TermsAt W B t) (hb:Below W W W'):TermsAt W' B t:=
 ⟨keep hb (zA0 h.c0) h.c0,keep hb (zA0 h.c1) h.c1,keep hb (zA0 h.c2) h.c2,keep hb (zA0 h.c3) h.c3,keep hb (zA0 h.c4) h.c4,keep hb (zA0 h.c5) h.c5,keep hb (zA0 h.c6) h.c6,keep hb (zA0 h.c7) h.c7,keep hb (zA0 h.c8) h.c8,keep hb (zA0 h.c9) h.c9,keep hb (zA0 h.c10) h.c10⟩
theorem TermsAt.set {W:World} {B:Nat} {t:Tm} (h:TermsAt W B t) {C o:Nat} (hne:B≠C∨20≤o) (u:Value):TermsAt (W.setCell ⟨C,o,none⟩ u) B t:=
 ⟨zA3 h.c0 (hne.imp id zo) u,zA3 h.c1 (hne.imp id zo) u,zA3 h.c2 (hne.imp id zo) u,zA3 h.c3 (hne.imp id zo) u,zA3 h.c4 (hne.imp id zo) u,zA3 h.c5 (hne.imp id zo) u,zA3 h.c6 (hne.imp id zo) u,zA3 h.c7 (hne.imp id zo) u,zA3 h.c8 (hne.imp id zo) u,zA3 h.c9 (hne.imp id zo) u,zA3 h.c10 (hne.imp id zo) u⟩
structure CalBox (W:World) (B:Nat) (c:Ca) (aR:Option Addr) (cR:Nat) (aD:Option Addr) (cD:Nat):Prop where
 c0:W.cell? ⟨B,11,none⟩=some (.bool (c.o 0))
 c1:W.cell? ⟨B,12,none⟩=some (.bool (c.o 1))
 c2:W.cell? ⟨B,13,none⟩=some (.bool (c.o 2))
 c3:W.cell? ⟨B,14,none⟩=some (.bool (c.o 3))
 c4:W.cell? ⟨B,15,none⟩=some (.bool (c.o 4))
 c5:W.cell? ⟨B,16,none⟩=some (.bool (c.o 5))
 c6:W.cell? ⟨B,17,none⟩=some (.bool (c.o 6))
 c7:W.cell? ⟨B,18,none⟩=some (.slice aR c.nr cR)
 c8:W.cell? ⟨B,19,none⟩=some (.slice aD c.nd cD)
theorem CalBox.below {W W':World} {B:Nat} {c:Ca} {aR:Option Addr} {cR:Nat} {aD:Option Addr} {cD:Nat} (h:CalBox W B c aR cR aD cD) (hb:Below W W W'):CalBox W' B c aR cR aD cD:=
 ⟨keep hb (zA0 h.c0) h.c0,keep hb (zA0 h.c1) h.c1,keep hb (zA0 h.c2) h.c2,keep hb (zA0 h.c3) h.c3,keep hb (zA0 h.c4) h.c4,keep hb (zA0 h.c5) h.c5,keep hb (zA0 h.c6) h.c6,keep hb (zA0 h.c7) h.c7,keep hb (zA0 h.c8) h.c8⟩
theorem CalBox.set {W:World} {B:Nat} {c:Ca} {aR:Option Addr} {cR:Nat} {aD:Option Addr} {cD:Nat} (h:CalBox W B c aR cR aD cD) {C o:Nat} (hne:B≠C∨20≤o) (u:Value):CalBox (W.setCell ⟨C,o,none⟩ u) B c aR cR aD cD:=
 ⟨zA3 h.c0 (hne.imp id zo) u,zA3 h.c1 (hne.imp id zo) u,zA3 h.c2 (hne.imp id zo) u,zA3 h.c3 (hne.imp id zo) u,zA3 h.c4 (hne.imp id zo) u,zA3 h.c5 (hne.imp id zo) u,zA3 h.c6 (hne.imp id zo) u,zA3 h.c7 (hne.imp id zo) u,zA3 h.c8 (hne.imp id zo) u⟩
def zAw (B:Nat) (t:Tm):Fact:=.that (fun W=>TermsAt W B t) (fun _ _ hb h=>h.below hb)
theorem Held.terms {w W:World} {fs:List Fact} {B:Nat} {t:Tm} (h:Held w fs W) (hm:zAw B t∈fs:=by exact zm):TermsAt W B t:=h.all _ hm
def zAj (B:Nat) (c:Ca) (aR:Option Addr) (cR:Nat) (aD:Option Addr) (cD:Nat):Fact:=.that (fun W=>CalBox W B c aR cR aD cD) (fun _ _ hb h=>h.below hb)
theorem Held.calBox {w W:World} {fs:List Fact} {B:Nat} {c:Ca} {aR:Option Addr} {cR:Nat} {aD:Option Addr} {cD:Nat} (h:Held w fs W) (hm:zAj B c aR cR aD cD∈fs:=by exact zm):CalBox W B c aR cR aD cD:=h.all _ hm
def RatAt (W:World) (ao:Option Addr) (P Q:Nat→Int) (n cap:Nat):Prop:=n≤cap∧(0<n→∃b off,ao=some ⟨b,off,none⟩∧∀j,j<n→W.cell? ⟨b,off+2*j,none⟩=some (.int .i64 (P j))∧W.cell? ⟨b,off+2*j+1,none⟩=some (.int .i64 (Q j)))
theorem RatAt.below {W W':World} {ao:Option Addr} {n cap:Nat} {P Q:Nat→Int} (h:RatAt W ao P Q n cap) (hb:Below W W W'):RatAt W' ao P Q n cap:=
 ⟨h.1,fun hn=>by obtain⟨b,off,e,hc⟩:=h.2 hn;exact⟨b,off,e,fun j hj=>⟨keep hb (zA0 (hc j hj).1) (hc j hj).1,keep hb (zA0 (hc j hj).2) (hc j hj).2⟩⟩⟩
def ratF (ao:Option Addr) (P Q:Nat→Int) (n cap:Nat):Fact:=.that (fun W=>RatAt W ao P Q n cap) (fun _ _ hb h=>h.below hb)
theorem Held.rat {w W:World} {fs:List Fact} {ao:Option Addr} {P Q:Nat→Int} {n cap:Nat} (h:Held w fs W) (hm:ratF ao P Q n cap∈fs:=by exact zm):RatAt W ao P Q n cap:=h.all _ hm
theorem rat_none (W:World) (P Q:Nat→Int):RatAt W none P Q 0 0:=⟨Nat.le_refl _,fun h=>absurd h (Nat.lt_irrefl _)⟩
theorem zC9 (W:World) (X:Nat→Int):DaysAt W none X 0 0:=⟨Nat.le_refl _,fun h=>absurd h (Nat.lt_irrefl _)⟩
theorem DaysAt.row {W:World} {ao:Option Addr} {X:Nat→Int} {n cap:Nat} (h:DaysAt W ao X n cap):RowAt W ao X n cap:=h
theorem zQn (k a b:Int) (t:Bool) (en f:Int) (ao:Option Addr) (n cap:Nat) (X:Nat→Int) (p q c:Int) (w:World) (hF:FactsC w) (hn:n≤100) (hR:RowAt w ao X n cap) (h:CoIs k a b t en f X n p q c) :
  Calls Tryz.prog 89 #[k,a,b,.agg #[t,en,f,.slice ao n cap]] w fun e w'=>e=.returned (.tuple #[.agg #[p,q],c])∧Below w w w':=by
 rcases h with⟨rfl,h⟩ | ⟨rfl,h⟩ | ⟨rfl,h⟩ | ⟨rfl,h⟩ | ⟨rfl,h⟩ | ⟨rfl,h⟩ | ⟨rfl,h⟩ | ⟨h,rfl,rfl,rfl⟩
 ·exact cpart_0 a b t en f ao n cap X p q c w hF h
 ·exact cpart_1 a b t en f ao n cap X p q c w hF h
 ·exact cpart_2 a b t en f ao n cap X p q c w hF h
 ·exact cpart_3 a b t en f ao n cap X p q c w hF h
 ·exact cpart_4 a b t en f ao n cap X p q c w hF h
 ·exact cpart_5 a b t en f ao n cap X p q c w hF h
 ·exact cpart_6 a b t en f ao n cap X p q c w hF hn hR h
 ·exact zQo k a b t en f ao n cap w h
theorem StepIs.day {c:Ca} {s n v:Int} (h:StepIs c s n v 0):1≤v:=by
 have:=(h.good rfl).2.1.1
 unfold dy at this
 omega
theorem ToIs.day {c:Ca} {n k v:Int} (h:ToIs c n k v 0):1≤v:=by
 rcases h with⟨_,⟨h,rfl,_⟩ | ⟨_,_,h⟩⟩ | ⟨_,h⟩ | ⟨_,h⟩ | ⟨_,h⟩ | ⟨_,h⟩ | ⟨_,_,h⟩
 ·unfold dy at h;omega
 ·cases h
 ·exact h.day
 ·have:=(h.good.1 rfl).1;unfold dy at this;omega
 ·exact h.day
 ·have:=(h.good.1 rfl).1;unfold dy at this;omega
 ·cases h
theorem zA2 {W:World} {b o:Nat} {v:Value} (h:W.cell? ⟨b,o,none⟩=some v):W.setCell ⟨b,o,none⟩ v=W:=by
 unfold World.setCell
 have:(W.heap.modify b fun
   | .cells c elem frozen=>.cells (if (none:Option Nat).isSome then c else c.setIfInBounds o v) elem frozen
   | o=>o)=W.heap:=by
  apply Array.ext
  ·simp
  ·intro i h1 h2
   rw[Array.getElem_modify]
   split
   ·next e=>
    subst e
    unfold World.cell? at h
    have hb:W.heap[b]?=some W.heap[b]:=Array.getElem?_eq_getElem h2
    simp only at h
    rw[hb] at h
    revert h
    cases W.heap[b] with
    | cells c elem fr=>
     intro h
     simp at h ⊢
     apply Array.ext
     ·simp
     ·intro j j1 j2
      by_cases e:o=j
      ·subst e
       simp[Array.getElem_setIfInBounds]
       rw[Array.getElem?_eq_getElem j2] at h
       exact (Option.some.inj h).symm
      ·rw[Array.getElem_setIfInBounds_ne _ (by simpa using e)]
    | _=>intro h;rfl
   ·rfl
 have g:∀(X:World) (h':Array Obj),h'=X.heap→{ X with heap:=h' }=X:=by
  rintro X _ rfl
  rfl
 exact g W _ this
theorem Held.put17 {w W:World} {fs:List Fact} {B o:Nat} {old:Value} (h:Held w (.cell B o old::fs) W) (u:Value) (hB:w.heap.size≤B) (hg:∀f∈fs,okset B o old w f):Held w (.cell B o u::fs) (W.setCell ⟨B,o,none⟩ u):=
 h.put16 fs B o old u i0_ hB (fun f hf=>⟨List.mem_cons_of_mem _ hf,hg f hf⟩)
theorem zA1 {P:Fact→Prop} {a:Fact} {fs:List Fact} (h:P a) (k:∀f∈fs,P f):∀f∈a::fs,P f:=by
 intro f hf
 rcases List.mem_cons.1 hf with rfl | hf
 ·exact h
 ·exact k f hf
theorem Held.pull {w W:World} {xs fs:List Fact} {a:Fact} (h:Held w (xs++a::fs) W):Held w (a::(xs++fs)) W:=
 h.sub (fun f hf=>by
  rcases List.mem_cons.1 hf with rfl | hf
  ·exact List.mem_append_right _ (List.mem_cons_self)
  ·rcases List.mem_append.1 hf with k | k
   ·exact List.mem_append_left _ k
   ·exact List.mem_append_right _ (List.mem_cons_of_mem _ k))
def Fact.small:Fact→Prop
 | .cell _ i _=>i<20
 | .free _ _=>True
 | .is _ _=>True
 | .that _ _=>False
theorem zD1 {B o:Nat} {old:Value} {w:World} {gs:List Fact} (h:∀f∈gs,f.small) (ho:20≤o):∀f∈gs,okset B o old w f:=by
 intro f hf
 have k:=h f hf
 cases f with
 | cell b i v=>exact Or.inr (by have:i<20:=k;omega)
 | free b i=>trivial
 | is b i=>trivial
 | that P hP=>exact k.elim
end Go.Proofs.YtpfgdfpaoldhcaaGreatDoor
