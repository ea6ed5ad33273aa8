/- Several texts in one: DaGrid, DaOf, DaOfB. -/
import Derived.Test.YtpfgdfpaoldhcaaGreatDoorSuAW
import Derived.Test.YtpfgdfpaoldhcaaGreatDoorSuAX
set_option maxHeartbeats 8000000
set_option maxRecDepth 100000
set_option linter.unusedVariables false
set_option linter.unusedSimpArgs false
namespace Go.Proofs.YtpfgdfpaoldhcaaGreatDoor
open Go.RowKit Go.Shelf
attribute [local go_sem] Oper.semAt_some
theorem zNa {W:World} {base n:Nat} {v:Value} {l:List Int} (h:W.ownsRow base 3 1 v n (il l)):∃ao cap,v=.slice ao n cap:=by
 rcases h.2 with⟨rfl,e⟩ | ⟨g,cap,cur,rfl,_⟩
 ·exact⟨none,0,by rw[e]⟩
 ·exact⟨_,_,rfl⟩
theorem own_ne {W:World} {base n gb cap D:Nat} {xs:List Value} (h:W.ownsRow base 3 1 (.slice (some ⟨gb,0,none⟩) n cap) n xs) (hK:W.heap[D]?=some (.deferred (some []))):D≠gb:=fun e=>by
 rcases h.2 with⟨e0,_⟩ | ⟨g,c,cur,e0,_,hg,_⟩
 ·cases e0
 ·injection e0 with e1 _ _
  injection e1 with e1
  injection e1 with e1
  subst e1
  subst e
  rw[hK] at hg
  cases hg
open Go.Sort in
theorem crev_any (base n cap g:Nat) (l:List Int) (w:World) (hl:l.length=n) (hn:n≤2000) (h:w.ownsRow base 3 1 (.slice (some ⟨g,0,none⟩) n cap) n (il l)) :
  Calls Tryz.prog 96 #[.slice (some ⟨g,0,none⟩) n cap] w fun e w'=>e=.returned (.tuple #[])∧w'.ownsRow base 3 1 (.slice (some ⟨g,0,none⟩) n cap) n (il l.reverse)∧w.grownBy w' (some g):=by
 subst hl
 have hH:Holds (Value.int .i64) w g 0 l.toArray:=fun i hi=>by
  have hi':i<l.length:=by simpa using hi
  refine⟨?_,?_⟩
  ·rw[Nat.zero_add,World.ownsRow.cellAt h i zo]
   simp[il,getElem!_pos,hi']
  ·rw[Nat.zero_add];exact World.ownsRow.frozenAt h i
 have:=Tryz.slices_Reverse_int g 0 cap l w hH zo
 refine this.mono ?_
 rintro e w' ⟨rfl,q,rfl⟩
 have hr:=Lib.ownsRow_putRow (enc:=Value.int .i64) (q:=q) (k:=l.length) (ys:=l.reverse) h zs (Nat.le_refl _)
 rw[List.take_of_length_le zs] at hr
 refine⟨rfl,hr,rfl,rfl,rfl,by simp[putRow,mapBlock,Sort.ahead],fun k hk hg=>?_⟩
 simp[putRow,mapBlock,Sort.ahead,Array.getElem?_modify,show g≠k from fun e=>hg (by rw[e])]
theorem KpS.frozen {n₀ S:Nat} {A B:World} (h:KpS n₀ S A B) {b o:Nat} (hb:b<n₀) (hs:b≠S):B.frozen? ⟨b,o,none⟩=A.frozen? ⟨b,o,none⟩:=World.frozen?_of_block (a:=⟨b,o,none⟩) (h b hb hs)
theorem zFo {W w1:World} {n₀ S:Nat} {v v':Value} {tmp:Obj} (hgrow:(W.alloc tmp).grownBy w1 v.ownBlock) (hn:n₀≤W.heap.size) (ho:∀k,v.ownBlock=some k→n₀≤k):KpS n₀ S W (w1.setCell ⟨S,0,none⟩ v'):=fun k hk hS=>by
 rw[Below.heap_setCell _ _ _ k (fun e=>hS e)]
 exact (hgrow.block k (by rw[World.size_alloc];omega) (fun e=>by have:=ho k e.symm;omega)).trans (Below.heap_alloc W _ k zo)
def Pg (n₀ S:Nat) (w W0:World) (pre:List Int) (W:World):Prop:=(∃v,Go.Boxed W S 26 v∧W.ownsRow n₀ 3 1 v pre.length (il pre)∧True)∧(n₀≤W.heap.size∧KpS n₀ S W0 W)∧Below w w W
theorem pg_own (n₀ S:Nat) (w W0:World) (h:w.heap.size≤n₀):OwnFrom n₀ (fun pre W=>Pg n₀ S w W0 pre W):=
 OwnFrom.and (Own.from (holdsRow_own n₀ S 26 3 1 (fun pre:List Int=>pre.length) (fun pre=>il pre) (fun _ _=>True)) _)
  (OwnFrom.and (fun s A B row hs hg hr=>⟨Nat.le_trans hs.1 hg.size,fun k hk hS=>(hg.block k (by have:=hs.1;omega) (fun e=>by have:=(hr k e.symm).1;omega)).trans (hs.2 k hk hS)⟩) (ownFrom_below (Nat.le_refl _) h))
theorem ap_bd (mo ra ki co st en ms:Int) (bk lg eo:Bool) (ro:Int) (hm : -100≤ms∧ms≤100) : -100≤(Tm.mk mo ra ki co st en ms bk lg eo ro).ap∧(Tm.mk mo ra ki co st en ms bk lg eo ro).ap≤100:=by
 unfold Tm.ap;dsimp only;split <;> omega
theorem zH1 (n:Nat) (hn:1≤n) (Ba Bp Bt n₀ S:Nat) (mo ra ki co st en ms:Int) (bk lg eo:Bool) (ro:Int) (X E:Nat→Int) (m:Nat) (HWk:Hid ((Tm.mk mo ra ki co st en ms bk lg eo ro).Walk X E m)) (ap:Int) (hap:(Tm.mk mo ra ki co st en ms bk lg eo ro).ap=ap) (an:Int) (han:(Tm.mk mo ra ki co st en ms bk lg eo ro).an=an) (hab : -100≤ap∧ap≤100)
  (la:Ba<n₀∧Ba≠S) (lp:Bp<n₀∧Bp≠S) (lt:Bt<n₀∧Bt≠S) (lg':9<n₀∧9≠S) (hlast:Bp+1=n₀) (w:World)
  (hL:Lens w) (ca:w.cell? ⟨Ba,0,none⟩=some (.int .i64 an)) (cp:w.cell? ⟨Bp,0,none⟩=some (.int .i64 ap)) (c0:w.cell? ⟨Bt,0,none⟩=some (.int .i64 mo)) (c1:w.cell? ⟨Bt,1,none⟩=some (.int .i64 ra)) (c2:w.cell? ⟨Bt,2,none⟩=some (.int .i64 ki)) (c3:w.cell? ⟨Bt,3,none⟩=some (.int .i64 co)) (c4:w.cell? ⟨Bt,4,none⟩=some (.int .i64 st)) (c5:w.cell? ⟨Bt,5,none⟩=some (.int .i64 en)) (c6:w.cell? ⟨Bt,6,none⟩=some (.int .i64 ms)) (c7:w.cell? ⟨Bt,7,none⟩=some (.bool bk)) (c8:w.cell? ⟨Bt,8,none⟩=some (.bool lg)) (c9:w.cell? ⟨Bt,9,none⟩=some (.bool eo)) (c10:w.cell? ⟨Bt,10,none⟩=some (.int .i64 ro)) :
  SeqStopsK Fence.wide n Tryz.prog 109 #[.pointer (some ⟨Ba,0,none⟩),.pointer (some ⟨Bp,0,none⟩),.pointer (some ⟨Bt,0,none⟩)] (fun x:Int=>#[Value.int .i64 x]) (KpS n₀ S) (fun ys=>ys=dl X (gl E m)) (fun _=>True) (gl E m) w:=fun l J Jx W hW hJ _ hY h0=>
 zU0 n hn l Ba Bp Bt n₀ S mo ra ki co st en ms bk lg eo ro X E m HWk ap hap an han hab la lp lt lg' hlast J Jx W hJ hY (hL.below hW) (keep hW (zA0 ca) ca) (keep hW (zA0 cp) cp) (keep hW (zA0 c0) c0) (keep hW (zA0 c1) c1) (keep hW (zA0 c2) c2) (keep hW (zA0 c3) c3) (keep hW (zA0 c4) c4) (keep hW (zA0 c5) c5) (keep hW (zA0 c6) c6) (keep hW (zA0 c7) c7) (keep hW (zA0 c8) c8) (keep hW (zA0 c9) c9) (keep hW (zA0 c10) c10) h0
theorem grid_no (mo ra ki co st en ms:Int) (bk lg eo:Bool) (ro:Int) (c:Int) (w:World) (hL:FactsT w) (hc:(Tm.mk mo ra ki co st en ms bk lg eo ro).code=c) (h0:c≠0) :
  Calls Tryz.prog 88 #[.agg #[mo,ra,ki,co,st,en,ms,bk,lg,eo,ro]] w fun e w'=>e=.returned (.tuple #[.slice none 0 0,c])∧Below w w w':=by
 have H:=(Held.start w).add (f:=zCm) hL
 have CK:=zh (fun v h=>zKv mo ra ki co st en ms bk lg eo ro c v h hc)
 have CE:Hid ((c==0)=false):=zh (by simpa using h0)
 have CN:Hid ((c != 0)=true):=zh (by simpa using h0)
 clear hL hc
 go_enter Tryz.func88,Tryz.ntmps88
 go_wp2_with fail
 replace H:=H.box_11 w mo ra ki co st en ms bk lg eo ro 23 rfl
 replace H:=H.lone (w+1) (.slice none 0 0) 26 zs
 replace H:=H.lone (w+2) (0:Int) 36 zs
 revert H
 with_reducible refine zG (fun H=>CK.out _ (H.factsT)) ?_
 intro w1 H
 have cr0:=H.cell (w+1) 0 _
 have lr:=zA0 cr0
 have cs0:=H.cell (w+2) 0 _
 have ls:=zA0 cs0
 have fr:=H.frozen (w+1) 0
 have fs:=H.frozen (w+2) 0
 have ce:=CE.out
 have cn:=CN.out
 have HK:=H.old
 clear H
 go_wp2_with fail
 exact bodyPost_ret (v:=.tuple #[.slice none 0 0,c]) (by simp[results,Tryz.results88,go_sem,cr0,cs0,lr,ls]) rfl ⟨rfl,by repeat (first | exact HK | refine Below.drew ?_ | refine Below.setCell ?_ zw _ | refine Below.alloc ?_ zw _)⟩
theorem zqm4x {P:Prop} (h:P:=by
 rintro l pre x W ⟨⟨v,hv,hrow,-⟩,⟨hsz,hKp⟩,hB⟩ hlt
 obtain⟨ao,cap,rfl⟩:=zNa hrow
 have hc:=hv.cell
 rw[hKe] at hlt
 have e1:((pre.length:Int)==1202)=false:=by rw[beq_eq_false_iff_ne];omega
 have HK:=zh hKp
 have H0:=zh H
 have HH3:=zh H3
 clear hKp H H3 bS
 gi_wp2_with (gi_at_builtin;refine wpListIn_append_own _ rfl _ _ 26 rfl w3.heap.size 3 i0 (0:Int) 1 8 Tryz.underlying26 hi hz0 hz1 hz2 rfl zd _ _ _ rfl (hrow.alloc _) ⟨W,0,none⟩ 1 1 [.int .i64 x] rfl rfl (cell_one_new _ _ _) (by simp[Value.oneCell']) (by unfold maxLen;omega) zo zx ?_;intro v' w1 hown' hgrow _;obtain⟨g',cap',rfl⟩:=ownsRow_succ hown';obtain⟨hv1,hv2,hr2,hk2,hb2⟩:=hv.appended (n₀:=w.heap.size) zd (hrow.mono hw3) (Nat.le_trans hw3 hsz) zo (hown'.mono hw3) hgrow;have hc1:=hv1.cell;have hf1:=hv1.frozen)
 have hkp:=zFo (v':=.slice (some ⟨g',0,none⟩) (pre.length+1) cap') (S:=S) hgrow hsz (fun k e=>(World.ownsRow.lt hrow k e).1)
 have hs1:=hgrow.size
 rw[World.size_alloc] at hs1
 refine⟨hk2.from _,hkp,⟨⟨_,hv2,?_,trivial⟩,⟨zx,HK.out.trans hkp⟩,hB.trans hb2⟩⟩
 have hr3:=hown'.kept (grownBy_setCell' w1 S (.slice (some ⟨g',0,none⟩) (pre.length+1) cap')) (.inr (hv1.not_row zd hown').symm)
 simpa [il] using hr3):P:=h
theorem zO5 (mo ra ki co st en ms:Int) (lg eo:Bool) (ro:Int) (X E:Nat→Int) (m:Nat) (w:World) (hL:FactsT w) (hc:(Tm.mk mo ra ki co st en ms false lg eo ro).code=0) (hm : -100≤ms∧ms≤100) (hWk:(Tm.mk mo ra ki co st en ms false lg eo ro).Walk X E m) :
  Calls Tryz.prog 88 #[.agg #[mo,ra,ki,co,st,en,ms,false,lg,eo,ro]] w fun e w'=>∃ao cap,e=.returned (.tuple #[.slice ao (gl E m) cap,(0:Int)])∧DaysAt w' ao (ld ((Tm.mk mo ra ki co st en ms false lg eo ro).grid X (gl E m))) (gl E m) cap∧Below w w w':=by
 have H:=(Held.start w).add (f:=zCm) hL
 have CK:=zh (fun v h=>zKv mo ra ki co st en ms false lg eo ro 0 v h hc)
 have SA:=zh (fun v=>zKe mo ra ki co st en ms false lg eo ro v hm)
 have HWk:=zh hWk
 have GB:=(zJd E m).2
 have top:=hWk.top
 have hlen:=zA0 (hL.1 0 zo)
 obtain⟨K,hKe⟩:∃K,gl E m=K:=⟨_,rfl⟩
 have K1:K≤1101:=zo
 obtain⟨j,rfl⟩:∃j,K=j+1:=⟨K-1,by have:=(zJd E m).1;have:=hWk.one;omega⟩
 rw[hKe]
 clear hL hc hWk
 obtain⟨i0,hi,hz0,hz1,hz2⟩:=info_parts zAo
 refine (callsIn_wide (n:=6)).1 ?_
 refine callsIn_of_wp_marks Tryz.func88 rfl trivial ?_ rfl
 simp only[Tryz.ntmps88,List.size_toArray,List.length_cons,List.length_nil,Nat.reduceAdd,Nat.reduceSub,Array.replicate_succ,Array.replicate_zero,List.push_toArray,List.append_toArray,List.nil_append,List.cons_append]
 gi_wp2_with fail
 replace H:=H.box_11 w mo ra ki co st en ms false lg eo ro 23 rfl
 replace H:=H.lone (w+1) (.slice none 0 0) 26 zs
 replace H:=H.lone (w+2) (0:Int) 36 zs
 refine⟨trivial,?_⟩
 refine (callsIn_wide.2 (CK.out _ (H.factsT))).mono ?_
 rintro e w1 ⟨rfl,hb⟩
 replace H:=H.below hb
 clear hb
 obtain⟨ct0,ct1,ct2,ct3,ct4,ct5,ct6,ct7,ct8,ct9,ct10⟩:=H.cells11 w
 have lt:=zA0 ct0
 gi_wp2_with fail
 clear ct0 ct1 ct2 ct3 ct4 ct5 ct6 ct7 ct8 ct9 ct10 lt
 have hwS:=zA0 (H.cell (w+2) 0 (0:Int))
 replace H:=H.lone w1 (.slice none 0 0) 26 rfl
 have bS0:=Go.Boxed.new w1 26 (.slice none 0 0)
 refine⟨trivial,?_⟩
 refine (callsIn_wide.2 (SA.out _)).mono ?_
 rintro e w3 ⟨B,rfl,hB1,hB2,H3⟩
 replace H:=H.below H3.old
 have bS:=(H3.old.block w1.heap.size (by rw[World.size_alloc];omega)).trans bS0
 simp only[World.size_alloc] at hB1 H3
 obtain⟨S,hS⟩:∃S,w1.heap.size=S:=⟨_,rfl⟩
 gi_wp2_with fail
 rw[hS] at hwS hB1 H3 bS H
 (try rw[hS])
 clear bS0 hS SA CK
 have hw3:=H.old.size
 have hL3:=H.lensT
 have hgl:=hlen
 refine wpIn_rangeFunc_ownG rfl zo (gf:=109) (lb:=#[.pointer (some ⟨B,0,none⟩),.pointer (some ⟨B+1,0,none⟩),.pointer (some ⟨S+1,0,none⟩)]) rfl trivial (enters_of Tryz.func109 zk rfl)
  (zH1 (6-1) zo B (B+1) (S+1) w3.heap.size S mo ra ki co st en ms false lg eo ro X E m HWk _ rfl _ rfl (ap_bd mo ra ki co st en ms false lg eo ro hm) zo zo zo zo zo w3 hL3
   (H3.cell B 0 _) (H3.cell (B+1) 0 _) (H3.cell (S+1) 0 _) (H3.cell (S+1) 1 _) (H3.cell (S+1) 2 _) (H3.cell (S+1) 3 _) (H3.cell (S+1) 4 _) (H3.cell (S+1) 5 _) (H3.cell (S+1) 6 _) (H3.cell (S+1) 7 _) (H3.cell (S+1) 8 _) (H3.cell (S+1) 9 _) (H3.cell (S+1) 10 _))
  (fun h k=>KpS.trans h k)
  (fun W l o o' hl h _ _=>KpS.of_below ((Below.refl w3.heap.size W).grown (grownBy_putObj' W l o') (by have:=(Array.getElem?_eq_some_iff.1 h).1;omega) (fun k e=>by cases e;omega)) (Nat.le_refl _))
  (Below.refl _ _) (fun _=>rfl)
  (fun pre W=>Pg w3.heap.size S w w3 pre W)
  (fun _ _ _=>False)
  (pg_own w3.heap.size S w w3 hw3)
  (fun _ _ _ _ _ hs _ _=>hs)
  ⟨⟨_,bS,World.ownsRow_nil _ _ _ _,trivial⟩,⟨Nat.le_refl _,KpS.refl _ _ _⟩,H.old⟩
  (fun x=>{ tmps:=#[.agg #[.int .i64 mo,.int .i64 ra,.int .i64 ki,.int .i64 co,.int .i64 st,.int .i64 en,.int .i64 ms,.bool false,.bool lg,.bool eo,.int .i64 ro],.pointer (some ⟨w.heap.size,0,none⟩),.pointer (some ⟨w.heap.size+1,0,none⟩),.pointer (some ⟨w.heap.size+1+1,0,none⟩),.int .i64 0,.pointer (some ⟨S,0,none⟩),.int .i64 x,.agg #[.int .i64 mo,.int .i64 ra,.int .i64 ki,.int .i64 co,.int .i64 st,.int .i64 en,.int .i64 ms,.bool false,.bool lg,.bool eo,.int .i64 ro],.int .i64 0,.int .i64 0,.bool false,undef,.agg #[.int .i64 mo,.int .i64 ra,.int .i64 ki,.int .i64 co,.int .i64 st,.int .i64 en,.int .i64 ms,.bool false,.bool lg,.bool eo,.int .i64 ro],.func (.func 109) #[] #[.pointer (some ⟨B,0,none⟩),.pointer (some ⟨B+1,0,none⟩),.pointer (some ⟨S+1,0,none⟩)],.int .i64 x,undef,undef,undef,undef,undef,undef,undef,undef,undef,undef,undef,undef],defers:=[] }) ?assign ?body ?done ?stop
 case assign=>
  intro l x W K hK
  gi_wp2
  exact hK
 case body=>
  exact zqm4x
 case done=>
  rintro D ys W hD rfl ⟨⟨v,hv,hrow,-⟩,⟨hsz,hKp⟩,hB⟩ hK
  rw[zB7,hKe] at hrow
  obtain⟨gb,cap,rfl⟩:=ownsRow_succ hrow
  have hD0:=hD
  have hne:D≠gb:=own_ne hrow hK
  have k7:=(hKp.cell (b:=w.heap.size) (o:=7) zo zo).trans (H.cell w 7 false)
  have hc:=hv.cell
  have kr:=(hKp.cell (b:=w.heap.size+1) (o:=0) zo zo).trans (H.cell (w+1) 0 (.slice none 0 0))
  have fr:=(hKp.frozen (b:=w.heap.size+1) (o:=0) zo zo).trans (H.frozen (w+1) 0)
  have ks:W.cell? ⟨w.heap.size+1+1,0,none⟩=some (.int .i64 0):=(hKp.cell (b:=w.heap.size+2) (o:=0) zo zo).trans (H.cell (w+2) 0 (0:Int))
  have fs:W.frozen? ⟨w.heap.size+1+1,0,none⟩=false:=(hKp.frozen (b:=w.heap.size+2) (o:=0) zo zo).trans (H.frozen (w+2) 0)
  have d0:S≠w.heap.size+1:=zo
  have d1:S≠w.heap.size+1+1:=zo
  have HF:=zh H
  have HKp:=zh hKp
  clear H hKp H3 bS
  gi_wp2
  have hK':=((KeepsOthers.setCell W ⟨w+1,0,none⟩ (.slice (some ⟨gb,0,none⟩) (j+1) cap)).trans (KeepsOthers.setCell _ ⟨w.heap.size+1+1,0,none⟩ (0:Int))).same D _ hK rfl
  refine⟨zs,.inl ⟨_,_,rfl,run_takeDeferred hK',?_⟩⟩
  have e6:((W.setCell ⟨w+1,0,none⟩ (.slice (some ⟨gb,0,none⟩) (j+1) cap)).setCell ⟨w.heap.size+1+1,0,none⟩ (0:Int)).cell? ⟨w+1,0,none⟩=some (.slice (some ⟨gb,0,none⟩) (j+1) cap):=by
   rw[World.cell?_setCell_other _ _ _ _ zs]
   exact World.cell?_setCell_same' _ _ _ (by rw[kr];rfl)
  have e7:((W.setCell ⟨w+1,0,none⟩ (.slice (some ⟨gb,0,none⟩) (j+1) cap)).setCell ⟨w.heap.size+1+1,0,none⟩ (0:Int)).cell? ⟨w.heap.size+1+1,0,none⟩=some (.int .i64 0):=
   World.cell?_setCell_same' _ _ _ (by rw[World.cell?_setCell_other _ _ _ _ zs,ks];rfl)
  have k6:=cell_kept e6 (grownBy_putObj' _ D (.deferred none)) (fun r e=>by cases e;exact⟨_,hK',rfl⟩)
  have k7:=cell_kept e7 (grownBy_putObj' _ D (.deferred none)) (fun r e=>by cases e;exact⟨_,hK',rfl⟩)
  have r1:=ownsRow_setCell_below hrow (a:=⟨w+1,0,none⟩) (show w.heap.size+1<w3.heap.size by omega) (.slice (some ⟨gb,0,none⟩) (j+1) cap)
  have r2:=ownsRow_setCell_below r1 (a:=⟨w.heap.size+1+1,0,none⟩) (show w.heap.size+1+1<w3.heap.size by omega) (0:Int)
  have r3:=ownsRow_putObj r2 (.deferred none) hK' rfl
  obtain⟨ao',cap',ev,hdays⟩:=zCv (l:=dl X (j+1)) (by simp[dl]) r3
  injection ev with ev1 ev2 ev3
  subst ev1 ev3
  refine⟨.tuple #[.slice (some ⟨gb,0,none⟩) (j+1) cap,(0:Int)],?_,_,cap,rfl,?_,((hB.setCell zw _).setCell zw _).trans (belowK_b (w:=w) (Nat.le_refl _) _ D _ _ zo hK' rfl rfl)⟩
  ·simp[results,Tryz.results88,go_sem,k6,k7]
  ·simpa [Tm.grid] using hdays
 case stop=>
  rintro D c pre W _ _ h _
  exact h.elim
theorem zR8 (mo ra ki co st en ms:Int) (lg eo:Bool) (ro:Int) (X E:Nat→Int) (m:Nat) (w:World) (hL:FactsT w) (hc:(Tm.mk mo ra ki co st en ms true lg eo ro).code=0) (hm : -100≤ms∧ms≤100) (hWk:(Tm.mk mo ra ki co st en ms true lg eo ro).Walk X E m) :
  Calls Tryz.prog 88 #[.agg #[mo,ra,ki,co,st,en,ms,true,lg,eo,ro]] w fun e w'=>∃ao cap,e=.returned (.tuple #[.slice ao (gl E m) cap,(0:Int)])∧DaysAt w' ao (ld ((Tm.mk mo ra ki co st en ms true lg eo ro).grid X (gl E m))) (gl E m) cap∧Below w w w':=by
 have H:=(Held.start w).add (f:=zCm) hL
 have CK:=zh (fun v h=>zKv mo ra ki co st en ms true lg eo ro 0 v h hc)
 have SA:=zh (fun v=>zKe mo ra ki co st en ms true lg eo ro v hm)
 have HWk:=zh hWk
 have GB:=(zJd E m).2
 have top:=hWk.top
 have hlen:=zA0 (hL.1 0 zo)
 obtain⟨K,hKe⟩:∃K,gl E m=K:=⟨_,rfl⟩
 have K1:K≤1101:=zo
 obtain⟨j,rfl⟩:∃j,K=j+1:=⟨K-1,by have:=(zJd E m).1;have:=hWk.one;omega⟩
 rw[hKe]
 clear hL hc hWk
 obtain⟨i0,hi,hz0,hz1,hz2⟩:=info_parts zAo
 refine (callsIn_wide (n:=6)).1 ?_
 refine callsIn_of_wp_marks Tryz.func88 rfl trivial ?_ rfl
 simp only[Tryz.ntmps88,List.size_toArray,List.length_cons,List.length_nil,Nat.reduceAdd,Nat.reduceSub,Array.replicate_succ,Array.replicate_zero,List.push_toArray,List.append_toArray,List.nil_append,List.cons_append]
 gi_wp2_with fail
 replace H:=H.box_11 w mo ra ki co st en ms true lg eo ro 23 rfl
 replace H:=H.lone (w+1) (.slice none 0 0) 26 zs
 replace H:=H.lone (w+2) (0:Int) 36 zs
 refine⟨trivial,?_⟩
 refine (callsIn_wide.2 (CK.out _ (H.factsT))).mono ?_
 rintro e w1 ⟨rfl,hb⟩
 replace H:=H.below hb
 clear hb
 obtain⟨ct0,ct1,ct2,ct3,ct4,ct5,ct6,ct7,ct8,ct9,ct10⟩:=H.cells11 w
 have lt:=zA0 ct0
 gi_wp2_with fail
 clear ct0 ct1 ct2 ct3 ct4 ct5 ct6 ct7 ct8 ct9 ct10 lt
 have hwS:=zA0 (H.cell (w+2) 0 (0:Int))
 replace H:=H.lone w1 (.slice none 0 0) 26 rfl
 have bS0:=Go.Boxed.new w1 26 (.slice none 0 0)
 refine⟨trivial,?_⟩
 refine (callsIn_wide.2 (SA.out _)).mono ?_
 rintro e w3 ⟨B,rfl,hB1,hB2,H3⟩
 replace H:=H.below H3.old
 have bS:=(H3.old.block w1.heap.size (by rw[World.size_alloc];omega)).trans bS0
 simp only[World.size_alloc] at hB1 H3
 obtain⟨S,hS⟩:∃S,w1.heap.size=S:=⟨_,rfl⟩
 gi_wp2_with fail
 rw[hS] at hwS hB1 H3 bS H
 (try rw[hS])
 clear bS0 hS SA CK
 have hw3:=H.old.size
 have hL3:=H.lensT
 have hgl:=hlen
 refine wpIn_rangeFunc_ownG rfl zo (gf:=109) (lb:=#[.pointer (some ⟨B,0,none⟩),.pointer (some ⟨B+1,0,none⟩),.pointer (some ⟨S+1,0,none⟩)]) rfl trivial (enters_of Tryz.func109 zk rfl)
  (zH1 (6-1) zo B (B+1) (S+1) w3.heap.size S mo ra ki co st en ms true lg eo ro X E m HWk _ rfl _ rfl (ap_bd mo ra ki co st en ms true lg eo ro hm) zo zo zo zo zo w3 hL3
   (H3.cell B 0 _) (H3.cell (B+1) 0 _) (H3.cell (S+1) 0 _) (H3.cell (S+1) 1 _) (H3.cell (S+1) 2 _) (H3.cell (S+1) 3 _) (H3.cell (S+1) 4 _) (H3.cell (S+1) 5 _) (H3.cell (S+1) 6 _) (H3.cell (S+1) 7 _) (H3.cell (S+1) 8 _) (H3.cell (S+1) 9 _) (H3.cell (S+1) 10 _))
  (fun h k=>KpS.trans h k)
  (fun W l o o' hl h _ _=>KpS.of_below ((Below.refl w3.heap.size W).grown (grownBy_putObj' W l o') (by have:=(Array.getElem?_eq_some_iff.1 h).1;omega) (fun k e=>by cases e;omega)) (Nat.le_refl _))
  (Below.refl _ _) (fun _=>rfl)
  (fun pre W=>Pg w3.heap.size S w w3 pre W)
  (fun _ _ _=>False)
  (pg_own w3.heap.size S w w3 hw3)
  (fun _ _ _ _ _ hs _ _=>hs)
  ⟨⟨_,bS,World.ownsRow_nil _ _ _ _,trivial⟩,⟨Nat.le_refl _,KpS.refl _ _ _⟩,H.old⟩
  (fun x=>{ tmps:=#[.agg #[.int .i64 mo,.int .i64 ra,.int .i64 ki,.int .i64 co,.int .i64 st,.int .i64 en,.int .i64 ms,.bool true,.bool lg,.bool eo,.int .i64 ro],.pointer (some ⟨w.heap.size,0,none⟩),.pointer (some ⟨w.heap.size+1,0,none⟩),.pointer (some ⟨w.heap.size+1+1,0,none⟩),.int .i64 0,.pointer (some ⟨S,0,none⟩),.int .i64 x,.agg #[.int .i64 mo,.int .i64 ra,.int .i64 ki,.int .i64 co,.int .i64 st,.int .i64 en,.int .i64 ms,.bool true,.bool lg,.bool eo,.int .i64 ro],.int .i64 0,.int .i64 0,.bool false,undef,.agg #[.int .i64 mo,.int .i64 ra,.int .i64 ki,.int .i64 co,.int .i64 st,.int .i64 en,.int .i64 ms,.bool true,.bool lg,.bool eo,.int .i64 ro],.func (.func 109) #[] #[.pointer (some ⟨B,0,none⟩),.pointer (some ⟨B+1,0,none⟩),.pointer (some ⟨S+1,0,none⟩)],.int .i64 x,undef,undef,undef,undef,undef,undef,undef,undef,undef,undef,undef,undef],defers:=[] }) ?assign ?body ?done ?stop
 case assign=>
  intro l x W K hK
  gi_wp2
  exact hK
 case body=>
  exact zqm4x
 case done=>
  rintro D ys W hD rfl ⟨⟨v,hv,hrow,-⟩,⟨hsz,hKp⟩,hB⟩ hK
  rw[zB7,hKe] at hrow
  obtain⟨gb,cap,rfl⟩:=ownsRow_succ hrow
  have hD0:=hD
  have hne:D≠gb:=own_ne hrow hK
  have k7:=(hKp.cell (b:=w.heap.size) (o:=7) zo zo).trans (H.cell w 7 true)
  have hc0:=hv.cell
  have HF:=zh H
  have HKp:=zh hKp
  clear H hKp
  gi_wp2_with fail
  refine⟨trivial,?_⟩
  refine (callsIn_wide.2 (crev_any w3.heap.size (j+1) cap gb (dl X (j+1)) W (by simp[dl]) zo hrow)).mono ?_
  rintro e w5 ⟨rfl,hrow5,hg5⟩
  have gb3:=(World.ownsRow.lt hrow gb rfl)
  have hv5:=hv.kept hg5 (hv.not_row zd hrow)
  have hK5:w5.heap[D]?=some (.deferred (some [])):=(hg5.block D (Array.getElem?_eq_some_iff.1 hK).1 (fun e=>hne (Option.some.inj e))).trans hK
  have hKp5:KpS w3.heap.size S w3 w5:=fun k hk hS=>(hg5.block k zo (fun e=>by have:=Option.some.inj e;omega)).trans (HKp.out k hk hS)
  have hB5:=hB.grown hg5 (Nat.le_trans hw3 hsz) (fun k e=>by have:=Option.some.inj e;omega)
  have H:=HF.out
  have hsz5:=Nat.le_trans hsz hg5.size
  clear hv hK HKp hB hrow hc0 k7 HF hsz hg5
  have hv:=hv5
  have hK:=hK5
  have hKp:=hKp5
  have hB:=hB5
  have hrow:=hrow5
  clear hv5 hK5 hKp5 hB5 hrow5
  have hc:=hv.cell
  have kr:=(hKp.cell (b:=w.heap.size+1) (o:=0) zo zo).trans (H.cell (w+1) 0 (.slice none 0 0))
  have fr:=(hKp.frozen (b:=w.heap.size+1) (o:=0) zo zo).trans (H.frozen (w+1) 0)
  have ks:w5.cell? ⟨w.heap.size+1+1,0,none⟩=some (.int .i64 0):=(hKp.cell (b:=w.heap.size+2) (o:=0) zo zo).trans (H.cell (w+2) 0 (0:Int))
  have fs:w5.frozen? ⟨w.heap.size+1+1,0,none⟩=false:=(hKp.frozen (b:=w.heap.size+2) (o:=0) zo zo).trans (H.frozen (w+2) 0)
  have d0:S≠w.heap.size+1:=zo
  have d1:S≠w.heap.size+1+1:=zo
  have HF:=zh H
  have HKp:=zh hKp
  clear H hKp H3 bS
  gi_wp2
  have hK':=((KeepsOthers.setCell w5 ⟨w+1,0,none⟩ (.slice (some ⟨gb,0,none⟩) (j+1) cap)).trans (KeepsOthers.setCell _ ⟨w.heap.size+1+1,0,none⟩ (0:Int))).same D _ hK rfl
  refine⟨zs,.inl ⟨_,_,rfl,run_takeDeferred hK',?_⟩⟩
  have e6:((w5.setCell ⟨w+1,0,none⟩ (.slice (some ⟨gb,0,none⟩) (j+1) cap)).setCell ⟨w.heap.size+1+1,0,none⟩ (0:Int)).cell? ⟨w+1,0,none⟩=some (.slice (some ⟨gb,0,none⟩) (j+1) cap):=by
   rw[World.cell?_setCell_other _ _ _ _ zs]
   exact World.cell?_setCell_same' _ _ _ (by rw[kr];rfl)
  have e7:((w5.setCell ⟨w+1,0,none⟩ (.slice (some ⟨gb,0,none⟩) (j+1) cap)).setCell ⟨w.heap.size+1+1,0,none⟩ (0:Int)).cell? ⟨w.heap.size+1+1,0,none⟩=some (.int .i64 0):=
   World.cell?_setCell_same' _ _ _ (by rw[World.cell?_setCell_other _ _ _ _ zs,ks];rfl)
  have k6:=cell_kept e6 (grownBy_putObj' _ D (.deferred none)) (fun r e=>by cases e;exact⟨_,hK',rfl⟩)
  have k7:=cell_kept e7 (grownBy_putObj' _ D (.deferred none)) (fun r e=>by cases e;exact⟨_,hK',rfl⟩)
  have r1:=ownsRow_setCell_below hrow (a:=⟨w+1,0,none⟩) (show w.heap.size+1<w3.heap.size by omega) (.slice (some ⟨gb,0,none⟩) (j+1) cap)
  have r2:=ownsRow_setCell_below r1 (a:=⟨w.heap.size+1+1,0,none⟩) (show w.heap.size+1+1<w3.heap.size by omega) (0:Int)
  have r3:=ownsRow_putObj r2 (.deferred none) hK' rfl
  obtain⟨ao',cap',ev,hdays⟩:=zCv (l:=(dl X (j+1)).reverse) (by simp[dl]) r3
  injection ev with ev1 ev2 ev3
  subst ev1 ev3
  refine⟨.tuple #[.slice (some ⟨gb,0,none⟩) (j+1) cap,(0:Int)],?_,_,cap,rfl,?_,((hB.setCell zw _).setCell zw _).trans (belowK_b (w:=w) (Nat.le_refl _) _ D _ _ zo hK' rfl rfl)⟩
  ·simp[results,Tryz.results88,go_sem,k6,k7]
  ·simpa [Tm.grid] using hdays
 case stop=>
  rintro D c pre W _ _ h _
  exact h.elim
end Go.Proofs.YtpfgdfpaoldhcaaGreatDoor
namespace Go.Proofs.YtpfgdfpaoldhcaaGreatDoor
open Go.RowKit Go.Shelf
theorem zMv (mo ra ki co st en ms:Int) (bk lg eo:Bool) (ro:Int) (X E:Nat→Int) (m:Nat) (w:World) (hL:FactsT w) (hc:(Tm.mk mo ra ki co st en ms bk lg eo ro).code=0) (hm : -100≤ms∧ms≤100) (hWk:(Tm.mk mo ra ki co st en ms bk lg eo ro).Walk X E m) :
  Calls Tryz.prog 88 #[.agg #[mo,ra,ki,co,st,en,ms,bk,lg,eo,ro]] w fun e w'=>∃ao cap,e=.returned (.tuple #[.slice ao (gl E m) cap,(0:Int)])∧DaysAt w' ao (ld ((Tm.mk mo ra ki co st en ms bk lg eo ro).grid X (gl E m))) (gl E m) cap∧Below w w w':=by
 cases bk
 ·exact zO5 mo ra ki co st en ms lg eo ro X E m w hL hc hm hWk
 ·exact zR8 mo ra ki co st en ms lg eo ro X E m w hL hc hm hWk
def Fact.low (b:Nat):Fact→Prop
 | .cell c _ _=>c<b
 | .free c _=>c<b
 | .is c _=>c<b
 | .that P _=>False
theorem Held.upto {w W1 W:World} {fs:List Fact} (h:Held w fs W1) (b:Nat) (hb:Below b W1 W) (hw:w.heap.size≤b) (hoff:∀f∈fs,f.low b):Held w fs W:=by
 refine⟨h.old.trans (hb.mono hw),fun f hf=>?_⟩
 have a:=h.all f hf
 have k:=hoff f hf
 cases f with
 | cell c i v=>exact (hb.cell (p:=⟨c,i,none⟩) k).trans a
 | free c i=>exact⟨Nat.lt_of_lt_of_le a.1 hb.size,(hb.frozen (p:=⟨c,i,none⟩) k).trans a.2⟩
 | is c i=>
  have e:=hb.cell (p:=⟨c,i,none⟩) k
  show (W.cell? ⟨c,i,none⟩).isSome=true
  rw[e];exact a
 | that P h=>exact k.elim
theorem ld_tail (l:List Int) (i:Nat):ld l.tail i=ld l (i+1):=by simp[ld]
theorem ld_take {l:List Int} {k i:Nat} (h:i<k):ld (l.take k) i=ld l i:=by simp[ld,List.getElem?_take,h]
theorem Tm.inn_succ (t:Tm) (X:Nat→Int) (k:Nat):t.inn (dl X (k+1))=t.inn (dl X k)++(if t.btw (X k)=true then [X k] else []):=by
 unfold Tm.inn
 rw[zF7,List.filter_append]
 congr 1
 by_cases h:t.btw (X k)=true
 ·rw[if_pos h,List.filter_cons_of_pos h];rfl
 ·rw[if_neg h,List.filter_cons_of_neg h];rfl
theorem zRc (mo ra ki co st en ms:Int) (bk lg eo:Bool) (ro:Int) (ao:Option Addr) (n cap:Nat) (X:Nat→Int) (L:List Int) (w:World) (hn:n≤1200) (hm : -100≤ms∧ms≤100) (hD:DaysAt w ao X n cap) (hL:(Tm.mk mo ra ki co st en ms bk lg eo ro).kept (dl X n)=L) :
  Calls Tryz.prog 91 #[.agg #[mo,ra,ki,co,st,en,ms,bk,lg,eo,ro],.slice ao n cap] w fun e w'=>∃ao' cap',e=.returned (.slice ao' L.length cap')∧DaysAt w' ao' (ld L) L.length cap'∧Below w w w':=by
 obtain⟨i0,hi,hz0,hz1,hz2⟩:=info_parts zAo
 have KD:=zh hD
 have EN:=zh (fun v=>zMq mo ra ki co st en ms bk lg eo ro v hm)
 have BT:=zh (fun x b v h=>zGb mo ra ki co st en ms bk lg eo ro x b v h)
 have HL:=zh hL
 clear hD hL
 go_enter Tryz.func91,Tryz.ntmps91
 go_wp2_with fail
 have H:=(Held.start w).box_11 w mo ra ki co st en ms bk lg eo ro 23 rfl
 obtain⟨W1,hW1⟩:∃W1,w.alloc (.cells #[mo,ra,ki,co,st,en,ms,bk,lg,eo,ro] 23)=W1:=⟨_,rfl⟩
 have hs1:w.heap.size<W1.heap.size:=by rw[←hW1,World.size_alloc];omega
 rw[hW1] at H ⊢
 clear hW1
 have HH:=zh H
 clear H
 go_loopw [5,7,13] (fun v d i wr=>∃k:Nat,k≤n∧i=.int .i64 (k:Int)∧wr.ownsRow W1.heap.size 3 1 v ((Tm.mk mo ra ki co st en ms bk lg eo ro).inn (dl X k)).length (il ((Tm.mk mo ra ki co st en ms bk lg eo ro).inn (dl X k)))∧Below W1 W1 wr) (fun _ _ i _=>n-(intOf i).toNat)
 case atStart=>exact⟨0,zo,rfl,World.ownsRow_nil _ _ _ _,Below.refl _ _⟩
 case round=>
  obtain⟨k,hk,rfl,hown,hB⟩:=hrel
  have hsz:=hB.size
  have HO:=zh hown
  have HB:=zh hB
  by_cases hlt:k<n
  ·have KK:=zh (KD.out.below (HH.out.old.trans (hB.mono zo) |> fun x=>x))
   obtain⟨bA,oA,rfl,da⟩:=KK.out.2 zo
   have ka:=da k hlt
   have kc:=KK.out.1
   have ct0:=(hB.cell (p:=⟨w,0,none⟩) zx).trans (HH.out.cell w 0 mo)
   have ct1:=(hB.cell (p:=⟨w,1,none⟩) zx).trans (HH.out.cell w 1 ra)
   have ct2:=(hB.cell (p:=⟨w,2,none⟩) zx).trans (HH.out.cell w 2 ki)
   have ct3:=(hB.cell (p:=⟨w,3,none⟩) zx).trans (HH.out.cell w 3 co)
   have ct4:=(hB.cell (p:=⟨w,4,none⟩) zx).trans (HH.out.cell w 4 st)
   have ct5:=(hB.cell (p:=⟨w,5,none⟩) zx).trans (HH.out.cell w 5 en)
   have ct6:=(hB.cell (p:=⟨w,6,none⟩) zx).trans (HH.out.cell w 6 ms)
   have ct7:=(hB.cell (p:=⟨w,7,none⟩) zx).trans (HH.out.cell w 7 bk)
   have ct8:=(hB.cell (p:=⟨w,8,none⟩) zx).trans (HH.out.cell w 8 lg)
   have ct9:=(hB.cell (p:=⟨w,9,none⟩) zx).trans (HH.out.cell w 9 eo)
   have ct10:=(hB.cell (p:=⟨w,10,none⟩) zx).trans (HH.out.cell w 10 ro)
   obtain⟨b,hb⟩:∃b,(Tm.mk mo ra ki co st en ms bk lg eo ro).btw (X k)=b:=⟨_,rfl⟩
   obtain⟨x,hx⟩:∃x,X k=x:=⟨_,rfl⟩
   rw[hx] at ka hb
   have B1:=zh (fun v=>BT.out x b v hb)
   have HX:=zh hx
   have HBb:=zh hb
   clear da hb hx hown hB
   go_wp2_with fail
   clear ct0 ct1 ct2 ct3 ct4 ct5 ct6 ct7 ct8 ct9 ct10 ka kc
   with_reducible refine (B1.out _).mono ?_
   rintro e w2 ⟨rfl,hb⟩
   have hown2:=zAp HO.out hb
   have hB2:=HB.out.trans (hb.mono hsz)
   have hz2':=hB2.size
   clear hb B1
   cases b
   ·have ES:Hid ((Tm.mk mo ra ki co st en ms bk lg eo ro).inn (dl X (k+1))=(Tm.mk mo ra ki co st en ms bk lg eo ro).inn (dl X k)):=zh (by rw[Tm.inn_succ,HX.out,if_neg (by rw[HBb.out];decide),List.append_nil])
    go_wp2
    go_roundw
    case rel=>exact⟨k+1,zo,by go_num,by rw[ES.out];exact hown2,hB2⟩
    case measure=>simp[intOf];omega
   ·have ES:Hid ((Tm.mk mo ra ki co st en ms bk lg eo ro).inn (dl X (k+1))=(Tm.mk mo ra ki co st en ms bk lg eo ro).inn (dl X k)++[x]):=zh (by rw[Tm.inn_succ,HX.out,if_pos HBb.out])
    have ln:=Tm.inn_len (Tm.mk mo ra ki co st en ms bk lg eo ro) (dl X k)
    rw[zB7] at ln
    go_wp2_with (first
     | (at_builtin;refine wpList_append_own _ rfl _ _ 26 rfl W1.heap.size 3 i0 (0:Int) 1 8 Tryz.underlying26 hi hz0 hz1 hz2 rfl zd _ _ _ rfl (zAp (hown2.alloc _) (Below.refl _ _)) ⟨w2,0,none⟩ 1 1 [.int .i64 x] rfl rfl ?c1 ?c2 ?c3 ?c4 ?c5 ?_)
     | go_in)
    case c1=>exact cell_one_new _ _ _
    case c2=>intro u hu;simp at hu;subst hu;rfl
    case c3=>unfold maxLen;omega
    case c4=>omega
    case c5=>simp;omega
    ·intro v' w3 hown' hgrow _
     have R:=(((Below.refl W1.heap.size w2).alloc zo _).grown hgrow zx (fun k hk=>(World.ownsRow.lt hown2 k hk).1))
     rw[zR9] at hown'
     have OW:=zh hown'
     have hB3:=hB2.trans R
     clear hgrow hown2 hown' R
     go_wp2
     go_roundw
     case rel=>exact⟨k+1,zo,by go_num,by rw[ES.out,List.length_append,List.length_singleton];exact OW.out,hB3⟩
     case measure=>simp[intOf];omega
  ·obtain rfl:k=n:=zo
   obtain⟨aI,cI,rfl,hI⟩:=zCv rfl hown
   have H:=((HH.out.upto W1.heap.size hB zo (by intro f hf;simp only[List.mem_cons,List.not_mem_nil,or_false] at hf;rcases hf with rfl | rfl | rfl | rfl | rfl | rfl | rfl | rfl | rfl | rfl | rfl | rfl | rfl | rfl | rfl | rfl | rfl | rfl | rfl | rfl | rfl | rfl <;> (show w.heap.size<_;omega))).add (f:=zAb aI _ _ _) hI).add (f:=zAb ao X k cap) (KD.out.below (HH.out.old.trans (hB.mono zo)))
   obtain⟨li,hli⟩:∃li,(Tm.mk mo ra ki co st en ms bk lg eo ro).inn (dl X k)=li:=⟨_,rfl⟩
   rw[hli] at hI H ⊢
   have HI:=zh hli
   have ln:li.length≤k:=by rw[←hli];have:=Tm.inn_len (Tm.mk mo ra ki co st en ms bk lg eo ro) (dl X k);rwa [zB7] at this
   clear hown hB hI HO HB hli BT hlt
   obtain⟨ct0,ct1,ct2,ct3,ct4,ct5,ct6,ct7,ct8,ct9,ct10⟩:=H.cells11 w
   have lct:=zA0 ct0
   go_wp2_with fail
   clear ct0 ct1 ct2 ct3 ct4 ct5 ct6 ct7 ct8 ct9 ct10 lct
   with_reducible refine (EN.out _).mono ?_
   rintro e w3 ⟨rfl,hb⟩
   replace H:=H.below hb
   clear hb EN
   cases lg
   ·have ek:(Tm.mk mo ra ki co st en ms bk false eo ro).kept (dl X k)=li:=by unfold Tm.kept;rw[if_neg (fun h=>by cases h.1),HI.out]
    obtain rfl:li=L:=ek.symm.trans HL.out
    obtain⟨ct0,ct1,ct2,ct3,ct4,ct5,ct6,ct7,ct8,ct9,ct10⟩:=H.cells11 w
    have lct:=zA0 ct0
    go_wp2
    go_ret
    exact⟨aI,cI,rfl,H.days,H.old⟩
   ·by_cases hz:li.length=0
    ·have e0:li=[]:=List.length_eq_zero_iff.1 hz
     have ek:(Tm.mk mo ra ki co st en ms bk true eo ro).kept (dl X k)=li:=by unfold Tm.kept;rw[if_neg (fun h=>h.2.1 (by rw[HI.out,e0])),HI.out]
     obtain rfl:li=L:=ek.symm.trans HL.out
     have t1:((li.length:Int)==0)=true:=by rw[hz];rfl
     obtain⟨ct0,ct1,ct2,ct3,ct4,ct5,ct6,ct7,ct8,ct9,ct10⟩:=H.cells11 w
     have lct:=zA0 ct0
     go_wp2
     go_ret
     exact⟨aI,cI,by rw[hz];rfl,H.days,H.old⟩
    ·have t1:((li.length:Int)==0)=false:=by rw[beq_eq_false_iff_ne];omega
     have hk0:0<k:=zo
     obtain⟨bb,hbb⟩:∃bb,decide ((Tm.mk mo ra ki co st en ms bk true eo ro).ot∈dl X k)=bb:=⟨_,rfl⟩
     obtain⟨bA,oA,rfl,hc⟩:=(H.days (ao:=ao) (X:=X) (n:=k) (cap:=cap)).2 hk0
     have CT:=zh (Tryz.slices_Contains_int bA oA k cap (dl X k) (Tm.mk mo ra ki co st en ms bk true eo ro).ot w3 (by rw[zB7];omega) zo (fun j hj=>by rw[zB7] at hj;rw[hc j hj];simp[dl,hj]))
     have eb:((dl X k).take k).contains (Tm.mk mo ra ki co st en ms bk true eo ro).ot=bb:=by
      rw[List.take_of_length_le (by rw[zB7];omega),←hbb]
      simp
     rw[eb] at CT
     have HBB:=zh hbb
     clear hc hbb eb
     obtain⟨ct0,ct1,ct2,ct3,ct4,ct5,ct6,ct7,ct8,ct9,ct10⟩:=H.cells11 w
     have lct:=zA0 ct0
     go_wp2_with fail
     clear ct0 ct1 ct2 ct3 ct4 ct5 ct6 ct7 ct8 ct9 ct10 lct
     with_reducible refine (CT.out).mono ?_
     rintro e w4 ⟨rfl,rfl⟩
     cases bb
     ·obtain⟨bI,oI,rfl,hI⟩:=(H.days (ao:=aI)).2 zo
      have hcap:=(H.days (ao:=some ⟨bI,oI,none⟩) (X:=ld li) (n:=li.length) (cap:=cI)).1
      have hday:=(H.days (ao:=some ⟨bI,oI,none⟩) (X:=ld li) (n:=li.length) (cap:=cI))
      have hin:(Tm.mk mo ra ki co st en ms bk true eo ro).ot∉dl X k:=of_decide_eq_false HBB.out
      have hne:(Tm.mk mo ra ki co st en ms bk true eo ro).inn (dl X k)≠[]:=by rw[HI.out];intro e;rw[e] at hz;exact hz rfl
      cases bk
      ·have ek:(Tm.mk mo ra ki co st en ms false true eo ro).kept (dl X k)=li.take (li.length-1):=by unfold Tm.kept;rw[if_pos ⟨rfl,hne,hin⟩,if_neg (fun h=>by cases h),HI.out]
       obtain rfl:li.take (li.length-1)=L:=ek.symm.trans HL.out
       obtain⟨ct0,ct1,ct2,ct3,ct4,ct5,ct6,ct7,ct8,ct9,ct10⟩:=H.cells11 w
       have lct:=zA0 ct0
       go_wp2
       have lt:(li.take (li.length-1)).length=li.length-1:=by rw[List.length_take];omega
       go_ret
       exact⟨some ⟨bI,oI,none⟩,cI,by rw[lt];rfl,by rw[lt];exact (hday.take zo).ext (fun i hi=>(ld_take zo).symm),H.old⟩
      ·have ek:(Tm.mk mo ra ki co st en ms true true eo ro).kept (dl X k)=li.drop 1:=by unfold Tm.kept;rw[if_pos ⟨rfl,hne,hin⟩,if_pos rfl,HI.out]
       obtain rfl:li.drop 1=L:=ek.symm.trans HL.out
       obtain⟨ct0,ct1,ct2,ct3,ct4,ct5,ct6,ct7,ct8,ct9,ct10⟩:=H.cells11 w
       have lct:=zA0 ct0
       go_wp2
       all_goals
        go_ret
        first
         | exact⟨_,_,rfl,(hday.drop (k:=1) zo).ext (fun i hi=>by rw[ld_tail,Nat.add_comm]),H.old⟩
         | exact⟨_,_,rfl,⟨zo,fun h=>absurd h zo⟩,H.old⟩
     ·have hin:(Tm.mk mo ra ki co st en ms bk true eo ro).ot∈dl X k:=of_decide_eq_true HBB.out
      have ek:(Tm.mk mo ra ki co st en ms bk true eo ro).kept (dl X k)=li:=by unfold Tm.kept;rw[if_neg (fun h=>h.2.2 hin),HI.out]
      obtain rfl:li=L:=ek.symm.trans HL.out
      go_wp2
      go_ret
      exact⟨aI,cI,rfl,H.days,H.old⟩
end Go.Proofs.YtpfgdfpaoldhcaaGreatDoor
namespace Go.Proofs.YtpfgdfpaoldhcaaGreatDoor
open Go.RowKit
theorem of_no (mo ra ki co st en ms:Int) (bk lg eo:Bool) (ro:Int) (c:Int) (w:World) (hL:FactsT w) (hc:(Tm.mk mo ra ki co st en ms bk lg eo ro).code=c) (h0:c≠0) :
  Calls Tryz.prog 85 #[.agg #[mo,ra,ki,co,st,en,ms,bk,lg,eo,ro]] w fun e w'=>e=.returned (.tuple #[.slice none 0 0,c])∧Below w w w':=by
 have H:=(Held.start w).add (f:=zCm) hL
 have GN:=zh (fun v h=>grid_no mo ra ki co st en ms bk lg eo ro c v h hc h0)
 have CE:Hid ((c==0)=false):=zh (by simpa using h0)
 have CN:Hid ((c != 0)=true):=zh (by simpa using h0)
 clear hL hc
 go_enter Tryz.func85,Tryz.ntmps85
 go_wp2_with fail
 replace H:=H.box_11 w mo ra ki co st en ms bk lg eo ro 23 rfl
 revert H
 with_reducible refine zG (fun H=>GN.out _ (H.factsT)) ?_
 intro w1 H
 have ce:=CE.out
 have cn:=CN.out
 go_wp2
 go_ret2
 exact⟨rfl,H.old⟩
theorem of_yes (mo ra ki co st en ms:Int) (bk lg eo:Bool) (ro:Int) (X E:Nat→Int) (m:Nat) (D:List Int) (w:World) (hL:FactsT w) (hc:(Tm.mk mo ra ki co st en ms bk lg eo ro).code=0) (hm : -100≤ms∧ms≤100) (hWk:(Tm.mk mo ra ki co st en ms bk lg eo ro).Walk X E m) (hD:(Tm.mk mo ra ki co st en ms bk lg eo ro).days ((Tm.mk mo ra ki co st en ms bk lg eo ro).grid X (gl E m))=D) :
  Calls Tryz.prog 85 #[.agg #[mo,ra,ki,co,st,en,ms,bk,lg,eo,ro]] w fun e w'=>∃ao cap,e=.returned (.tuple #[.slice ao D.length cap,(0:Int)])∧DaysAt w' ao (ld D) D.length cap∧Below w w w':=by
 have H:=(Held.start w).add (f:=zCm) hL
 have GA:=zh (fun v h=>zMv mo ra ki co st en ms bk lg eo ro X E m v h hc hm hWk)
 obtain⟨K,hKe⟩:∃K,gl E m=K:=⟨_,rfl⟩
 have GB:=(zJd E m).2
 have top:=hWk.top
 rw[hKe] at GA GB
 obtain⟨G,hG⟩:∃G,(Tm.mk mo ra ki co st en ms bk lg eo ro).grid X K=G:=⟨_,rfl⟩
 rw[hKe,hG] at hD
 rw[hG] at GA
 have gl1:G.length=K:=by rw[←hG];exact Tm.grid_len _ _ _
 obtain⟨L,hLk⟩:∃L,(Tm.mk mo ra ki co st en ms bk lg eo ro).kept G=L:=⟨_,rfl⟩
 have kl:=Tm.kept_len (Tm.mk mo ra ki co st en ms bk lg eo ro) G
 rw[hLk,gl1] at kl
 have hlen:L.length+2=D.length:=by rw[←hD,Tm.days_len,hLk]
 have hdd:[st]++L++[en]=D:=by rw[←hD,Tm.days_app,hLk]
 have IN:=zh (fun ao cap v h=>zRc mo ra ki co st en ms bk lg eo ro ao K cap (ld G) L v zo hm h (by rw[←hLk,←gl1,dl_ld]))
 have HDD:=zh hdd
 have HLEN:=zh hlen
 clear hL hc hWk hD hG hLk hKe hdd gl1 hlen
 go_enter Tryz.func85,Tryz.ntmps85
 go_wp2_with fail
 replace H:=H.box_11 w mo ra ki co st en ms bk lg eo ro 23 rfl
 with_reducible refine (GA.out _ (H.factsT)).mono ?_
 rintro e w1 ⟨ao,cap,rfl,hdays,hb⟩
 replace H:=(H.below hb).add (f:=zAb ao (ld G) K cap) hdays
 clear hb hdays GA
 obtain⟨ct0,ct1,ct2,ct3,ct4,ct5,ct6,ct7,ct8,ct9,ct10⟩:=H.cells11 w
 have lt:=zA0 ct0
 go_wp2_with fail
 clear ct0 ct1 ct2 ct3 ct4 ct5 ct6 ct7 ct8 ct9 ct10 lt
 with_reducible refine (IN.out _ _ _ (H.days)).mono ?_
 rintro e w2 ⟨ao2,cap2,rfl,hdays,hb⟩
 replace H:=(H.below hb).add (f:=zAb ao2 (ld L) L.length cap2) hdays
 clear hb hdays IN
 have l1:L.length≤1101:=zo
 have t1:decide ((L.length:Int)+1>1200)=false:=decide_eq_false zo
 obtain⟨ct0,ct1,ct2,ct3,ct4,ct5,ct6,ct7,ct8,ct9,ct10⟩:=H.cells11 w
 have lt:=zA0 ct0
 go_wp2_with fail
 clear ct0 ct1 ct2 ct3 ct4 ct5 ct6 ct7 ct8 ct9 ct10 lt
 have R2:=row_days (H.days (ao:=ao2) (X:=ld L))
 rw[dl_ld] at R2
 have R1:=zT7 w2 st
 have R3:=zT7 (w2.alloc (.cells #[st] 3)) en
 rw[World.size_alloc] at R3
 obtain⟨W3,hW3⟩:∃W3,((w2.alloc (.cells #[st] 3)).alloc (.cells #[en] 3))=W3:=⟨_,rfl⟩
 have B3:Below w2 w2 W3:=by rw[←hW3];exact ((Below.refl _ _).alloc (Nat.le_refl _) _).alloc zs _
 have s3:W3.heap.size=w2.heap.size+1+1:=by rw[←hW3];simp
 have Q1:=R1.alloc (.cells #[en] 3)
 rw[hW3] at Q1 R3
 have Q2:=R2.below B3
 obtain⟨W4,hW4⟩:∃W4,W3.alloc (.cells #[.slice (some ⟨w2,0,none⟩) 1 1,.slice ao2 L.length cap2,.slice (some ⟨w2+1,0,none⟩) 1 1] 26)=W4:=⟨_,rfl⟩
 rw[hW3,hW4]
 have c0:W4.cell? ⟨w2.heap.size+1+1,0,none⟩=some (.slice (some ⟨w2,0,none⟩) 1 1):=by rw[←s3,←hW4];simp[World.cell?_alloc_new]
 have c1:W4.cell? ⟨w2.heap.size+1+1,1,none⟩=some (.slice ao2 L.length cap2):=by rw[←s3,←hW4];simp[World.cell?_alloc_new]
 have c2:W4.cell? ⟨w2.heap.size+1+1,2,none⟩=some (.slice (some ⟨w2+1,0,none⟩) 1 1):=by rw[←s3,←hW4];simp[World.cell?_alloc_new]
 have B4:Below W3 W3 W4:=by rw[←hW4];exact (Below.refl _ _).alloc (Nat.le_refl _) _
 have P1:=Q1.below B4
 have P2:=Q2.below B4
 have P3:=R3.below B4
 replace H:=(H.below B3).below B4
 clear hW3 hW4 s3 R1 R2 R3 Q1 Q2 B3 B4 t1
 with_reducible refine (ccat_3 (w2.heap.size+1+1) (some ⟨w2,0,none⟩) 1 1 [st] ao2 L.length cap2 (il L) (some ⟨w2+1,0,none⟩) 1 1 [en] W4 c0 c1 c2 P1 P2 P3 zo zo zo).mono ?_
 rintro e w5 ⟨v,rfl,hown,hb⟩
 replace H:=H.below hb
 rw[show [Value.int .i64 st]++il L++[Value.int .i64 en]=il D by rw[←HDD.out];simp[il],show 1+L.length+1=D.length by have:=HLEN.out;omega] at hown
 obtain⟨aD,cD,rfl,hd⟩:=zCv rfl hown
 clear hown hb c0 c1 c2 P1 P2 P3
 go_wp2
 go_ret2
 exact⟨aD,cD,rfl,hd,H.old⟩
end Go.Proofs.YtpfgdfpaoldhcaaGreatDoor
