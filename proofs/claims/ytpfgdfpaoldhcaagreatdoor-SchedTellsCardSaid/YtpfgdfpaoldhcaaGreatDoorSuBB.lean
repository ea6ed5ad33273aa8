/- Several texts in one: DaRefB. -/
import Derived.Test.YtpfgdfpaoldhcaaGreatDoorSuBA
set_option maxHeartbeats 8000000
set_option maxRecDepth 100000
set_option linter.unusedVariables false
set_option linter.unusedSimpArgs false
namespace Go.Proofs.YtpfgdfpaoldhcaaGreatDoor
open Go.RowKit
theorem Row13.lt16 {W:World} {b:Nat} {l:List Value} (h:Row13 W 1 (some ⟨b,0,none⟩) 1 l):b<W.heap.size:=by
 obtain⟨b',o',e,hc⟩:=h.2.2 zo
 injection e with e
 injection e with e1 e2 _
 subst e1 e2
 have l1:=h.1
 obtain⟨u,hu⟩:∃u,l[0]?=some u:=⟨l[0]'zo,List.getElem?_eq_getElem zo⟩
 have:=hc 0 u hu
 rw[zA9] at this
 exact zA0 this
theorem rof_no (mo ra ki co st en ms:Int) (bk lg eo:Bool) (ro:Int) (c:Int) (w:World) (hc:(Tm.mk mo ra ki co st en ms bk lg eo ro).code=c) (h0:c≠0) :
  Calls Tryz.prog 27 #[.agg #[mo,ra,ki,co,st,en,ms,bk,lg,eo,ro]] w fun e w'=>e=.returned (.tuple #[.slice none 0 0,c])∧Below w w w':=by
 have H:=Held.start w
 have CK:=zh (fun v=>rgrid_no mo ra ki co st en ms bk lg eo ro c v hc h0)
 have CN:Hid ((c != 0)=true):=zh (by simpa using h0)
 have CE:Hid ((c==0)=false):=zh (by simpa using h0)
 clear hc
 go_enter Tryz.func27,Tryz.ntmps27
 exact zqdly
theorem Held.sub2 {w W:World} {fs:List Fact} {a:Option Addr} {X:Nat→Int} {n c:Nat} {B:Nat} {x y:Value} (h:Held w fs W) (hd:DaysAt W a X n c) (h1:Fact.cell B 4 x∈fs) (h2:Fact.cell B 5 y∈fs):Held w [zAb a X n c,.cell B 4 x,.cell B 5 y] W:=
 ⟨h.old,fun f hf=>by
  simp only[List.mem_cons,List.not_mem_nil,or_false] at hf
  rcases hf with rfl | rfl | rfl
  ·exact hd
  ·exact h.all _ h1
  ·exact h.all _ h2⟩
theorem rof_false (mo ra ki co st en ms:Int) (lg eo:Bool) (ro:Int) (X E:Nat→Int) (m:Nat) (D:List Int) (w:World) (ho:st<en) (hc:(Tm.mk mo ra ki co st en ms false lg eo ro).code=0) (hm : -100≤ms∧ms≤100) (hWk:(Tm.mk mo ra ki co st en ms false lg eo ro).Walk X E m) (hD:(Tm.mk mo ra ki co st en ms false lg eo ro).days ((Tm.mk mo ra ki co st en ms false lg eo ro).grid X (gl E m))=D) :
  Calls Tryz.prog 27 #[.agg #[mo,ra,ki,co,st,en,ms,false,lg,eo,ro]] w fun e w'=>∃ao cap,e=.returned (.tuple #[.slice ao D.length cap,(0:Int)])∧DaysAt w' ao (ld D) D.length cap∧Below w w w':=by
 have H:=Held.start w
 have GA:=zh (fun v=>rgrid_false mo ra ki co st en ms lg eo ro X E m v hc hm hWk)
 obtain⟨K,hKe⟩:∃K,gl E m=K:=⟨_,rfl⟩
 have GB:=(zJd E m).2
 have top:=hWk.top
 rw[hKe] at GA GB
 obtain⟨G,hG⟩:∃G,(Tm.mk mo ra ki co st en ms false lg eo ro).grid X K=G:=⟨_,rfl⟩
 rw[hKe,hG] at hD
 rw[hG] at GA
 have gl1:G.length=K:=by rw[←hG];exact Tm.grid_len _ _ _
 obtain⟨L,hLk⟩:∃L,(Tm.mk mo ra ki co st en ms false lg eo ro).kept G=L:=⟨_,rfl⟩
 have kl:=Tm.kept_len (Tm.mk mo ra ki co st en ms false lg eo ro) G
 rw[hLk,gl1] at kl
 have hlen:L.length+2=D.length:=by rw[←hD,Tm.days_len,hLk]
 have hdd:[st]++L++[en]=D:=by rw[←hD,Tm.days_app,hLk]
 have HG:Hid (dl (ld G) K=G):=zh (by rw[←gl1,dl_ld])
 have HDD:=zh hdd
 have HLEN:=zh hlen
 have HLK:=zh hLk
 clear hc hWk hD hG hLk hKe hdd gl1 hlen
 obtain⟨i0,hi,hz0,hz1,hz2⟩:=info_parts zAo
 go_enter Tryz.func27,Tryz.ntmps27
 go_wp2_with fail
 replace H:=H.box_11 w mo ra ki co st en ms false lg eo ro 23 rfl
 with_reducible refine (GA.out _).mono ?_
 rintro e w1 ⟨ao,cap,rfl,hdays,hb⟩
 replace H:=H.below hb
 clear hb GA
 have hW1:=zA0 (H.cell w 0 mo)
 have hw1:=H.size
 have HH:=zh H
 have KD:=zh hdays
 clear H hdays
 go_wp2_with fail
 go_loopw [6,7,8] (fun v s i wr=>∃k:Nat,k≤K∧i=.int .i64 (k:Int)∧s=.bool (decide (en∉dl (ld G) k))∧wr.ownsRow w1.heap.size 3 1 v ((Tm.mk mo ra ki co st en ms false lg eo ro).inn (dl (ld G) k)).length (il ((Tm.mk mo ra ki co st en ms false lg eo ro).inn (dl (ld G) k)))∧Below w1 w1 wr) (fun _ _ i _=>K-(intOf i).toNat)
 case atStart=>exact⟨0,zo,rfl,by simp[dl],World.ownsRow_nil _ _ _ _,Below.refl _ _⟩
 case round=>
  obtain⟨k,hk,rfl,rfl,hown,hB⟩:=hrel
  have hsz:=hB.size
  have HO:=zh hown
  have HB:=zh hB
  by_cases hlt:k<K
  ·obtain⟨bA,oA,rfl,da⟩:=(KD.out.below hB).2 zo
   have kc:=KD.out.1
   have ka:=da k hlt
   have ct4:=(hB.cell (p:=⟨w,4,none⟩) hW1).trans (HH.out.cell w 4 st)
   have ct5:=(hB.cell (p:=⟨w,5,none⟩) hW1).trans (HH.out.cell w 5 en)
   have ct7:=(hB.cell (p:=⟨w,7,none⟩) hW1).trans (HH.out.cell w 7 false)
   obtain⟨x,hx⟩:∃x,ld G k=x:=⟨_,rfl⟩
   rw[hx] at ka
   have HX:=zh hx
   obtain⟨s,hs⟩:∃s,decide (en∉dl (ld G) k)=s:=⟨_,rfl⟩
   rw[hs]
   have HS:=zh hs
   clear da hx hs
   by_cases hbtw:st<x∧x<en
   ·have heq:x≠en:=zo
    have t1:decide (x>st)=true:=decide_eq_true zo
    have t2:decide (x<en)=true:=decide_eq_true zo
    have t3:(x==en)=false:=by rw[beq_eq_false_iff_ne];exact heq
    have ES:Hid ((Tm.mk mo ra ki co st en ms false lg eo ro).inn (dl (ld G) (k+1))=(Tm.mk mo ra ki co st en ms false lg eo ro).inn (dl (ld G) k)++[x]):=zh (by rw[Tm.inn_succ,HX.out,if_pos ((Tm.btw_iff _ _).2 hbtw)])
    have EO:Hid (decide (en∉dl (ld G) (k+1))=decide (en∉dl (ld G) k)):=zh (by rw[zF7,HX.out];exact decide_eq_decide.2 ⟨fun g m=>g (List.mem_append_left _ m),fun g m=>(List.mem_append.1 m).elim g (fun q=>heq (List.mem_singleton.1 q).symm)⟩)
    clear hbtw heq hB hown
    have ln:=Tm.inn_len (Tm.mk mo ra ki co st en ms false lg eo ro) (dl (ld G) k)
    rw[zB7] at ln
    go_wp2_with fail
    go_quiet (fail)
    go_wp2_with (first
     | (at_builtin;refine wpList_append_own _ rfl _ _ 26 rfl w1.heap.size 3 i0 (0:Int) 1 8 Tryz.underlying26 hi hz0 hz1 hz2 rfl zd _ _ _ rfl (zAp (HO.out.alloc _) (zBi _)) ⟨wr,0,none⟩ 1 1 [.int .i64 x] rfl rfl ?c1 ?c2 ?c3 ?c4 ?c5 ?_)
     | go_in)
    case c1=>exact one_news _ _ _ _
    case c2=>intro u hu;simp at hu;subst hu;rfl
    case c3=>unfold maxLen;omega
    case c4=>omega
    case c5=>simp;omega
    ·intro v' w3 hown' hgrow _
     have R:=grown13 hsz HO.out hgrow
     rw[zR9] at hown'
     have OW:=zh hown'
     have hB3:=HB.out.trans R
     clear hgrow hown' R
     replace ka:w3.cell? ⟨bA,oA+k,none⟩=some (.int .i64 x):=by
      have h:=KD.out.below hB3
      obtain⟨b2,o2,e,hc⟩:=h.2 zo
      injection e with e
      injection e with e1 e2 _
      subst e1 e2
      rw[hc k hlt,HX.out]
     replace ct4:=(hB3.cell (p:=⟨w,4,none⟩) hW1).trans (HH.out.cell w 4 st)
     replace ct5:=(hB3.cell (p:=⟨w,5,none⟩) hW1).trans (HH.out.cell w 5 en)
     replace ct7:=(hB3.cell (p:=⟨w,7,none⟩) hW1).trans (HH.out.cell w 7 false)
     go_wp2_with fail
     go_quiet (fail)
     go_wp2
     go_roundw
     case rel=>exact⟨k+1,zo,by go_num,by rw[EO.out,HS.out],by rw[ES.out,List.length_append,List.length_singleton];exact zAp OW.out (zBi _),zA7 hB3 _⟩
     case measure=>simp[intOf];omega
   ·by_cases h1:st<x
    ·by_cases heq:x=en
     ·have t1:decide (x>st)=true:=decide_eq_true zo
      have t2:decide (x<en)=false:=decide_eq_false zo
      have t3:(x==en)=true:=by rw[beq_iff_eq];exact heq
      have ES:Hid ((Tm.mk mo ra ki co st en ms false lg eo ro).inn (dl (ld G) (k+1))=(Tm.mk mo ra ki co st en ms false lg eo ro).inn (dl (ld G) k)):=zh (by rw[Tm.inn_succ,HX.out,if_neg (fun g=>hbtw ((Tm.btw_iff _ _).1 g)),List.append_nil])
      have EO:Hid (decide (en∉dl (ld G) (k+1))=false):=zh (by rw[zF7,HX.out];exact decide_eq_false (fun g=>g (by rw[heq];simp)))
      clear hbtw heq hB hown
      go_wp2_with fail
      go_quiet (fail)
      go_wp2_with fail
      go_quiet (fail)
      go_wp2
      go_roundw
      case rel=>exact⟨k+1,zo,by go_num,by rw[EO.out],by rw[ES.out];exact zAp HO.out (zBi _),zA7 HB.out _⟩
      case measure=>simp[intOf];omega
     ·have t1:decide (x>st)=true:=decide_eq_true zo
      have t2:decide (x<en)=false:=decide_eq_false zo
      have t3:(x==en)=false:=by rw[beq_eq_false_iff_ne];exact heq
      have ES:Hid ((Tm.mk mo ra ki co st en ms false lg eo ro).inn (dl (ld G) (k+1))=(Tm.mk mo ra ki co st en ms false lg eo ro).inn (dl (ld G) k)):=zh (by rw[Tm.inn_succ,HX.out,if_neg (fun g=>hbtw ((Tm.btw_iff _ _).1 g)),List.append_nil])
      have EO:Hid (decide (en∉dl (ld G) (k+1))=decide (en∉dl (ld G) k)):=zh (by rw[zF7,HX.out];exact decide_eq_decide.2 ⟨fun g m=>g (List.mem_append_left _ m),fun g m=>(List.mem_append.1 m).elim g (fun q=>heq (List.mem_singleton.1 q).symm)⟩)
      clear hbtw heq hB hown
      go_wp2_with fail
      go_quiet (fail)
      go_wp2_with fail
      go_quiet (fail)
      go_wp2
      go_roundw
      case rel=>exact⟨k+1,zo,by go_num,by rw[EO.out];rw[HS.out],by rw[ES.out];exact zAp HO.out (zBi _),zA7 HB.out _⟩
      case measure=>simp[intOf];omega
    ·by_cases heq:x=en
     ·have t1:decide (x>st)=false:=decide_eq_false zo
      have t3:(x==en)=true:=by rw[beq_iff_eq];exact heq
      have ES:Hid ((Tm.mk mo ra ki co st en ms false lg eo ro).inn (dl (ld G) (k+1))=(Tm.mk mo ra ki co st en ms false lg eo ro).inn (dl (ld G) k)):=zh (by rw[Tm.inn_succ,HX.out,if_neg (fun g=>hbtw ((Tm.btw_iff _ _).1 g)),List.append_nil])
      have EO:Hid (decide (en∉dl (ld G) (k+1))=false):=zh (by rw[zF7,HX.out];exact decide_eq_false (fun g=>g (by rw[heq];simp)))
      clear hbtw heq hB hown
      go_wp2_with fail
      go_quiet (fail)
      go_wp2_with fail
      go_quiet (fail)
      go_wp2
      go_roundw
      case rel=>exact⟨k+1,zo,by go_num,by rw[EO.out],by rw[ES.out];exact zAp HO.out (zBi _),zA7 HB.out _⟩
      case measure=>simp[intOf];omega
     ·have t1:decide (x>st)=false:=decide_eq_false zo
      have t3:(x==en)=false:=by rw[beq_eq_false_iff_ne];exact heq
      have ES:Hid ((Tm.mk mo ra ki co st en ms false lg eo ro).inn (dl (ld G) (k+1))=(Tm.mk mo ra ki co st en ms false lg eo ro).inn (dl (ld G) k)):=zh (by rw[Tm.inn_succ,HX.out,if_neg (fun g=>hbtw ((Tm.btw_iff _ _).1 g)),List.append_nil])
      have EO:Hid (decide (en∉dl (ld G) (k+1))=decide (en∉dl (ld G) k)):=zh (by rw[zF7,HX.out];exact decide_eq_decide.2 ⟨fun g m=>g (List.mem_append_left _ m),fun g m=>(List.mem_append.1 m).elim g (fun q=>heq (List.mem_singleton.1 q).symm)⟩)
      clear hbtw heq hB hown
      go_wp2_with fail
      go_quiet (fail)
      go_wp2_with fail
      go_quiet (fail)
      go_wp2
      go_roundw
      case rel=>exact⟨k+1,zo,by go_num,by rw[EO.out];rw[HS.out],by rw[ES.out];exact zAp HO.out (zBi _),zA7 HB.out _⟩
      case measure=>simp[intOf];omega
  ·obtain rfl:k=K:=zo
   rw[HG.out] at hown ⊢
   obtain⟨aI,cI,rfl,hI⟩:=zCv rfl hown
   obtain⟨li,hli⟩:∃li,(Tm.mk mo ra ki co st en ms false lg eo ro).inn G=li:=⟨_,rfl⟩
   rw[hli] at hI ⊢
   have H:=(HH.out.below hB).add (f:=zAb aI (ld li) li.length cI) hI
   have ln:li.length≤k:=by
    have:=Tm.inn_len (Tm.mk mo ra ki co st en ms false lg eo ro) (dl (ld G) k)
    rw[zB7,HG.out,hli] at this
    exact this
   obtain⟨sb,hsb⟩:∃sb,decide (en∉G)=sb:=⟨_,rfl⟩
   rw[hsb]
   have HLI:=zh hli
   have HSB:=zh hsb
   clear hown hB hI HO HB hli hsb hlt
   obtain⟨p,hp⟩:∃p,(lg&&sb&&decide ((li.length:Int)>0))=p:=⟨_,rfl⟩
   have HP:=zh hp
   clear hp
   go_upto_region 13 with fail
   go_cut [81] from 72 (fun v wc=>v=.bool p∧Held w [zAb aI (ld li) li.length cI,.cell w 4 st,.cell w 5 en,.cell w 7 false] wc)
   case first=>
    have hp:=HP.out
    have cu8:=H.cell w 8 _
    cases lg
    ·obtain rfl:false=p:=hp
     go_wp2
     go_meet
     case rel=>exact⟨rfl,H.sub (by intro f hf;simp only[List.mem_cons,List.not_mem_nil,or_false] at hf;rcases hf with rfl | rfl | rfl | rfl <;> exact zm)⟩
    ·cases sb
     ·obtain rfl:false=p:=hp
      go_wp2
      go_meet
      case rel=>exact⟨rfl,H.sub (by intro f hf;simp only[List.mem_cons,List.not_mem_nil,or_false] at hf;rcases hf with rfl | rfl | rfl | rfl <;> exact zm)⟩
     ·rw[Bool.and_true,Bool.true_and] at hp
      go_wp2
      go_meet
      case rel=>exact⟨by rw[←hp];simp,H.sub (by intro f hf;simp only[List.mem_cons,List.not_mem_nil,or_false] at hf;rcases hf with rfl | rfl | rfl | rfl <;> exact zm)⟩
   case rest=>
    clear H
    obtain⟨rfl,H⟩:=hcut
    go_upto_if 81 with fail
    go_cut [6] from 72 (fun v wc=>∃a c,v=.slice a L.length c∧Held w [zAb a (ld L) L.length c,.cell w 4 st,.cell w 5 en] wc)
    case first=>
     cases p
     ·have ek:(Tm.mk mo ra ki co st en ms false lg eo ro).kept G=li:=by
       unfold Tm.kept
       rw[if_neg (fun h=>by
        have e:=HP.out
        rw[show lg=true from h.1,show sb=true from HSB.out▸decide_eq_true h.2.2,decide_eq_true (show (li.length:Int)>0 from by
         have:li.length≠0:=fun z=>h.2.1 (by rw[HLI.out];exact List.length_eq_zero_iff.1 z)
         omega)] at e
        cases e),HLI.out]
      obtain rfl:li=L:=ek.symm.trans HLK.out
      go_wp2
      go_meet
      case rel=>exact⟨aI,cI,rfl,H.sub (by intro f hf;simp only[List.mem_cons,List.not_mem_nil,or_false] at hf;rcases hf with rfl | rfl | rfl <;> exact zm)⟩
     ·have e:=HP.out
      rw[Bool.and_eq_true,Bool.and_eq_true,decide_eq_true_eq] at e
      obtain⟨⟨e1,e2⟩,e3⟩:=e
      subst e1 e2
      have hne:(Tm.mk mo ra ki co st en ms false true eo ro).inn G≠[]:=by rw[HLI.out];intro z;rw[z] at e3;exact absurd e3 zd
      have ek:(Tm.mk mo ra ki co st en ms false true eo ro).kept G=li.take (li.length-1):=by unfold Tm.kept;rw[if_pos ⟨rfl,hne,of_decide_eq_true HSB.out⟩,(if_neg (fun h=>by cases h)),HLI.out]
      obtain rfl:li.take (li.length-1)=L:=ek.symm.trans HLK.out
      obtain⟨bI,oI,rfl,hI⟩:=(H.days (ao:=aI)).2 zo
      have hcap:=(H.days (ao:=some ⟨bI,oI,none⟩) (X:=ld li) (n:=li.length) (cap:=cI)).1
      have hday:=(H.days (ao:=some ⟨bI,oI,none⟩) (X:=ld li) (n:=li.length) (cap:=cI))
      have hz:li.length≠0:=zo
      have cu7:=H.cell w 7 _
      have lc7:=zA0 cu7
      clear hI e3
      go_wp2
      have lt:(li.take (li.length-1)).length=li.length-1:=by rw[List.length_take];omega
      go_meet
      case rel=>exact⟨some ⟨bI,oI,none⟩,cI,by rw[lt],by rw[lt];exact H.sub2 ((hday.take zo).ext (fun i hi=>(ld_take zo).symm)) zm zm⟩
    case rest=>
     clear H
     obtain⟨a,c,rfl,H⟩:=hcut
     have l1:L.length≤1101:=zo
     go_wp2_with fail
     obtain⟨i0,hi,hz0,hz1,hz2⟩:=info_parts zAo
     replace H:=H.drew
     refine wp_region_held_drew (S:=fun w'=>w'.cell? ⟨w,4,none⟩=some (.int .i64 st)∧w'.cell? ⟨w,5,none⟩=some (.int .i64 en)) zk (⟨H.c,H.c⟩) (fun hHeld=>?_)
     obtain⟨WD,hWD⟩:∃WD,World.drew (wc)=WD:=⟨_,rfl⟩
     rw[hWD] at H hHeld ⊢
     clear hWD
     obtain⟨b0,hb0⟩:∃b0,WD.heap.size=b0:=⟨_,rfl⟩
     have HB:=Below.refl b0 WD
     have HWD:=zh H
     have HS:Hid (∀W,Below b0 WD W→b0≤W.heap.size):=zh (fun W h=>by have z:=h.size;rw[hb0] at z;exact z)
     have HU:Hid (∀W,Below b0 WD W→Below WD WD W):=zh (fun W h=>by rw[hb0];exact h)
     clear hb0
     refine zT 0 ?_
     go_frame
     refine zT 1 ?_
     go_frame
     refine zT 3 ?_
     go_frame
     refine zT 5 ?_
     go_frame
     refine zT 6 ?_
     go_frame
     refine wpAnyH_ready (rs:=[2,7]) zk zs ?_
     refine AllReadyH.cons (o:=⟨some 93,_,_,_,_,_⟩) rfl (fun K hK=>?_) (AllReadyH.cons (o:=⟨some 98,_,_,_,_,_⟩) rfl (fun K hK=>?_) AllReadyH.nil)
     ·
      have OW:=own_one16 (W:=WD) (base:=b0) (st) (HS.out _ HB)
      replace H:=H.alloc (.cells #[(st)] 3)
      replace HB:=HB.alloc (HS.out _ HB) (.cells #[(st)] 3)
      go_simp
      refine hK.out _ _ (⟨H.c,H.c⟩) (fun hNew=>?_)
      clear hK K hHeld
      have hHeld:=hNew
      clear hNew
      try go_frame
      obtain⟨T1,hT1⟩:∃T,WD.heap.size=T:=⟨_,rfl⟩
      obtain⟨U1,hU1⟩:∃U,WD.alloc (.cells #[(st)] 3)=U:=⟨_,rfl⟩
      rw[hU1] at H HB hHeld ⊢
      (try rw[hT1])
      rw[hU1] at OW
      (try rw[hT1] at OW)
      clear hT1 hU1
      refine wpAnyH_ready (rs:=[4,7]) zk zs ?_
      refine AllReadyH.cons (o:=⟨some 95,_,_,_,_,_⟩) rfl (fun K hK=>?_) (AllReadyH.cons (o:=⟨some 98,_,_,_,_,_⟩) rfl (fun K hK=>?_) AllReadyH.nil)
      ·
       obtain⟨v2,U2,hr,ho,hg⟩:=app13 b0 26 26 3 i0 (0:Int) 1 8 Tryz.underlying26 hi hz0 hz1 hz2 rfl zd _ _ _ OW a L.length c (il L) (by have h:=row_days (H.days (ao:=a) (X:=ld L) (n:=L.length) (cap:=c));rwa [dl_ld] at h) zo zd (HS.out _ HB)
       have HB2:=HB.trans (zGm (HS.out _ HB) OW hg)
       rw[il_app] at ho
       have H2:=HWD.out.below (HU.out _ HB2)
       clear H HB
       have H:=H2
       have HB:=HB2
       clear H2 HB2 OW
       have OW:=ho
       clear ho hg
       (try rw[if_pos zr])
       refine Lib.wp_append_run _ (.tmp 93) (.tmp 94) 26 26 rfl _ _ rfl rfl _ _ hr ?_
       clear hr
       refine hK.out _ _ (⟨H.c,H.c⟩) (fun hNew=>?_)
       clear hK K hHeld
       have hHeld:=hNew
       clear hNew
       try go_frame
       refine wpAnyH_ready (rs:=[7]) zk zs ?_
       refine AllReadyH.cons (o:=⟨some 98,_,_,_,_,_⟩) rfl (fun K hK=>?_) AllReadyH.nil
       have RT:=zT7 U2 (en)
       replace OW:=OW.alloc (.cells #[(en)] 3)
       replace H:=H.alloc (.cells #[(en)] 3)
       replace HB:=HB.alloc (HS.out _ HB) (.cells #[(en)] 3)
       go_simp
       refine hK.out _ _ (⟨H.c,H.c⟩) (fun hNew=>?_)
       clear hK K hHeld
       have hHeld:=hNew
       clear hNew
       try go_frame
       obtain⟨T3,hT3⟩:∃T,U2.heap.size=T:=⟨_,rfl⟩
       obtain⟨U3,hU3⟩:∃U,U2.alloc (.cells #[(en)] 3)=U:=⟨_,rfl⟩
       rw[hU3] at H HB hHeld ⊢
       (try rw[hT3])
       rw[hU3] at OW
       rw[hU3] at RT
       (try rw[hT3] at RT)
       clear hT3 hU3
       refine wpAnyH_ready (rs:=[8]) zk zs ?_
       refine AllReadyH.cons (o:=⟨some 99,_,_,_,_,_⟩) rfl (fun K hK=>?_) AllReadyH.nil
       obtain⟨v4,U4,hr,ho,hg⟩:=app13 b0 26 26 3 i0 (0:Int) 1 8 Tryz.underlying26 hi hz0 hz1 hz2 rfl zd _ _ _ OW (some ⟨T3,0,none⟩) 1 1 (il [en]) RT zo zd (HS.out _ HB)
       have HB2:=HB.trans (zGm (HS.out _ HB) OW hg)
       rw[il_app,show [st]++L++[en]=D from HDD.out,show 1+L.length+1=D.length by have:=HLEN.out;omega] at ho
       obtain⟨aN,cN,rfl,hN⟩:=zCv rfl ho
       have HN:=zh hN
       clear hN
       have H2:=HWD.out.below (HU.out _ HB2)
       clear H HB
       have H:=H2
       have HB:=HB2
       clear H2 HB2 OW
       have OW:=ho
       clear ho hg
       (try rw[if_pos zr])
       refine Lib.wp_append_run _ (.tmp 95) (.tmp 98) 26 26 rfl _ _ rfl rfl _ _ hr ?_
       clear hr
       refine hK.out _ _ (⟨H.c,H.c⟩) (fun hNew=>?_)
       clear hK K hHeld
       have hHeld:=hNew
       clear hNew
       try go_frame
       clear RT
       refine zT 9 ?_
       go_frame
       refine wpAnyH_done zk ?_ _
       clear hHeld
       have t9:decide ((D.length:Int)>1201)=false:=decide_eq_false (by have:=HLEN.out;omega)
       go_wp2
       go_ret2
       exact⟨aN,cN,rfl,HN.out,H.old⟩
      ·
       have nT:=(World.ownsRow.lt OW T1 rfl).2
       have RT:=zT7 U1 (en)
       replace OW:=OW.alloc (.cells #[(en)] 3)
       replace H:=H.alloc (.cells #[(en)] 3)
       replace HB:=HB.alloc (HS.out _ HB) (.cells #[(en)] 3)
       go_simp
       refine hK.out _ _ (⟨H.c,H.c⟩) (fun hNew=>?_)
       clear hK K hHeld
       have hHeld:=hNew
       clear hNew
       try go_frame
       obtain⟨T5,hT5⟩:∃T,U1.heap.size=T:=⟨_,rfl⟩
       obtain⟨U5,hU5⟩:∃U,U1.alloc (.cells #[(en)] 3)=U:=⟨_,rfl⟩
       rw[hU5] at H HB hHeld ⊢
       (try rw[hT5])
       rw[hU5] at OW
       rw[hU5] at RT
       (try rw[hT5] at RT)
       rw[hT5] at nT
       replace nT:=Nat.ne_of_gt nT
       clear hT5 hU5
       refine wpAnyH_ready (rs:=[4]) zk zs ?_
       refine AllReadyH.cons (o:=⟨some 95,_,_,_,_,_⟩) rfl (fun K hK=>?_) AllReadyH.nil
       obtain⟨v6,U6,hr,ho,hg⟩:=app13 b0 26 26 3 i0 (0:Int) 1 8 Tryz.underlying26 hi hz0 hz1 hz2 rfl zd _ _ _ OW a L.length c (il L) (by have h:=row_days (H.days (ao:=a) (X:=ld L) (n:=L.length) (cap:=c));rwa [dl_ld] at h) zo zd (HS.out _ HB)
       have HB2:=HB.trans (zGm (HS.out _ HB) OW hg)
       replace RT:=RT.grown hg (fun e=>nT (Option.some.inj e))
       rw[il_app] at ho
       have H2:=HWD.out.below (HU.out _ HB2)
       clear H HB
       have H:=H2
       have HB:=HB2
       clear H2 HB2 OW
       have OW:=ho
       clear ho hg
       (try rw[if_pos zr])
       refine Lib.wp_append_run _ (.tmp 93) (.tmp 94) 26 26 rfl _ _ rfl rfl _ _ hr ?_
       clear hr
       refine hK.out _ _ (⟨H.c,H.c⟩) (fun hNew=>?_)
       clear hK K hHeld
       have hHeld:=hNew
       clear hNew
       try go_frame
       refine wpAnyH_ready (rs:=[8]) zk zs ?_
       refine AllReadyH.cons (o:=⟨some 99,_,_,_,_,_⟩) rfl (fun K hK=>?_) AllReadyH.nil
       obtain⟨v7,U7,hr,ho,hg⟩:=app13 b0 26 26 3 i0 (0:Int) 1 8 Tryz.underlying26 hi hz0 hz1 hz2 rfl zd _ _ _ OW (some ⟨T5,0,none⟩) 1 1 (il [en]) RT zo zd (HS.out _ HB)
       have HB2:=HB.trans (zGm (HS.out _ HB) OW hg)
       rw[il_app,show [st]++L++[en]=D from HDD.out,show 1+L.length+1=D.length by have:=HLEN.out;omega] at ho
       obtain⟨aN,cN,rfl,hN⟩:=zCv rfl ho
       have HN:=zh hN
       clear hN
       have H2:=HWD.out.below (HU.out _ HB2)
       clear H HB
       have H:=H2
       have HB:=HB2
       clear H2 HB2 OW
       have OW:=ho
       clear ho hg
       (try rw[if_pos zr])
       refine Lib.wp_append_run _ (.tmp 95) (.tmp 98) 26 26 rfl _ _ rfl rfl _ _ hr ?_
       clear hr
       refine hK.out _ _ (⟨H.c,H.c⟩) (fun hNew=>?_)
       clear hK K hHeld
       have hHeld:=hNew
       clear hNew
       try go_frame
       clear RT
       refine zT 9 ?_
       go_frame
       refine wpAnyH_done zk ?_ _
       clear hHeld
       have t9:decide ((D.length:Int)>1201)=false:=decide_eq_false (by have:=HLEN.out;omega)
       go_wp2
       go_ret2
       exact⟨aN,cN,rfl,HN.out,H.old⟩
     ·
      have RT:=zT7 WD (en)
      replace H:=H.alloc (.cells #[(en)] 3)
      replace HB:=HB.alloc (HS.out _ HB) (.cells #[(en)] 3)
      go_simp
      refine hK.out _ _ (⟨H.c,H.c⟩) (fun hNew=>?_)
      clear hK K hHeld
      have hHeld:=hNew
      clear hNew
      try go_frame
      obtain⟨T8,hT8⟩:∃T,WD.heap.size=T:=⟨_,rfl⟩
      obtain⟨U8,hU8⟩:∃U,WD.alloc (.cells #[(en)] 3)=U:=⟨_,rfl⟩
      rw[hU8] at H HB hHeld ⊢
      (try rw[hT8])
      rw[hU8] at RT
      (try rw[hT8] at RT)
      clear hT8 hU8
      refine wpAnyH_ready (rs:=[2]) zk zs ?_
      refine AllReadyH.cons (o:=⟨some 93,_,_,_,_,_⟩) rfl (fun K hK=>?_) AllReadyH.nil
      have nT:=RT.lt16
      have OW:=own_one16 (W:=U8) (base:=b0) (st) (HS.out _ HB)
      replace RT:=RT.alloc (.cells #[(st)] 3)
      replace H:=H.alloc (.cells #[(st)] 3)
      replace HB:=HB.alloc (HS.out _ HB) (.cells #[(st)] 3)
      go_simp
      refine hK.out _ _ (⟨H.c,H.c⟩) (fun hNew=>?_)
      clear hK K hHeld
      have hHeld:=hNew
      clear hNew
      try go_frame
      obtain⟨T9,hT9⟩:∃T,U8.heap.size=T:=⟨_,rfl⟩
      obtain⟨U9,hU9⟩:∃U,U8.alloc (.cells #[(st)] 3)=U:=⟨_,rfl⟩
      rw[hU9] at H HB hHeld ⊢
      (try rw[hT9])
      rw[hU9] at OW
      rw[hU9] at RT
      (try rw[hT9] at OW)
      rw[hT9] at nT
      replace nT:=Nat.ne_of_lt nT
      clear hT9 hU9
      refine wpAnyH_ready (rs:=[4]) zk zs ?_
      refine AllReadyH.cons (o:=⟨some 95,_,_,_,_,_⟩) rfl (fun K hK=>?_) AllReadyH.nil
      obtain⟨v10,U10,hr,ho,hg⟩:=app13 b0 26 26 3 i0 (0:Int) 1 8 Tryz.underlying26 hi hz0 hz1 hz2 rfl zd _ _ _ OW a L.length c (il L) (by have h:=row_days (H.days (ao:=a) (X:=ld L) (n:=L.length) (cap:=c));rwa [dl_ld] at h) zo zd (HS.out _ HB)
      have HB2:=HB.trans (zGm (HS.out _ HB) OW hg)
      replace RT:=RT.grown hg (fun e=>nT (Option.some.inj e))
      rw[il_app] at ho
      have H2:=HWD.out.below (HU.out _ HB2)
      clear H HB
      have H:=H2
      have HB:=HB2
      clear H2 HB2 OW
      have OW:=ho
      clear ho hg
      (try rw[if_pos zr])
      refine Lib.wp_append_run _ (.tmp 93) (.tmp 94) 26 26 rfl _ _ rfl rfl _ _ hr ?_
      clear hr
      refine hK.out _ _ (⟨H.c,H.c⟩) (fun hNew=>?_)
      clear hK K hHeld
      have hHeld:=hNew
      clear hNew
      try go_frame
      refine wpAnyH_ready (rs:=[8]) zk zs ?_
      refine AllReadyH.cons (o:=⟨some 99,_,_,_,_,_⟩) rfl (fun K hK=>?_) AllReadyH.nil
      obtain⟨v11,U11,hr,ho,hg⟩:=app13 b0 26 26 3 i0 (0:Int) 1 8 Tryz.underlying26 hi hz0 hz1 hz2 rfl zd _ _ _ OW (some ⟨T8,0,none⟩) 1 1 (il [en]) RT zo zd (HS.out _ HB)
      have HB2:=HB.trans (zGm (HS.out _ HB) OW hg)
      rw[il_app,show [st]++L++[en]=D from HDD.out,show 1+L.length+1=D.length by have:=HLEN.out;omega] at ho
      obtain⟨aN,cN,rfl,hN⟩:=zCv rfl ho
      have HN:=zh hN
      clear hN
      have H2:=HWD.out.below (HU.out _ HB2)
      clear H HB
      have H:=H2
      have HB:=HB2
      clear H2 HB2 OW
      have OW:=ho
      clear ho hg
      (try rw[if_pos zr])
      refine Lib.wp_append_run _ (.tmp 95) (.tmp 98) 26 26 rfl _ _ rfl rfl _ _ hr ?_
      clear hr
      refine hK.out _ _ (⟨H.c,H.c⟩) (fun hNew=>?_)
      clear hK K hHeld
      have hHeld:=hNew
      clear hNew
      try go_frame
      clear RT
      refine zT 9 ?_
      go_frame
      refine wpAnyH_done zk ?_ _
      clear hHeld
      have t9:decide ((D.length:Int)>1201)=false:=decide_eq_false (by have:=HLEN.out;omega)
      go_wp2
      go_ret2
      exact⟨aN,cN,rfl,HN.out,H.old⟩
theorem rof_true (mo ra ki co st en ms:Int) (lg eo:Bool) (ro:Int) (X E:Nat→Int) (m:Nat) (D:List Int) (w:World) (ho:st<en) (hc:(Tm.mk mo ra ki co st en ms true lg eo ro).code=0) (hm : -100≤ms∧ms≤100) (hWk:(Tm.mk mo ra ki co st en ms true lg eo ro).Walk X E m) (hD:(Tm.mk mo ra ki co st en ms true lg eo ro).days ((Tm.mk mo ra ki co st en ms true lg eo ro).grid X (gl E m))=D) :
  Calls Tryz.prog 27 #[.agg #[mo,ra,ki,co,st,en,ms,true,lg,eo,ro]] w fun e w'=>∃ao cap,e=.returned (.tuple #[.slice ao D.length cap,(0:Int)])∧DaysAt w' ao (ld D) D.length cap∧Below w w w':=by
 have H:=Held.start w
 have GA:=zh (fun v=>rgrid_true mo ra ki co st en ms lg eo ro X E m v hc hm hWk)
 obtain⟨K,hKe⟩:∃K,gl E m=K:=⟨_,rfl⟩
 have GB:=(zJd E m).2
 have top:=hWk.top
 rw[hKe] at GA GB
 obtain⟨G,hG⟩:∃G,(Tm.mk mo ra ki co st en ms true lg eo ro).grid X K=G:=⟨_,rfl⟩
 rw[hKe,hG] at hD
 rw[hG] at GA
 have gl1:G.length=K:=by rw[←hG];exact Tm.grid_len _ _ _
 obtain⟨L,hLk⟩:∃L,(Tm.mk mo ra ki co st en ms true lg eo ro).kept G=L:=⟨_,rfl⟩
 have kl:=Tm.kept_len (Tm.mk mo ra ki co st en ms true lg eo ro) G
 rw[hLk,gl1] at kl
 have hlen:L.length+2=D.length:=by rw[←hD,Tm.days_len,hLk]
 have hdd:[st]++L++[en]=D:=by rw[←hD,Tm.days_app,hLk]
 have HG:Hid (dl (ld G) K=G):=zh (by rw[←gl1,dl_ld])
 have HDD:=zh hdd
 have HLEN:=zh hlen
 have HLK:=zh hLk
 clear hc hWk hD hG hLk hKe hdd gl1 hlen
 obtain⟨i0,hi,hz0,hz1,hz2⟩:=info_parts zAo
 go_enter Tryz.func27,Tryz.ntmps27
 go_wp2_with fail
 replace H:=H.box_11 w mo ra ki co st en ms true lg eo ro 23 rfl
 with_reducible refine (GA.out _).mono ?_
 rintro e w1 ⟨ao,cap,rfl,hdays,hb⟩
 replace H:=H.below hb
 clear hb GA
 have hW1:=zA0 (H.cell w 0 mo)
 have hw1:=H.size
 have HH:=zh H
 have KD:=zh hdays
 clear H hdays
 go_wp2_with fail
 go_loopw [6,7,8] (fun v s i wr=>∃k:Nat,k≤K∧i=.int .i64 (k:Int)∧s=.bool (decide (st∉dl (ld G) k))∧wr.ownsRow w1.heap.size 3 1 v ((Tm.mk mo ra ki co st en ms true lg eo ro).inn (dl (ld G) k)).length (il ((Tm.mk mo ra ki co st en ms true lg eo ro).inn (dl (ld G) k)))∧Below w1 w1 wr) (fun _ _ i _=>K-(intOf i).toNat)
 case atStart=>exact⟨0,zo,rfl,by simp[dl],World.ownsRow_nil _ _ _ _,Below.refl _ _⟩
 case round=>
  obtain⟨k,hk,rfl,rfl,hown,hB⟩:=hrel
  have hsz:=hB.size
  have HO:=zh hown
  have HB:=zh hB
  by_cases hlt:k<K
  ·obtain⟨bA,oA,rfl,da⟩:=(KD.out.below hB).2 zo
   have kc:=KD.out.1
   have ka:=da k hlt
   have ct4:=(hB.cell (p:=⟨w,4,none⟩) hW1).trans (HH.out.cell w 4 st)
   have ct5:=(hB.cell (p:=⟨w,5,none⟩) hW1).trans (HH.out.cell w 5 en)
   have ct7:=(hB.cell (p:=⟨w,7,none⟩) hW1).trans (HH.out.cell w 7 true)
   obtain⟨x,hx⟩:∃x,ld G k=x:=⟨_,rfl⟩
   rw[hx] at ka
   have HX:=zh hx
   obtain⟨s,hs⟩:∃s,decide (st∉dl (ld G) k)=s:=⟨_,rfl⟩
   rw[hs]
   have HS:=zh hs
   clear da hx hs
   by_cases hbtw:st<x∧x<en
   ·have heq:x≠st:=zo
    have t1:decide (x>st)=true:=decide_eq_true zo
    have t2:decide (x<en)=true:=decide_eq_true zo
    have t3:(x==st)=false:=by rw[beq_eq_false_iff_ne];exact heq
    have ES:Hid ((Tm.mk mo ra ki co st en ms true lg eo ro).inn (dl (ld G) (k+1))=(Tm.mk mo ra ki co st en ms true lg eo ro).inn (dl (ld G) k)++[x]):=zh (by rw[Tm.inn_succ,HX.out,if_pos ((Tm.btw_iff _ _).2 hbtw)])
    have EO:Hid (decide (st∉dl (ld G) (k+1))=decide (st∉dl (ld G) k)):=zh (by rw[zF7,HX.out];exact decide_eq_decide.2 ⟨fun g m=>g (List.mem_append_left _ m),fun g m=>(List.mem_append.1 m).elim g (fun q=>heq (List.mem_singleton.1 q).symm)⟩)
    clear hbtw heq hB hown
    have ln:=Tm.inn_len (Tm.mk mo ra ki co st en ms true lg eo ro) (dl (ld G) k)
    rw[zB7] at ln
    go_wp2_with fail
    go_quiet (fail)
    go_wp2_with (first
     | (at_builtin;refine wpList_append_own _ rfl _ _ 26 rfl w1.heap.size 3 i0 (0:Int) 1 8 Tryz.underlying26 hi hz0 hz1 hz2 rfl zd _ _ _ rfl (zAp (HO.out.alloc _) (zBi _)) ⟨wr,0,none⟩ 1 1 [.int .i64 x] rfl rfl ?c1 ?c2 ?c3 ?c4 ?c5 ?_)
     | go_in)
    case c1=>exact one_news _ _ _ _
    case c2=>intro u hu;simp at hu;subst hu;rfl
    case c3=>unfold maxLen;omega
    case c4=>omega
    case c5=>simp;omega
    ·intro v' w3 hown' hgrow _
     have R:=grown13 hsz HO.out hgrow
     rw[zR9] at hown'
     have OW:=zh hown'
     have hB3:=HB.out.trans R
     clear hgrow hown' R
     replace ka:w3.cell? ⟨bA,oA+k,none⟩=some (.int .i64 x):=by
      have h:=KD.out.below hB3
      obtain⟨b2,o2,e,hc⟩:=h.2 zo
      injection e with e
      injection e with e1 e2 _
      subst e1 e2
      rw[hc k hlt,HX.out]
     replace ct4:=(hB3.cell (p:=⟨w,4,none⟩) hW1).trans (HH.out.cell w 4 st)
     replace ct5:=(hB3.cell (p:=⟨w,5,none⟩) hW1).trans (HH.out.cell w 5 en)
     replace ct7:=(hB3.cell (p:=⟨w,7,none⟩) hW1).trans (HH.out.cell w 7 true)
     go_wp2_with fail
     go_quiet (fail)
     go_wp2
     go_roundw
     case rel=>exact⟨k+1,zo,by go_num,by rw[EO.out,HS.out],by rw[ES.out,List.length_append,List.length_singleton];exact zAp OW.out (zBi _),zA7 hB3 _⟩
     case measure=>simp[intOf];omega
   ·by_cases h1:st<x
    ·by_cases heq:x=st
     ·have t1:decide (x>st)=true:=decide_eq_true zo
      have t2:decide (x<en)=false:=decide_eq_false zo
      have t3:(x==st)=true:=by rw[beq_iff_eq];exact heq
      have ES:Hid ((Tm.mk mo ra ki co st en ms true lg eo ro).inn (dl (ld G) (k+1))=(Tm.mk mo ra ki co st en ms true lg eo ro).inn (dl (ld G) k)):=zh (by rw[Tm.inn_succ,HX.out,if_neg (fun g=>hbtw ((Tm.btw_iff _ _).1 g)),List.append_nil])
      have EO:Hid (decide (st∉dl (ld G) (k+1))=false):=zh (by rw[zF7,HX.out];exact decide_eq_false (fun g=>g (by rw[heq];simp)))
      clear hbtw heq hB hown
      go_wp2_with fail
      go_quiet (fail)
      go_wp2_with fail
      go_quiet (fail)
      go_wp2
      go_roundw
      case rel=>exact⟨k+1,zo,by go_num,by rw[EO.out],by rw[ES.out];exact zAp HO.out (zBi _),zA7 HB.out _⟩
      case measure=>simp[intOf];omega
     ·have t1:decide (x>st)=true:=decide_eq_true zo
      have t2:decide (x<en)=false:=decide_eq_false zo
      have t3:(x==st)=false:=by rw[beq_eq_false_iff_ne];exact heq
      have ES:Hid ((Tm.mk mo ra ki co st en ms true lg eo ro).inn (dl (ld G) (k+1))=(Tm.mk mo ra ki co st en ms true lg eo ro).inn (dl (ld G) k)):=zh (by rw[Tm.inn_succ,HX.out,if_neg (fun g=>hbtw ((Tm.btw_iff _ _).1 g)),List.append_nil])
      have EO:Hid (decide (st∉dl (ld G) (k+1))=decide (st∉dl (ld G) k)):=zh (by rw[zF7,HX.out];exact decide_eq_decide.2 ⟨fun g m=>g (List.mem_append_left _ m),fun g m=>(List.mem_append.1 m).elim g (fun q=>heq (List.mem_singleton.1 q).symm)⟩)
      clear hbtw heq hB hown
      go_wp2_with fail
      go_quiet (fail)
      go_wp2_with fail
      go_quiet (fail)
      go_wp2
      go_roundw
      case rel=>exact⟨k+1,zo,by go_num,by rw[EO.out];rw[HS.out],by rw[ES.out];exact zAp HO.out (zBi _),zA7 HB.out _⟩
      case measure=>simp[intOf];omega
    ·by_cases heq:x=st
     ·have t1:decide (x>st)=false:=decide_eq_false zo
      have t3:(x==st)=true:=by rw[beq_iff_eq];exact heq
      have ES:Hid ((Tm.mk mo ra ki co st en ms true lg eo ro).inn (dl (ld G) (k+1))=(Tm.mk mo ra ki co st en ms true lg eo ro).inn (dl (ld G) k)):=zh (by rw[Tm.inn_succ,HX.out,if_neg (fun g=>hbtw ((Tm.btw_iff _ _).1 g)),List.append_nil])
      have EO:Hid (decide (st∉dl (ld G) (k+1))=false):=zh (by rw[zF7,HX.out];exact decide_eq_false (fun g=>g (by rw[heq];simp)))
      clear hbtw heq hB hown
      go_wp2_with fail
      go_quiet (fail)
      go_wp2_with fail
      go_quiet (fail)
      go_wp2
      go_roundw
      case rel=>exact⟨k+1,zo,by go_num,by rw[EO.out],by rw[ES.out];exact zAp HO.out (zBi _),zA7 HB.out _⟩
      case measure=>simp[intOf];omega
     ·have t1:decide (x>st)=false:=decide_eq_false zo
      have t3:(x==st)=false:=by rw[beq_eq_false_iff_ne];exact heq
      have ES:Hid ((Tm.mk mo ra ki co st en ms true lg eo ro).inn (dl (ld G) (k+1))=(Tm.mk mo ra ki co st en ms true lg eo ro).inn (dl (ld G) k)):=zh (by rw[Tm.inn_succ,HX.out,if_neg (fun g=>hbtw ((Tm.btw_iff _ _).1 g)),List.append_nil])
      have EO:Hid (decide (st∉dl (ld G) (k+1))=decide (st∉dl (ld G) k)):=zh (by rw[zF7,HX.out];exact decide_eq_decide.2 ⟨fun g m=>g (List.mem_append_left _ m),fun g m=>(List.mem_append.1 m).elim g (fun q=>heq (List.mem_singleton.1 q).symm)⟩)
      clear hbtw heq hB hown
      go_wp2_with fail
      go_quiet (fail)
      go_wp2_with fail
      go_quiet (fail)
      go_wp2
      go_roundw
      case rel=>exact⟨k+1,zo,by go_num,by rw[EO.out];rw[HS.out],by rw[ES.out];exact zAp HO.out (zBi _),zA7 HB.out _⟩
      case measure=>simp[intOf];omega
  ·obtain rfl:k=K:=zo
   rw[HG.out] at hown ⊢
   obtain⟨aI,cI,rfl,hI⟩:=zCv rfl hown
   obtain⟨li,hli⟩:∃li,(Tm.mk mo ra ki co st en ms true lg eo ro).inn G=li:=⟨_,rfl⟩
   rw[hli] at hI ⊢
   have H:=(HH.out.below hB).add (f:=zAb aI (ld li) li.length cI) hI
   have ln:li.length≤k:=by
    have:=Tm.inn_len (Tm.mk mo ra ki co st en ms true lg eo ro) (dl (ld G) k)
    rw[zB7,HG.out,hli] at this
    exact this
   obtain⟨sb,hsb⟩:∃sb,decide (st∉G)=sb:=⟨_,rfl⟩
   rw[hsb]
   have HLI:=zh hli
   have HSB:=zh hsb
   clear hown hB hI HO HB hli hsb hlt
   obtain⟨p,hp⟩:∃p,(lg&&sb&&decide ((li.length:Int)>0))=p:=⟨_,rfl⟩
   have HP:=zh hp
   clear hp
   go_upto_region 13 with fail
   go_cut [81] from 72 (fun v wc=>v=.bool p∧Held w [zAb aI (ld li) li.length cI,.cell w 4 st,.cell w 5 en,.cell w 7 true] wc)
   case first=>
    have hp:=HP.out
    have cu8:=H.cell w 8 _
    cases lg
    ·obtain rfl:false=p:=hp
     go_wp2
     go_meet
     case rel=>exact⟨rfl,H.sub (by intro f hf;simp only[List.mem_cons,List.not_mem_nil,or_false] at hf;rcases hf with rfl | rfl | rfl | rfl <;> exact zm)⟩
    ·cases sb
     ·obtain rfl:false=p:=hp
      go_wp2
      go_meet
      case rel=>exact⟨rfl,H.sub (by intro f hf;simp only[List.mem_cons,List.not_mem_nil,or_false] at hf;rcases hf with rfl | rfl | rfl | rfl <;> exact zm)⟩
     ·rw[Bool.and_true,Bool.true_and] at hp
      go_wp2
      go_meet
      case rel=>exact⟨by rw[←hp];simp,H.sub (by intro f hf;simp only[List.mem_cons,List.not_mem_nil,or_false] at hf;rcases hf with rfl | rfl | rfl | rfl <;> exact zm)⟩
   case rest=>
    clear H
    obtain⟨rfl,H⟩:=hcut
    go_upto_if 81 with fail
    go_cut [6] from 72 (fun v wc=>∃a c,v=.slice a L.length c∧Held w [zAb a (ld L) L.length c,.cell w 4 st,.cell w 5 en] wc)
    case first=>
     cases p
     ·have ek:(Tm.mk mo ra ki co st en ms true lg eo ro).kept G=li:=by
       unfold Tm.kept
       rw[if_neg (fun h=>by
        have e:=HP.out
        rw[show lg=true from h.1,show sb=true from HSB.out▸decide_eq_true h.2.2,decide_eq_true (show (li.length:Int)>0 from by
         have:li.length≠0:=fun z=>h.2.1 (by rw[HLI.out];exact List.length_eq_zero_iff.1 z)
         omega)] at e
        cases e),HLI.out]
      obtain rfl:li=L:=ek.symm.trans HLK.out
      go_wp2
      go_meet
      case rel=>exact⟨aI,cI,rfl,H.sub (by intro f hf;simp only[List.mem_cons,List.not_mem_nil,or_false] at hf;rcases hf with rfl | rfl | rfl <;> exact zm)⟩
     ·have e:=HP.out
      rw[Bool.and_eq_true,Bool.and_eq_true,decide_eq_true_eq] at e
      obtain⟨⟨e1,e2⟩,e3⟩:=e
      subst e1 e2
      have hne:(Tm.mk mo ra ki co st en ms true true eo ro).inn G≠[]:=by rw[HLI.out];intro z;rw[z] at e3;exact absurd e3 zd
      have ek:(Tm.mk mo ra ki co st en ms true true eo ro).kept G=li.drop 1:=by unfold Tm.kept;rw[if_pos ⟨rfl,hne,of_decide_eq_true HSB.out⟩,if_pos rfl,HLI.out]
      obtain rfl:li.drop 1=L:=ek.symm.trans HLK.out
      obtain⟨bI,oI,rfl,hI⟩:=(H.days (ao:=aI)).2 zo
      have hcap:=(H.days (ao:=some ⟨bI,oI,none⟩) (X:=ld li) (n:=li.length) (cap:=cI)).1
      have hday:=(H.days (ao:=some ⟨bI,oI,none⟩) (X:=ld li) (n:=li.length) (cap:=cI))
      have hz:li.length≠0:=zo
      have cu7:=H.cell w 7 _
      have lc7:=zA0 cu7
      clear hI e3
      go_wp2
      all_goals
       have lt:(li.drop 1).length=li.length-1:=zs
       go_meet
       case rel=>
        rw[lt]
        first
         | exact⟨_,_,rfl,H.sub2 ((hday.drop (k:=1) zo).ext (fun i hi=>by rw[List.drop_one,ld_tail,Nat.add_comm])) zm zm⟩
         | exact⟨_,_,rfl,H.sub2 ⟨zo,fun h=>absurd h zo⟩ zm zm⟩
    case rest=>
     clear H
     obtain⟨a,c,rfl,H⟩:=hcut
     have l1:L.length≤1101:=zo
     go_wp2_with fail
     obtain⟨i0,hi,hz0,hz1,hz2⟩:=info_parts zAo
     replace H:=H.drew
     refine wp_region_held_drew (S:=fun w'=>w'.cell? ⟨w,4,none⟩=some (.int .i64 st)∧w'.cell? ⟨w,5,none⟩=some (.int .i64 en)) zk (⟨H.c,H.c⟩) (fun hHeld=>?_)
     obtain⟨WD,hWD⟩:∃WD,World.drew (wc)=WD:=⟨_,rfl⟩
     rw[hWD] at H hHeld ⊢
     clear hWD
     obtain⟨b0,hb0⟩:∃b0,WD.heap.size=b0:=⟨_,rfl⟩
     have HB:=Below.refl b0 WD
     have HWD:=zh H
     have HS:Hid (∀W,Below b0 WD W→b0≤W.heap.size):=zh (fun W h=>by have z:=h.size;rw[hb0] at z;exact z)
     have HU:Hid (∀W,Below b0 WD W→Below WD WD W):=zh (fun W h=>by rw[hb0];exact h)
     clear hb0
     refine zT 0 ?_
     go_frame
     refine zT 1 ?_
     go_frame
     refine zT 3 ?_
     go_frame
     refine zT 5 ?_
     go_frame
     refine zT 6 ?_
     go_frame
     refine wpAnyH_ready (rs:=[2,7]) zk zs ?_
     refine AllReadyH.cons (o:=⟨some 93,_,_,_,_,_⟩) rfl (fun K hK=>?_) (AllReadyH.cons (o:=⟨some 98,_,_,_,_,_⟩) rfl (fun K hK=>?_) AllReadyH.nil)
     ·
      have OW:=own_one16 (W:=WD) (base:=b0) (st) (HS.out _ HB)
      replace H:=H.alloc (.cells #[(st)] 3)
      replace HB:=HB.alloc (HS.out _ HB) (.cells #[(st)] 3)
      go_simp
      refine hK.out _ _ (⟨H.c,H.c⟩) (fun hNew=>?_)
      clear hK K hHeld
      have hHeld:=hNew
      clear hNew
      try go_frame
      obtain⟨T1,hT1⟩:∃T,WD.heap.size=T:=⟨_,rfl⟩
      obtain⟨U1,hU1⟩:∃U,WD.alloc (.cells #[(st)] 3)=U:=⟨_,rfl⟩
      rw[hU1] at H HB hHeld ⊢
      (try rw[hT1])
      rw[hU1] at OW
      (try rw[hT1] at OW)
      clear hT1 hU1
      refine wpAnyH_ready (rs:=[4,7]) zk zs ?_
      refine AllReadyH.cons (o:=⟨some 95,_,_,_,_,_⟩) rfl (fun K hK=>?_) (AllReadyH.cons (o:=⟨some 98,_,_,_,_,_⟩) rfl (fun K hK=>?_) AllReadyH.nil)
      ·
       obtain⟨v2,U2,hr,ho,hg⟩:=app13 b0 26 26 3 i0 (0:Int) 1 8 Tryz.underlying26 hi hz0 hz1 hz2 rfl zd _ _ _ OW a L.length c (il L) (by have h:=row_days (H.days (ao:=a) (X:=ld L) (n:=L.length) (cap:=c));rwa [dl_ld] at h) zo zd (HS.out _ HB)
       have HB2:=HB.trans (zGm (HS.out _ HB) OW hg)
       rw[il_app] at ho
       have H2:=HWD.out.below (HU.out _ HB2)
       clear H HB
       have H:=H2
       have HB:=HB2
       clear H2 HB2 OW
       have OW:=ho
       clear ho hg
       (try rw[if_pos zr])
       refine Lib.wp_append_run _ (.tmp 93) (.tmp 94) 26 26 rfl _ _ rfl rfl _ _ hr ?_
       clear hr
       refine hK.out _ _ (⟨H.c,H.c⟩) (fun hNew=>?_)
       clear hK K hHeld
       have hHeld:=hNew
       clear hNew
       try go_frame
       refine wpAnyH_ready (rs:=[7]) zk zs ?_
       refine AllReadyH.cons (o:=⟨some 98,_,_,_,_,_⟩) rfl (fun K hK=>?_) AllReadyH.nil
       have RT:=zT7 U2 (en)
       replace OW:=OW.alloc (.cells #[(en)] 3)
       replace H:=H.alloc (.cells #[(en)] 3)
       replace HB:=HB.alloc (HS.out _ HB) (.cells #[(en)] 3)
       go_simp
       refine hK.out _ _ (⟨H.c,H.c⟩) (fun hNew=>?_)
       clear hK K hHeld
       have hHeld:=hNew
       clear hNew
       try go_frame
       obtain⟨T3,hT3⟩:∃T,U2.heap.size=T:=⟨_,rfl⟩
       obtain⟨U3,hU3⟩:∃U,U2.alloc (.cells #[(en)] 3)=U:=⟨_,rfl⟩
       rw[hU3] at H HB hHeld ⊢
       (try rw[hT3])
       rw[hU3] at OW
       rw[hU3] at RT
       (try rw[hT3] at RT)
       clear hT3 hU3
       refine wpAnyH_ready (rs:=[8]) zk zs ?_
       refine AllReadyH.cons (o:=⟨some 99,_,_,_,_,_⟩) rfl (fun K hK=>?_) AllReadyH.nil
       obtain⟨v4,U4,hr,ho,hg⟩:=app13 b0 26 26 3 i0 (0:Int) 1 8 Tryz.underlying26 hi hz0 hz1 hz2 rfl zd _ _ _ OW (some ⟨T3,0,none⟩) 1 1 (il [en]) RT zo zd (HS.out _ HB)
       have HB2:=HB.trans (zGm (HS.out _ HB) OW hg)
       rw[il_app,show [st]++L++[en]=D from HDD.out,show 1+L.length+1=D.length by have:=HLEN.out;omega] at ho
       obtain⟨aN,cN,rfl,hN⟩:=zCv rfl ho
       have HN:=zh hN
       clear hN
       have H2:=HWD.out.below (HU.out _ HB2)
       clear H HB
       have H:=H2
       have HB:=HB2
       clear H2 HB2 OW
       have OW:=ho
       clear ho hg
       (try rw[if_pos zr])
       refine Lib.wp_append_run _ (.tmp 95) (.tmp 98) 26 26 rfl _ _ rfl rfl _ _ hr ?_
       clear hr
       refine hK.out _ _ (⟨H.c,H.c⟩) (fun hNew=>?_)
       clear hK K hHeld
       have hHeld:=hNew
       clear hNew
       try go_frame
       clear RT
       refine zT 9 ?_
       go_frame
       refine wpAnyH_done zk ?_ _
       clear hHeld
       have t9:decide ((D.length:Int)>1201)=false:=decide_eq_false (by have:=HLEN.out;omega)
       go_wp2
       go_ret2
       exact⟨aN,cN,rfl,HN.out,H.old⟩
      ·
       have nT:=(World.ownsRow.lt OW T1 rfl).2
       have RT:=zT7 U1 (en)
       replace OW:=OW.alloc (.cells #[(en)] 3)
       replace H:=H.alloc (.cells #[(en)] 3)
       replace HB:=HB.alloc (HS.out _ HB) (.cells #[(en)] 3)
       go_simp
       refine hK.out _ _ (⟨H.c,H.c⟩) (fun hNew=>?_)
       clear hK K hHeld
       have hHeld:=hNew
       clear hNew
       try go_frame
       obtain⟨T5,hT5⟩:∃T,U1.heap.size=T:=⟨_,rfl⟩
       obtain⟨U5,hU5⟩:∃U,U1.alloc (.cells #[(en)] 3)=U:=⟨_,rfl⟩
       rw[hU5] at H HB hHeld ⊢
       (try rw[hT5])
       rw[hU5] at OW
       rw[hU5] at RT
       (try rw[hT5] at RT)
       rw[hT5] at nT
       replace nT:=Nat.ne_of_gt nT
       clear hT5 hU5
       refine wpAnyH_ready (rs:=[4]) zk zs ?_
       refine AllReadyH.cons (o:=⟨some 95,_,_,_,_,_⟩) rfl (fun K hK=>?_) AllReadyH.nil
       obtain⟨v6,U6,hr,ho,hg⟩:=app13 b0 26 26 3 i0 (0:Int) 1 8 Tryz.underlying26 hi hz0 hz1 hz2 rfl zd _ _ _ OW a L.length c (il L) (by have h:=row_days (H.days (ao:=a) (X:=ld L) (n:=L.length) (cap:=c));rwa [dl_ld] at h) zo zd (HS.out _ HB)
       have HB2:=HB.trans (zGm (HS.out _ HB) OW hg)
       replace RT:=RT.grown hg (fun e=>nT (Option.some.inj e))
       rw[il_app] at ho
       have H2:=HWD.out.below (HU.out _ HB2)
       clear H HB
       have H:=H2
       have HB:=HB2
       clear H2 HB2 OW
       have OW:=ho
       clear ho hg
       (try rw[if_pos zr])
       refine Lib.wp_append_run _ (.tmp 93) (.tmp 94) 26 26 rfl _ _ rfl rfl _ _ hr ?_
       clear hr
       refine hK.out _ _ (⟨H.c,H.c⟩) (fun hNew=>?_)
       clear hK K hHeld
       have hHeld:=hNew
       clear hNew
       try go_frame
       refine wpAnyH_ready (rs:=[8]) zk zs ?_
       refine AllReadyH.cons (o:=⟨some 99,_,_,_,_,_⟩) rfl (fun K hK=>?_) AllReadyH.nil
       obtain⟨v7,U7,hr,ho,hg⟩:=app13 b0 26 26 3 i0 (0:Int) 1 8 Tryz.underlying26 hi hz0 hz1 hz2 rfl zd _ _ _ OW (some ⟨T5,0,none⟩) 1 1 (il [en]) RT zo zd (HS.out _ HB)
       have HB2:=HB.trans (zGm (HS.out _ HB) OW hg)
       rw[il_app,show [st]++L++[en]=D from HDD.out,show 1+L.length+1=D.length by have:=HLEN.out;omega] at ho
       obtain⟨aN,cN,rfl,hN⟩:=zCv rfl ho
       have HN:=zh hN
       clear hN
       have H2:=HWD.out.below (HU.out _ HB2)
       clear H HB
       have H:=H2
       have HB:=HB2
       clear H2 HB2 OW
       have OW:=ho
       clear ho hg
       (try rw[if_pos zr])
       refine Lib.wp_append_run _ (.tmp 95) (.tmp 98) 26 26 rfl _ _ rfl rfl _ _ hr ?_
       clear hr
       refine hK.out _ _ (⟨H.c,H.c⟩) (fun hNew=>?_)
       clear hK K hHeld
       have hHeld:=hNew
       clear hNew
       try go_frame
       clear RT
       refine zT 9 ?_
       go_frame
       refine wpAnyH_done zk ?_ _
       clear hHeld
       have t9:decide ((D.length:Int)>1201)=false:=decide_eq_false (by have:=HLEN.out;omega)
       go_wp2
       go_ret2
       exact⟨aN,cN,rfl,HN.out,H.old⟩
     ·
      have RT:=zT7 WD (en)
      replace H:=H.alloc (.cells #[(en)] 3)
      replace HB:=HB.alloc (HS.out _ HB) (.cells #[(en)] 3)
      go_simp
      refine hK.out _ _ (⟨H.c,H.c⟩) (fun hNew=>?_)
      clear hK K hHeld
      have hHeld:=hNew
      clear hNew
      try go_frame
      obtain⟨T8,hT8⟩:∃T,WD.heap.size=T:=⟨_,rfl⟩
      obtain⟨U8,hU8⟩:∃U,WD.alloc (.cells #[(en)] 3)=U:=⟨_,rfl⟩
      rw[hU8] at H HB hHeld ⊢
      (try rw[hT8])
      rw[hU8] at RT
      (try rw[hT8] at RT)
      clear hT8 hU8
      refine wpAnyH_ready (rs:=[2]) zk zs ?_
      refine AllReadyH.cons (o:=⟨some 93,_,_,_,_,_⟩) rfl (fun K hK=>?_) AllReadyH.nil
      have nT:=RT.lt16
      have OW:=own_one16 (W:=U8) (base:=b0) (st) (HS.out _ HB)
      replace RT:=RT.alloc (.cells #[(st)] 3)
      replace H:=H.alloc (.cells #[(st)] 3)
      replace HB:=HB.alloc (HS.out _ HB) (.cells #[(st)] 3)
      go_simp
      refine hK.out _ _ (⟨H.c,H.c⟩) (fun hNew=>?_)
      clear hK K hHeld
      have hHeld:=hNew
      clear hNew
      try go_frame
      obtain⟨T9,hT9⟩:∃T,U8.heap.size=T:=⟨_,rfl⟩
      obtain⟨U9,hU9⟩:∃U,U8.alloc (.cells #[(st)] 3)=U:=⟨_,rfl⟩
      rw[hU9] at H HB hHeld ⊢
      (try rw[hT9])
      rw[hU9] at OW
      rw[hU9] at RT
      (try rw[hT9] at OW)
      rw[hT9] at nT
      replace nT:=Nat.ne_of_lt nT
      clear hT9 hU9
      refine wpAnyH_ready (rs:=[4]) zk zs ?_
      refine AllReadyH.cons (o:=⟨some 95,_,_,_,_,_⟩) rfl (fun K hK=>?_) AllReadyH.nil
      obtain⟨v10,U10,hr,ho,hg⟩:=app13 b0 26 26 3 i0 (0:Int) 1 8 Tryz.underlying26 hi hz0 hz1 hz2 rfl zd _ _ _ OW a L.length c (il L) (by have h:=row_days (H.days (ao:=a) (X:=ld L) (n:=L.length) (cap:=c));rwa [dl_ld] at h) zo zd (HS.out _ HB)
      have HB2:=HB.trans (zGm (HS.out _ HB) OW hg)
      replace RT:=RT.grown hg (fun e=>nT (Option.some.inj e))
      rw[il_app] at ho
      have H2:=HWD.out.below (HU.out _ HB2)
      clear H HB
      have H:=H2
      have HB:=HB2
      clear H2 HB2 OW
      have OW:=ho
      clear ho hg
      (try rw[if_pos zr])
      refine Lib.wp_append_run _ (.tmp 93) (.tmp 94) 26 26 rfl _ _ rfl rfl _ _ hr ?_
      clear hr
      refine hK.out _ _ (⟨H.c,H.c⟩) (fun hNew=>?_)
      clear hK K hHeld
      have hHeld:=hNew
      clear hNew
      try go_frame
      refine wpAnyH_ready (rs:=[8]) zk zs ?_
      refine AllReadyH.cons (o:=⟨some 99,_,_,_,_,_⟩) rfl (fun K hK=>?_) AllReadyH.nil
      obtain⟨v11,U11,hr,ho,hg⟩:=app13 b0 26 26 3 i0 (0:Int) 1 8 Tryz.underlying26 hi hz0 hz1 hz2 rfl zd _ _ _ OW (some ⟨T8,0,none⟩) 1 1 (il [en]) RT zo zd (HS.out _ HB)
      have HB2:=HB.trans (zGm (HS.out _ HB) OW hg)
      rw[il_app,show [st]++L++[en]=D from HDD.out,show 1+L.length+1=D.length by have:=HLEN.out;omega] at ho
      obtain⟨aN,cN,rfl,hN⟩:=zCv rfl ho
      have HN:=zh hN
      clear hN
      have H2:=HWD.out.below (HU.out _ HB2)
      clear H HB
      have H:=H2
      have HB:=HB2
      clear H2 HB2 OW
      have OW:=ho
      clear ho hg
      (try rw[if_pos zr])
      refine Lib.wp_append_run _ (.tmp 95) (.tmp 98) 26 26 rfl _ _ rfl rfl _ _ hr ?_
      clear hr
      refine hK.out _ _ (⟨H.c,H.c⟩) (fun hNew=>?_)
      clear hK K hHeld
      have hHeld:=hNew
      clear hNew
      try go_frame
      clear RT
      refine zT 9 ?_
      go_frame
      refine wpAnyH_done zk ?_ _
      clear hHeld
      have t9:decide ((D.length:Int)>1201)=false:=decide_eq_false (by have:=HLEN.out;omega)
      go_wp2
      go_ret2
      exact⟨aN,cN,rfl,HN.out,H.old⟩
end Go.Proofs.YtpfgdfpaoldhcaaGreatDoor
