/- Several texts in one: DaRef. -/
import Derived.Test.YtpfgdfpaoldhcaaGreatDoorSuAY
import Derived.Test.YtpfgdfpaoldhcaaGreatDoorSuAZ
set_option maxHeartbeats 8000000
set_option maxRecDepth 100000
set_option linter.unusedVariables false
set_option linter.unusedSimpArgs false
namespace Go.Proofs.YtpfgdfpaoldhcaaGreatDoor
open Go.RowKit
theorem row_own {W:World} {base n cap:Nat} {ao:Option Addr} {l:List Int} (hl:l.length=n) (h:W.ownsRow base 3 1 (.slice ao n cap) n (il l)):Row13 W 1 ao n (il l):=by
 obtain⟨ao',cap',e,hd⟩:=zCv hl h
 injection e with e1 e2 e3
 subst e1 e3
 have:=row_days hd
 subst hl
 rwa [dl_ld] at this
theorem own_one16 {W:World} {base:Nat} (x:Int) (h:base≤W.heap.size):(W.alloc (.cells #[x] 3)).ownsRow base 3 1 (.slice (some ⟨W,0,none⟩) 1 1) 1 (il [x]):=by
 refine⟨rfl,.inr ⟨W,1,#[x],rfl,h,World.alloc_heap_new W _,Nat.le_refl _,by unfold maxLen;decide,rfl,rfl⟩⟩
theorem zqdly {P:Prop} (h:P:=by
 go_wp2_with fail
 replace H:=H.box_11 w mo ra ki co st en ms bk lg eo ro 23 rfl
 revert H
 with_reducible refine zG (fun _=>CK.out _) ?_
 intro w1 H
 have ce:=CE.out
 have cn:=CN.out
 go_wp2
 go_ret2
 exact⟨rfl,H.old⟩):P:=h
theorem rgrid_no (mo ra ki co st en ms:Int) (bk lg eo:Bool) (ro:Int) (c:Int) (w:World) (hc:(Tm.mk mo ra ki co st en ms bk lg eo ro).code=c) (h0:c≠0) :
  Calls Tryz.prog 30 #[.agg #[mo,ra,ki,co,st,en,ms,bk,lg,eo,ro]] w fun e w'=>e=.returned (.tuple #[.slice none 0 0,c])∧Below w w w':=by
 have H:=Held.start w
 have CK:=zh (fun v=>zEv mo ra ki co st en ms bk lg eo ro c v hc)
 have CN:Hid ((c != 0)=true):=zh (by simpa using h0)
 have CE:Hid ((c==0)=false):=zh (by simpa using h0)
 clear hc
 go_enter Tryz.func30,Tryz.ntmps30
 exact zqdly
theorem zqwxs {P:Prop} (h:P:=by
 go_upto_region 17 with (first
  | (at_builtin;refine Lib.wpList_append_run _ rfl _ _ _ _ rfl _ _ rfl rfl _ _ HR.out ?_)
  | go_in)
 clear HR
 repeat' (first | simp only[List.append_eq,List.cons_append,List.nil_append] | go_values | go_skip | go_guarded | go_step | go_upon)
 go_wp2
 go_ret2
 exact⟨aR,cR,rfl,by simpa [Tm.grid] using HDy.out,HBf⟩):P:=h
theorem zq3c6 {P:Prop} (h:P:=by
 have HDy:=zh hR
 clear hR
 have t9:decide ((k:Int)+1>1202)=false:=decide_eq_false zo
 clear hB3 HB3
 by_cases h1:x≤st
 ·have t1:decide (x≤st)=true:=decide_eq_true h1
  exact zqwxs
 ·have t1:decide (x≤st)=false:=decide_eq_false h1
  have t2:decide (x≥en)=true:=decide_eq_true zo
  exact zqwxs):P:=h
theorem zqawd {P:Prop} (h:P:=by
 have t1:decide (x≤st)=false:=decide_eq_false zo
 have t2:decide (x≥en)=false:=decide_eq_false zo
 have hkm:k<m:=by
  rcases Nat.lt_or_ge k m with g | g
  ·exact g
  ·obtain rfl:k=m:=zo
   exact absurd (show st<X k∧X k<en by rw[HX.out];exact hin) (HWk.out.last EZ.out)
 clear hB3 hin
 go_upto_region 17 with (first
  | (at_builtin;refine Lib.wpList_append_run _ rfl _ _ _ _ rfl _ _ rfl rfl _ _ HR.out ?_)
  | go_in)
 clear HR
 repeat' (first | simp only[List.append_eq,List.cons_append,List.nil_append] | go_values | go_skip | go_guarded | go_step | go_upon)
 go_roundw
 case rel=>exact⟨k+1,hkm,by go_num,hEn.out,HO.out,HB3.out⟩
 case measure=>simp[intOf];omega):P:=h
theorem zqheh {P:Prop} (h:P:=by
 subst hz
 clear hB3
 go_wp2_with (first
  | (at_builtin;refine Lib.wpList_append_run _ rfl _ _ _ _ rfl _ _ rfl rfl _ _ HR.out ?_)
  | go_in)
 go_roundw
 case rel=>exact⟨1,one,by go_num,hEn.out,HO.out,HB3.out⟩
 case measure=>simp[intOf];omega):P:=h
theorem zqruf {P:Prop} (h:P:=by
 have HDy:=zh hR
 clear hR
 have t9:decide ((k:Int)>1202)=false:=decide_eq_false zo
 go_wp2
 go_ret2
 exact⟨aR,cR,rfl,by simpa [Tm.grid] using HDy.out,HBf⟩):P:=h
theorem zqy0d {P:Prop} (h:P:=by
 have a:=mul_bd (k:=(k:Int)) (a:=ms) zo zo hm.1 hm.2
 have b : -(k:Int)*ms = -((k:Int)*ms):=Int.neg_mul _ _
 omega):P:=h
theorem zq7br {P:Prop} (h:P:=by
 rcases Nat.lt_or_ge k m with g | g
 ·have:=(HWk.out.mid k zo g).2
  rw[HX.out] at this
  exact absurd this hin
 ·omega):P:=h
theorem rgrid_false (mo ra ki co st en ms:Int) (lg eo:Bool) (ro:Int) (X E:Nat→Int) (m:Nat) (w:World) (hc:(Tm.mk mo ra ki co st en ms false lg eo ro).code=0) (hm : -100≤ms∧ms≤100) (hWk:(Tm.mk mo ra ki co st en ms false lg eo ro).Walk X E m) :
  Calls Tryz.prog 30 #[.agg #[mo,ra,ki,co,st,en,ms,false,lg,eo,ro]] w fun e w'=>∃ao cap,e=.returned (.tuple #[.slice ao (gl E m) cap,(0:Int)])∧DaysAt w' ao (ld ((Tm.mk mo ra ki co st en ms false lg eo ro).grid X (gl E m))) (gl E m) cap∧Below w w w':=by
 have H:=Held.start w
 have CK:=zh (fun v=>zEv mo ra ki co st en ms false lg eo ro 0 v hc)
 have HWk:=zh hWk
 have top:=hWk.top
 have one:=hWk.one
 have HMv:=zh (fun (k:Nat) (q:Int) (v:World) (hq:(k:Int)*ms=q)=>rmove_any st q (X k) (E k) eo v (by
  have:=HWk.out.mv k
  rw[show (k:Int)*(Tm.mk mo ra ki co st en ms false lg eo ro).ap=q by rw[←hq];rfl] at this
  exact this))
 obtain⟨i0,hi,hz0,hz1,hz2⟩:=info_parts zAo
 obtain⟨K,hKe⟩:∃K,gl E m=K:=⟨_,rfl⟩
 have GB:=zJd E m
 rw[hKe] at GB
 rw[hKe]
 have HK:=zh hKe
 clear hc hWk hKe
 go_enter Tryz.func30,Tryz.ntmps30
 go_wp2_with fail
 replace H:=H.box_11 w mo ra ki co st en ms false lg eo ro 23 rfl
 revert H
 with_reducible refine zG (fun _=>CK.out _) ?_
 intro w1 H
 have hW1:=zA0 (H.cell w 0 mo)
 have hw1:=H.size
 have HH:=zh H
 clear H CK
 go_wp2_with fail
 go_loopw [5,6,7,8] (fun v i d o wr=>∃k:Nat,k≤m∧i=.int .i64 (k:Int)∧(∀j,j<k→E j=0)∧wr.ownsRow w1.heap.size 3 1 v k (il (dl X k))∧Below w1 w1 wr) (fun _ i _ _ _=>m-(intOf i).toNat)
 case atStart=>exact⟨0,zo,rfl,fun j h=>absurd h zo,World.ownsRow_nil _ _ _ _,Below.refl _ _⟩
 case round=>
  obtain⟨k,hk,rfl,hEj,hown,hB⟩:=hrel
  have hsz:=hB.size
  have HO:=zh hown
  have HB:=zh hB
  have HE:=zh hEj
  obtain⟨q,hq⟩:∃q,(k:Int)*ms=q:=⟨_,rfl⟩
  have bq : -110000≤q∧q≤110000:=by
   exact zqy0d
  have MV:=zh (fun v=>HMv.out k q v hq)
  have ct4:=(hB.cell (p:=⟨w,4,none⟩) hW1).trans (HH.out.cell w 4 st)
  have ct5:=(hB.cell (p:=⟨w,5,none⟩) hW1).trans (HH.out.cell w 5 en)
  have ct6:=(hB.cell (p:=⟨w,6,none⟩) hW1).trans (HH.out.cell w 6 ms)
  have ct7:=(hB.cell (p:=⟨w,7,none⟩) hW1).trans (HH.out.cell w 7 false)
  have ct9:=(hB.cell (p:=⟨w,9,none⟩) hW1).trans (HH.out.cell w 9 eo)
  clear hown hB hEj
  go_wp2_with fail
  clear ct4 ct5 ct6 ct7 ct9 hq
  with_reducible refine (MV.out _).mono ?_
  rintro e w2 ⟨rfl,hb⟩
  have hown2:=zAp HO.out hb
  have hB2:=HB.out.trans (hb.mono hsz)
  have hz2':=hB2.size
  clear hb MV HO HB
  by_cases hE:E k=0
  ·obtain⟨x,hx⟩:∃x,X k=x:=⟨_,rfl⟩
   obtain⟨aO,cO,rfl⟩:=zNa hown2
   obtain⟨v',w3,hr,ho,hg⟩:=app13 w1.heap.size 26 26 3 i0 (0:Int) 1 8 Tryz.underlying26 hi hz0 hz1 hz2 rfl zd _ _ _ (hown2.alloc _) (some ⟨w2,0,none⟩) 1 1 [.int .i64 x] (zT7 w2 x) zo zd (by rw[World.size_alloc];omega)
   have hB3:=hB2.trans (((Below.refl w1.heap.size w2).alloc zo _).grown hg zx (fun k hk=>(World.ownsRow.lt hown2 k hk).1))
   rw[zR9,show dl X k++[x]=dl X (k+1) by rw[zF7,hx]] at ho
   have HR:=zh hr
   have HO:=zh ho
   have HB3:=zh hB3
   have HX:=zh hx
   have EZ:=zh hE
   have ct4:=(hB3.cell (p:=⟨w,4,none⟩) hW1).trans (HH.out.cell w 4 st)
   have ct5:=(hB3.cell (p:=⟨w,5,none⟩) hW1).trans (HH.out.cell w 5 en)
   have ct6:=(hB3.cell (p:=⟨w,6,none⟩) hW1).trans (HH.out.cell w 6 ms)
   have ct7:=(hB3.cell (p:=⟨w,7,none⟩) hW1).trans (HH.out.cell w 7 false)
   have ct9:=(hB3.cell (p:=⟨w,9,none⟩) hW1).trans (HH.out.cell w 9 eo)
   have cu7:=(hB2.cell (p:=⟨w,7,none⟩) hW1).trans (HH.out.cell w 7 false)
   rw[hE,hx]
   clear hr ho hg hown2 hB2 hE hx
   have hEn:Hid (∀j,j<k+1→E j=0):=zh (fun j h=>by
    rcases Nat.lt_or_ge j k with g | g
    ·exact HE.out j g
    ·rw[show j=k by omega];exact EZ.out)
   by_cases hz:k=0
   ·exact zqheh
   ·have kp:decide ((k:Int)>0)=true:=decide_eq_true zo
    by_cases hin:st<x∧x<en
    ·exact zqawd
    ·have hkm:k=m:=by
      exact zq7br
     subst hkm
     have HBf:=HH.out.old.trans (hB3.mono hw1)
     have ek:(k+1)=K:=by rw[←HK.out];unfold gl;rw[if_pos EZ.out]
     subst ek
     obtain⟨aR,cR,rfl,hR⟩:=zCv (l:=dl X (k+1)) (by simp[dl]) HO.out
     exact zq3c6
  ·have hkm:k=m:=by
    exact zq5st
   subst hkm
   have e3:E k=3:=(HWk.out.code k).resolve_left hE
   have HBf:=HH.out.old.trans (hB2.mono hw1)
   have HO:=zh hown2
   rw[e3]
   clear hown2 hB2
   have ek:k=K:=by rw[←HK.out];unfold gl;rw[if_neg hE]
   subst ek
   obtain⟨aR,cR,rfl,hR⟩:=zCv (l:=dl X k) (by simp[dl]) HO.out
   exact zqruf
theorem rgrid_true (mo ra ki co st en ms:Int) (lg eo:Bool) (ro:Int) (X E:Nat→Int) (m:Nat) (w:World) (hc:(Tm.mk mo ra ki co st en ms true lg eo ro).code=0) (hm : -100≤ms∧ms≤100) (hWk:(Tm.mk mo ra ki co st en ms true lg eo ro).Walk X E m) :
  Calls Tryz.prog 30 #[.agg #[mo,ra,ki,co,st,en,ms,true,lg,eo,ro]] w fun e w'=>∃ao cap,e=.returned (.tuple #[.slice ao (gl E m) cap,(0:Int)])∧DaysAt w' ao (ld ((Tm.mk mo ra ki co st en ms true lg eo ro).grid X (gl E m))) (gl E m) cap∧Below w w w':=by
 have H:=Held.start w
 have CK:=zh (fun v=>zEv mo ra ki co st en ms true lg eo ro 0 v hc)
 have HWk:=zh hWk
 have top:=hWk.top
 have one:=hWk.one
 have HMv:=zh (fun (k:Nat) (q:Int) (v:World) (hq : -(k:Int)*ms=q)=>rmove_any en q (X k) (E k) eo v (by
  have:=HWk.out.mv k
  rw[show (k:Int)*(Tm.mk mo ra ki co st en ms true lg eo ro).ap=q by rw[←hq];exact Int.mul_neg _ _ |>.trans (Int.neg_mul _ _).symm] at this
  exact this))
 obtain⟨i0,hi,hz0,hz1,hz2⟩:=info_parts zAo
 obtain⟨K,hKe⟩:∃K,gl E m=K:=⟨_,rfl⟩
 have GB:=zJd E m
 rw[hKe] at GB
 rw[hKe]
 have HK:=zh hKe
 clear hc hWk hKe
 go_enter Tryz.func30,Tryz.ntmps30
 go_wp2_with fail
 replace H:=H.box_11 w mo ra ki co st en ms true lg eo ro 23 rfl
 revert H
 with_reducible refine zG (fun _=>CK.out _) ?_
 intro w1 H
 have hW1:=zA0 (H.cell w 0 mo)
 have hw1:=H.size
 have HH:=zh H
 clear H CK
 go_wp2_with fail
 go_loopw [5,6,7,8] (fun v i d o wr=>∃k:Nat,k≤m∧i=.int .i64 (k:Int)∧(∀j,j<k→E j=0)∧wr.ownsRow w1.heap.size 3 1 v k (il ((dl X k).reverse))∧Below w1 w1 wr) (fun _ i _ _ _=>m-(intOf i).toNat)
 case atStart=>exact⟨0,zo,rfl,fun j h=>absurd h zo,World.ownsRow_nil _ _ _ _,Below.refl _ _⟩
 case round=>
  obtain⟨k,hk,rfl,hEj,hown,hB⟩:=hrel
  have hsz:=hB.size
  have HO:=zh hown
  have HB:=zh hB
  have HE:=zh hEj
  obtain⟨q,hq⟩:∃q,-(k:Int)*ms=q:=⟨_,rfl⟩
  have bq : -110000≤q∧q≤110000:=by
   exact zqy0d
  have MV:=zh (fun v=>HMv.out k q v hq)
  have ct4:=(hB.cell (p:=⟨w,4,none⟩) hW1).trans (HH.out.cell w 4 st)
  have ct5:=(hB.cell (p:=⟨w,5,none⟩) hW1).trans (HH.out.cell w 5 en)
  have ct6:=(hB.cell (p:=⟨w,6,none⟩) hW1).trans (HH.out.cell w 6 ms)
  have ct7:=(hB.cell (p:=⟨w,7,none⟩) hW1).trans (HH.out.cell w 7 true)
  have ct9:=(hB.cell (p:=⟨w,9,none⟩) hW1).trans (HH.out.cell w 9 eo)
  clear hown hB hEj
  go_wp2_with fail
  clear ct4 ct5 ct6 ct7 ct9 hq
  with_reducible refine (MV.out _).mono ?_
  rintro e w2 ⟨rfl,hb⟩
  have hown2:=zAp HO.out hb
  have hB2:=HB.out.trans (hb.mono hsz)
  have hz2':=hB2.size
  clear hb MV HO HB
  by_cases hE:E k=0
  ·obtain⟨x,hx⟩:∃x,X k=x:=⟨_,rfl⟩
   obtain⟨aO,cO,rfl⟩:=zNa hown2
   obtain⟨v',w3,hr,ho,hg⟩:=app13 w1.heap.size 26 26 3 i0 (0:Int) 1 8 Tryz.underlying26 hi hz0 hz1 hz2 rfl zd _ _ _ (own_one16 (W:=w2) x zo) aO k cO (il ((dl X k).reverse)) ((row_own (by simp[dl]) hown2).alloc _) zo zd (by rw[World.size_alloc];omega)
   have hB3:=hB2.trans (((Below.refl w1.heap.size w2).alloc zo _).grown hg zx (fun k hk=>(World.ownsRow.lt (own_one16 (W:=w2) x zo) k hk).1))
   rw[il_app,show [x]++(dl X k).reverse=(dl X (k+1)).reverse by rw[zF7,hx];simp,Nat.add_comm 1 k] at ho
   have HR:=zh hr
   have HO:=zh ho
   have HB3:=zh hB3
   have HX:=zh hx
   have EZ:=zh hE
   have ct4:=(hB3.cell (p:=⟨w,4,none⟩) hW1).trans (HH.out.cell w 4 st)
   have ct5:=(hB3.cell (p:=⟨w,5,none⟩) hW1).trans (HH.out.cell w 5 en)
   have ct6:=(hB3.cell (p:=⟨w,6,none⟩) hW1).trans (HH.out.cell w 6 ms)
   have ct7:=(hB3.cell (p:=⟨w,7,none⟩) hW1).trans (HH.out.cell w 7 true)
   have ct9:=(hB3.cell (p:=⟨w,9,none⟩) hW1).trans (HH.out.cell w 9 eo)
   have cu7:=(hB2.cell (p:=⟨w,7,none⟩) hW1).trans (HH.out.cell w 7 true)
   rw[hE,hx]
   clear hr ho hg hown2 hB2 hE hx
   have hEn:Hid (∀j,j<k+1→E j=0):=zh (fun j h=>by
    rcases Nat.lt_or_ge j k with g | g
    ·exact HE.out j g
    ·rw[show j=k by omega];exact EZ.out)
   by_cases hz:k=0
   ·exact zqheh
   ·have kp:decide ((k:Int)>0)=true:=decide_eq_true zo
    by_cases hin:st<x∧x<en
    ·exact zqawd
    ·have hkm:k=m:=by
      exact zq7br
     subst hkm
     have HBf:=HH.out.old.trans (hB3.mono hw1)
     have ek:(k+1)=K:=by rw[←HK.out];unfold gl;rw[if_pos EZ.out]
     subst ek
     obtain⟨aR,cR,rfl,hR⟩:=zCv (l:=(dl X (k+1)).reverse) (by simp[dl]) HO.out
     exact zq3c6
  ·have hkm:k=m:=by
    exact zq5st
   subst hkm
   have e3:E k=3:=(HWk.out.code k).resolve_left hE
   have HBf:=HH.out.old.trans (hB2.mono hw1)
   have HO:=zh hown2
   rw[e3]
   clear hown2 hB2
   have ek:k=K:=by rw[←HK.out];unfold gl;rw[if_neg hE]
   subst ek
   obtain⟨aR,cR,rfl,hR⟩:=zCv (l:=(dl X k).reverse) (by simp[dl]) HO.out
   exact zqruf
end Go.Proofs.YtpfgdfpaoldhcaaGreatDoor
