/- Several texts in one: TeRefC. -/
import Derived.Test.YtpfgdfpaoldhcaaGreatDoorSuAW
set_option maxHeartbeats 8000000
set_option maxRecDepth 100000
set_option linter.unusedVariables false
set_option linter.unusedSimpArgs false
namespace Go.Proofs.YtpfgdfpaoldhcaaGreatDoor
open Go.RowKit
theorem zK2 (n:Int) (b:Bool) (w:World) (h:decide (1≤n∧n≤3652059)=b):Calls Tryz.prog 31 #[n] w fun e w'=>e=.returned b∧Below w w w':=by
 exact zq06f
theorem zqe3s {P:Prop} (h:P:=by
 have H:=Held.start w
 go_enter Tryz.func14,Tryz.ntmps14
 repeat' (first | simp only[List.append_eq,List.cons_append,List.nil_append] | go_values | go_skip | go_guarded | go_step | go_upon)
 go_ret
 exact⟨rfl,(H.alloc _).old⟩):P:=h
theorem zIg {w W:World} {fs gs:List Fact} {a:Nat} {p z:Value} {n:Int} {m:Nat} (H:Held w fs W) (hs:∀f∈gs,f∈fs) (hB:w.heap.size≤a) (hoff:∀f∈gs,f.off a) (c:W.cell? ⟨a,0,none⟩=some z) (h:BigN W p n m) (hne:∀g,p.ownBlock=some g→g≠a) :
  Held w (.cell a 0 p::.num p n m::gs) (W.setCell ⟨a,0,none⟩ p):=
 (((H.sub hs).set a 0 p hB hoff).add (f:=.num p n m) (BigN.setCell h (fun e=>hne _ e rfl) p)).add (f:=.cell a 0 p) (World.cell?_setCell_same' _ _ _ (by rw[c];rfl))
theorem zSo (mo ra ki co st en ms:Int) (bk lg eo:Bool) (ro:Int)  (e1:decide (ki<0)=true) (w:World):Calls Tryz.prog 14 #[.agg #[mo,ra,ki,co,st,en,ms,bk,lg,eo,ro]] w fun e w'=>e=.returned (1:Int)∧Below w w w':=by
 exact zqe3s
theorem zSp (mo ra ki co st en ms:Int) (bk lg eo:Bool) (ro:Int) (e1:decide (ki<0)=false) (e2:decide (ki>2)=true) (w:World):Calls Tryz.prog 14 #[.agg #[mo,ra,ki,co,st,en,ms,bk,lg,eo,ro]] w fun e w'=>e=.returned (1:Int)∧Below w w w':=by
 exact zqe3s
theorem zSm (mo ra ki co st en ms:Int) (bk lg eo:Bool) (ro:Int) (e1:decide (ki<0)=false) (e2:decide (ki>2)=false) (e3:decide (co<0)=true) (w:World):Calls Tryz.prog 14 #[.agg #[mo,ra,ki,co,st,en,ms,bk,lg,eo,ro]] w fun e w'=>e=.returned (1:Int)∧Below w w w':=by
 exact zqe3s
theorem zSn (mo ra ki co st en ms:Int) (bk lg eo:Bool) (ro:Int) (e1:decide (ki<0)=false) (e2:decide (ki>2)=false) (e3:decide (co<0)=false) (e4:decide (co>6)=true) (w:World):Calls Tryz.prog 14 #[.agg #[mo,ra,ki,co,st,en,ms,bk,lg,eo,ro]] w fun e w'=>e=.returned (1:Int)∧Below w w w':=by
 exact zqe3s
theorem zSq (mo ra ki co st en ms:Int) (bk lg eo:Bool) (ro:Int) (e1:decide (ki<0)=false) (e2:decide (ki>2)=false) (e3:decide (co<0)=false) (e4:decide (co>6)=false) (e5:decide (ro<0)=true) (w:World):Calls Tryz.prog 14 #[.agg #[mo,ra,ki,co,st,en,ms,bk,lg,eo,ro]] w fun e w'=>e=.returned (1:Int)∧Below w w w':=by
 exact zqe3s
theorem zSr (mo ra ki co st en ms:Int) (bk lg eo:Bool) (ro:Int) (e1:decide (ki<0)=false) (e2:decide (ki>2)=false) (e3:decide (co<0)=false) (e4:decide (co>6)=false) (e5:decide (ro<0)=false) (e6:decide (ro>4)=true) (w:World):Calls Tryz.prog 14 #[.agg #[mo,ra,ki,co,st,en,ms,bk,lg,eo,ro]] w fun e w'=>e=.returned (1:Int)∧Below w w w':=by
 exact zqe3s
theorem zIr (mo ra ki co st en ms:Int) (bk lg eo:Bool) (ro:Int) (e1:decide (ki<0)=false) (e2:decide (ki>2)=false) (e3:decide (co<0)=false) (e4:decide (co>6)=false) (e5:decide (ro<0)=false) (e6:decide (ro>4)=false) (f:Int) (e7:fr ms=f) (e8:(f==0)=true) (w:World):Calls Tryz.prog 14 #[.agg #[mo,ra,ki,co,st,en,ms,bk,lg,eo,ro]] w fun e w'=>e=.returned (1:Int)∧Below w w w':=by
 have H:=Held.start w
 go_enter Tryz.func14,Tryz.ntmps14
 repeat' (first | simp only[List.append_eq,List.cons_append,List.nil_append] | go_values | go_skip | go_guarded | go_step | go_upon)
 replace H:=H.box_11 w mo ra ki co st en ms bk lg eo ro 23 rfl
 revert H
 with_reducible refine zG (fun _=>zSu ms f _ e7) ?_
 intro w1 H
 repeat' (first | simp only[List.append_eq,List.cons_append,List.nil_append] | go_values | go_skip | go_guarded | go_step | go_upon)
 go_ret
 exact⟨rfl,H.old⟩
theorem zLn (mo ra ki co st en ms:Int) (bk lg eo:Bool) (ro:Int) (e1:decide (ki<0)=false) (e2:decide (ki>2)=false) (e3:decide (co<0)=false) (e4:decide (co>6)=false) (e5:decide (ro<0)=false) (e6:decide (ro>4)=false) (f:Int) (e7:fr ms=f) (e8:(f==0)=false) (p q:Bool) (e9:decide (1≤st∧st≤3652059)=p) (e10:decide (1≤en∧en≤3652059)=q) (hF:(Tm.mk mo ra ki co st en ms bk lg eo ro).Form) (c:Int) (hc:(Tm.mk mo ra ki co st en ms bk lg eo ro).code=c) (w:World):Calls Tryz.prog 14 #[.agg #[mo,ra,ki,co,st,en,ms,bk,lg,eo,ro]] w fun e w'=>e=.returned c∧Below w w w':=by
 have H:=Held.start w
 have CC:=zh (show (Tm.mk mo ra ki co st en ms bk lg eo ro).code=c from hc)
 clear hc
 go_enter Tryz.func14,Tryz.ntmps14
 repeat' (first | simp only[List.append_eq,List.cons_append,List.nil_append] | go_values | go_skip | go_guarded | go_step | go_upon)
 replace H:=H.box_11 w mo ra ki co st en ms bk lg eo ro 23 rfl
 revert H
 with_reducible refine zG (fun _=>zSu ms f _ e7) ?_
 intro w1 H
 obtain⟨ct0,ct1,ct2,ct3,ct4,ct5,ct6,ct7,ct8,ct9,ct10⟩:=H.cells11 w
 have lt:=zA0 ct0
 repeat' (first | simp only[List.append_eq,List.cons_append,List.nil_append] | go_values | go_skip | go_guarded | go_step | go_upon)
 clear ct0 ct1 ct2 ct3 ct4 ct5 ct6 ct7 ct8 ct9 ct10 lt
 revert H
 with_reducible refine zG (fun _=>zK2 st _ _ e9) ?_
 intro w2 H
 obtain⟨ct0,ct1,ct2,ct3,ct4,ct5,ct6,ct7,ct8,ct9,ct10⟩:=H.cells11 w
 have lt:=zA0 ct0
 repeat' (first | simp only[List.append_eq,List.cons_append,List.nil_append] | go_values | go_skip | go_guarded | go_step | go_upon)
 clear ct0 ct1 ct2 ct3 ct4 ct5 ct6 ct7 ct8 ct9 ct10 lt
 revert H
 with_reducible refine zG (fun _=>zK2 en _ _ e10) ?_
 intro w3 H
 obtain⟨ct0,ct1,ct2,ct3,ct4,ct5,ct6,ct7,ct8,ct9,ct10⟩:=H.cells11 w
 have lt:=zA0 ct0
 have HF:Hid (Tm.mk mo ra ki co st en ms bk lg eo ro).Form:=zh hF
 clear hF
 cases p
 ·obtain rfl:=(Tm.noDay HF.out (fun g=>of_decide_eq_false e9 g.1)).symm.trans CC.out
  clear CC HF
  repeat' (first | simp only[List.append_eq,List.cons_append,List.nil_append] | go_values | go_skip | go_guarded | go_step | go_upon)
  go_ret
  exact⟨rfl,H.old⟩
 cases q
 ·obtain rfl:=(Tm.noDay HF.out (fun g=>of_decide_eq_false e10 g.2)).symm.trans CC.out
  clear CC HF
  repeat' (first | simp only[List.append_eq,List.cons_append,List.nil_append] | go_values | go_skip | go_guarded | go_step | go_upon)
  go_ret
  exact⟨rfl,H.old⟩
 have hd:(Tm.mk mo ra ki co st en ms bk lg eo ro).Days:=⟨of_decide_eq_true e9,of_decide_eq_true e10⟩
 by_cases e11:decide (st≥en)=true
 ·obtain rfl:=(Tm.turned HF.out hd (by have:=of_decide_eq_true e11;dsimp only;omega)).symm.trans CC.out
  clear CC HF hd
  repeat' (first | simp only[List.append_eq,List.cons_append,List.nil_append] | go_values | go_skip | go_guarded | go_step | go_upon)
  go_ret
  exact⟨rfl,H.old⟩
 rw[Bool.not_eq_true] at e11
 have hl:st<en:=by have:=of_decide_eq_false e11;omega
 by_cases e12:decide (mo<1)=true
 ·have hx:=of_decide_eq_true e12
  obtain rfl:=(Tm.over HF.out hd hl (by unfold Tm.Own;dsimp only;omega)).symm.trans CC.out
  clear CC HF hd hl hx
  repeat' (first | simp only[List.append_eq,List.cons_append,List.nil_append] | go_values | go_skip | go_guarded | go_step | go_upon)
  go_ret
  exact⟨rfl,H.old⟩
 rw[Bool.not_eq_true] at e12
 by_cases e13:decide (mo>1000000000000000)=true
 ·have hx:=of_decide_eq_true e13
  obtain rfl:=(Tm.over HF.out hd hl (by unfold Tm.Own;dsimp only;omega)).symm.trans CC.out
  clear CC HF hd hl hx
  repeat' (first | simp only[List.append_eq,List.cons_append,List.nil_append] | go_values | go_skip | go_guarded | go_step | go_upon)
  go_ret
  exact⟨rfl,H.old⟩
 rw[Bool.not_eq_true] at e13
 by_cases e14:decide (ra<0)=true
 ·have hx:=of_decide_eq_true e14
  obtain rfl:=(Tm.over HF.out hd hl (by unfold Tm.Own;dsimp only;omega)).symm.trans CC.out
  clear CC HF hd hl hx
  repeat' (first | simp only[List.append_eq,List.cons_append,List.nil_append] | go_values | go_skip | go_guarded | go_step | go_upon)
  go_ret
  exact⟨rfl,H.old⟩
 rw[Bool.not_eq_true] at e14
 by_cases e15:decide (ra>1000000)=true
 ·have hx:=of_decide_eq_true e15
  obtain rfl:=(Tm.over HF.out hd hl (by unfold Tm.Own;dsimp only;omega)).symm.trans CC.out
  clear CC HF hd hl hx
  repeat' (first | simp only[List.append_eq,List.cons_append,List.nil_append] | go_values | go_skip | go_guarded | go_step | go_upon)
  go_ret
  exact⟨rfl,H.old⟩
 rw[Bool.not_eq_true] at e15
 have hm:1≤mo∧mo≤1000000000000000:=⟨by have:=of_decide_eq_false e12;omega,by have:=of_decide_eq_false e13;omega⟩
 have hr:0≤ra∧ra≤1000000:=⟨by have:=of_decide_eq_false e14;omega,by have:=of_decide_eq_false e15;omega⟩
 have HC:Hid (∀r,cmpI (mo*ra) 9000000000000000000=r→(if decide (r>0)=true then 2 else 0)=c):=zh fun r h=>by
  subst h
  refine Eq.trans ?_ CC.out
  have hO:(Tm.mk mo ra ki co st en ms bk lg eo ro).Own:=⟨hm,hr⟩
  by_cases h12:9000000000000000000<mo*ra
  ·rw[Tm.both HF.out hd hl hO h12];unfold cmpI;rw[if_neg (Int.not_lt.2 (Int.le_of_lt h12)),if_pos h12];decide
  ·rw[Tm.may HF.out hd hl hO (Int.not_lt.1 h12)];unfold cmpI;rw[if_neg h12];split <;> decide
 obtain⟨r,hR⟩:∃r,cmpI (mo*ra) 9000000000000000000=r:=⟨_,rfl⟩
 replace HC:=zh (HC.out r hR)
 have HR:=zh hR
 clear CC HF hd hl hR
 repeat' (first | simp only[List.append_eq,List.cons_append,List.nil_append] | go_values | go_skip | go_guarded | go_step | go_upon)
 clear ct0 ct1 ct2 ct3 ct4 ct5 ct6 ct7 ct8 ct9 ct10 lt
 replace H:=H.drew
 refine wp_region_held_drew (S:=fun w'=>w'.cell? ⟨w,0,none⟩=some (.int .i64 mo)∧w'.cell? ⟨w,1,none⟩=some (.int .i64 ra)) zk (⟨H.c,H.c⟩) (fun hHeld=>?_)
 obtain⟨WD,hWD⟩:∃WD,World.drew w3=WD:=⟨_,rfl⟩
 rw[hWD] at H hHeld ⊢
 clear hWD
 refine zT 0 ?_
 go_frame
 refine zT 1 ?_
 go_frame
 refine zT 3 ?_
 go_frame
 refine zT 4 ?_
 go_frame
 refine wpAnyH_ready (rs:=[2,7]) zk zs ?_
 refine AllReadyH.cons (o:=⟨some 77,_,_,_,_,_⟩) rfl (fun K hK=>?_) (AllReadyH.cons (o:=⟨some 5,_,_,_,_,_⟩) rfl (fun K hK=>?_) AllReadyH.nil)
 ·
  go_simp
  with_reducible refine (zCb mo _ zo zo).mono ?_
  rintro e v1 ⟨pa,pk,pc,rfl,NN,FN,hb⟩
  replace H:=(H.below hb).num NN
  clear NN FN hb
  go_wp2_with fail
  refine hK.out _ _ ?_ (fun hNew=>?_)
  ·exact⟨H.c,H.c⟩
  clear hK K hHeld
  have hHeld:=hNew
  clear hNew
  try go_frame
  refine wpAnyH_ready (rs:=[5,7]) zk zs ?_
  refine AllReadyH.cons (o:=⟨some 80,_,_,_,_,_⟩) rfl (fun K hK=>?_) (AllReadyH.cons (o:=⟨some 5,_,_,_,_,_⟩) rfl (fun K hK=>?_) AllReadyH.nil)
  ·
   go_simp
   with_reducible refine (zCb ra _ zo zo).mono ?_
   rintro e v2 ⟨qa,qk,qc,rfl,NN,FN,hb⟩
   replace H:=(H.below hb).num NN
   clear NN FN hb
   go_wp2_with fail
   refine hK.out _ _ ?_ (fun hNew=>?_)
   ·exact⟨H.c,H.c⟩
   clear hK K hHeld
   have hHeld:=hNew
   clear hNew
   try go_frame
   refine wpAnyH_ready (rs:=[6,7]) zk zs ?_
   refine AllReadyH.cons (o:=⟨some 81,_,_,_,_,_⟩) rfl (fun K hK=>?_) (AllReadyH.cons (o:=⟨some 5,_,_,_,_,_⟩) rfl (fun K hK=>?_) AllReadyH.nil)
   ·
    go_simp
    with_reducible refine (zEu (.slice pa pk pc) (.slice qa qk qc) mo ra 5 5 _ (H.big (.slice pa pk pc) mo 5) (H.big (.slice qa qk qc) ra 5) zo zo).mono ?_
    rintro e v3 ⟨sa,sk,sc,rfl,NN,FN,hb⟩
    replace H:=(H.below hb).num NN
    clear NN FN hb
    go_wp2_with fail
    refine hK.out _ _ ?_ (fun hNew=>?_)
    ·exact⟨H.c,H.c⟩
    clear hK K hHeld
    have hHeld:=hNew
    clear hNew
    try go_frame
    refine wpAnyH_ready (rs:=[7]) zk zs ?_
    refine AllReadyH.cons (o:=⟨some 5,_,_,_,_,_⟩) rfl (fun K hK=>?_) AllReadyH.nil
    have HS:w.heap.size≤v3.heap.size:=H.size
    have HT:=H.lt w 0 mo
    have H0:=H
    replace H:=H.lone v3 (.slice none 0 0) 68 rfl
    go_simp
    refine hK.out _ _ ?_ (fun hNew=>?_)
    ·exact⟨H.c,H.c⟩
    clear hK K hHeld
    have hHeld:=hNew
    clear hNew
    try go_frame
    refine wpAnyH_ready (rs:=[8]) zk zs ?_
    refine AllReadyH.cons (o:=⟨none,_,_,_,_,_⟩) rfl (fun K hK=>?_) AllReadyH.nil
    have HF:=H0.lone v3 (.slice sa sk sc) 68 rfl
    go_simp
    refine hK.out _ _ ?_ (fun hNew=>?_)
    ·exact⟨HF.c,HF.c⟩
    clear hK K hHeld
    have hHeld:=hNew
    clear hNew
    try go_frame
    clear H H0 HS HT
    have H:=HF
    clear HF
    refine wpAnyH_done zk ?_ _
    clear hHeld
    replace H:Held w [.cell v3 0 (.slice sa sk sc),.num (.slice sa sk sc) (mo*ra) 11] _:=H.sub (by intro f hf;simp only[List.mem_cons,List.not_mem_nil,or_false] at hf;rcases hf with rfl | rfl <;> exact zm)
    obtain⟨BZ,hBZ⟩:∃BZ,v3.heap.size=BZ:=⟨_,rfl⟩
    rw[hBZ] at H ⊢
    have cz:=H.cell BZ 0 _
    have lz:=zA0 cz
    go_wp2_with fail
    clear cz lz
    have KS:Hid (∀w':World,Held w [.cell (BZ) 0 (.slice sa sk sc),.num (.slice sa sk sc) (mo*ra) 11] w'→w'.cell? ⟨BZ,0,none⟩=some (.slice sa sk sc)∧Held w [.cell (BZ) 0 (.slice sa sk sc),.num (.slice sa sk sc) (mo*ra) 11] w'):=zh (fun _ h=>⟨h.cell BZ 0 (.slice sa sk sc),h⟩)
    have KH:Hid (∀w':World,w'.cell? ⟨BZ,0,none⟩=some (.slice sa sk sc)∧Held w [.cell (BZ) 0 (.slice sa sk sc),.num (.slice sa sk sc) (mo*ra) 11] w'→Held w [.cell (BZ) 0 (.slice sa sk sc),.num (.slice sa sk sc) (mo*ra) 11] w'):=zh (fun _ h=>h.2)
    have KN:Hid (∀w':World,w'.cell? ⟨BZ,0,none⟩=some (.slice sa sk sc)∧Held w [.cell (BZ) 0 (.slice sa sk sc),.num (.slice sa sk sc) (mo*ra) 11] w'→BigN w' (.slice sa sk sc) (mo*ra) 11):=zh (fun _ h=>h.2.big (.slice sa sk sc) (mo*ra) 11)
    have HSS:=zh (KS.out _ H.drew)
    go_region_held3 (fun w'=>w'.cell? ⟨BZ,0,none⟩=some (.slice sa sk sc)∧Held w [.cell (BZ) 0 (.slice sa sk sc),.num (.slice sa sk sc) (mo*ra) 11] w')
     (first | exact HSS.out | (refine KS.out _ (Held.below (KH.out _ ?_) hb);assumption))
     (first
      | (go_at_call 33;(with_reducible refine (zCb 9000000000000000000 _ zo zo).mono ?_);rintro e w' ⟨xa,xk,xc,rfl,NX,-,hb⟩)
      | (go_at_call 34;(with_reducible refine (zH8 (.slice sa sk sc) (.slice xa xk xc) (mo*ra) 9000000000000000000 11 5 _ (KN.out _ za) NX zo zo).mono ?_);rw[HR.out];rintro e w' ⟨rfl,hb⟩))
    have K9:=zh (KH.out _ za).old
    go_wp2
    all_goals (go_ret;refine⟨?_,K9.out⟩;rw[←HC.out];first | (rw[if_pos (decide_eq_true zo)];rfl) | (rw[if_neg zx];rfl))
   ·
    have HS:w.heap.size≤v2.heap.size:=H.size
    have HT:=H.lt w 0 mo
    have H0:=H
    replace H:=H.lone v2 (.slice none 0 0) 68 rfl
    go_simp
    refine hK.out _ _ ?_ (fun hNew=>?_)
    ·exact⟨H.c,H.c⟩
    clear hK K hHeld
    have hHeld:=hNew
    clear hNew
    try go_frame
    refine wpAnyH_ready (rs:=[6]) zk zs ?_
    refine AllReadyH.cons (o:=⟨some 81,_,_,_,_,_⟩) rfl (fun K hK=>?_) AllReadyH.nil
    have LZ:=H.lt v2 0 (.slice none 0 0)
    go_simp
    with_reducible refine (zEu (.slice pa pk pc) (.slice qa qk qc) mo ra 5 5 _ (H.big (.slice pa pk pc) mo 5) (H.big (.slice qa qk qc) ra 5) zo zo).mono ?_
    rintro e v4 ⟨sa,sk,sc,rfl,NN,FN,hb⟩
    have FD:Hid (∀g,(Value.slice sa sk sc).ownBlock=some g→g≠v2.heap.size):=zh (fun g hg=>Nat.ne_of_gt (Nat.lt_of_lt_of_le LZ (FN g hg)))
    clear LZ
    replace H:=(H.below hb).num NN
    clear NN FN hb
    go_wp2_with fail
    refine hK.out _ _ ?_ (fun hNew=>?_)
    ·exact⟨H.c,H.c⟩
    clear hK K hHeld
    have hHeld:=hNew
    clear hNew
    try go_frame
    refine wpAnyH_ready (rs:=[8]) zk zs ?_
    refine AllReadyH.cons (o:=⟨none,_,_,_,_,_⟩) rfl (fun K hK=>?_) AllReadyH.nil
    have HF:=zIg (gs:=[.cell w 0 mo,.cell w 1 ra]) (a:=v2.heap.size) H (by intro f hf;simp only[List.mem_cons,List.not_mem_nil,or_false] at hf;rcases hf with rfl | rfl <;> exact zm) HS (by intro f hf;simp only[List.mem_cons,List.not_mem_nil,or_false] at hf;rcases hf with rfl | rfl <;> exact Nat.ne_of_lt HT) (H.cell v2 0 (.slice none 0 0)) (H.big (.slice sa sk sc) (mo*ra) 11) FD.out
    have cz0:=H.cell v2 0 _
    have fz0:=H.frozen v2 0
    go_simp
    clear cz0 fz0
    refine hK.out _ _ ?_ (fun hNew=>?_)
    ·exact⟨HF.c,HF.c⟩
    clear hK K hHeld
    have hHeld:=hNew
    clear hNew
    try go_frame
    clear H H0 HS HT
    have H:=HF
    clear HF
    refine wpAnyH_done zk ?_ _
    clear hHeld
    replace H:Held w [.cell v2 0 (.slice sa sk sc),.num (.slice sa sk sc) (mo*ra) 11] _:=H.sub (by intro f hf;simp only[List.mem_cons,List.not_mem_nil,or_false] at hf;rcases hf with rfl | rfl <;> exact zm)
    obtain⟨BZ,hBZ⟩:∃BZ,v2.heap.size=BZ:=⟨_,rfl⟩
    rw[hBZ] at H ⊢
    have cz:=H.cell BZ 0 _
    have lz:=zA0 cz
    go_wp2_with fail
    clear cz lz
    have KS:Hid (∀w':World,Held w [.cell (BZ) 0 (.slice sa sk sc),.num (.slice sa sk sc) (mo*ra) 11] w'→w'.cell? ⟨BZ,0,none⟩=some (.slice sa sk sc)∧Held w [.cell (BZ) 0 (.slice sa sk sc),.num (.slice sa sk sc) (mo*ra) 11] w'):=zh (fun _ h=>⟨h.cell BZ 0 (.slice sa sk sc),h⟩)
    have KH:Hid (∀w':World,w'.cell? ⟨BZ,0,none⟩=some (.slice sa sk sc)∧Held w [.cell (BZ) 0 (.slice sa sk sc),.num (.slice sa sk sc) (mo*ra) 11] w'→Held w [.cell (BZ) 0 (.slice sa sk sc),.num (.slice sa sk sc) (mo*ra) 11] w'):=zh (fun _ h=>h.2)
    have KN:Hid (∀w':World,w'.cell? ⟨BZ,0,none⟩=some (.slice sa sk sc)∧Held w [.cell (BZ) 0 (.slice sa sk sc),.num (.slice sa sk sc) (mo*ra) 11] w'→BigN w' (.slice sa sk sc) (mo*ra) 11):=zh (fun _ h=>h.2.big (.slice sa sk sc) (mo*ra) 11)
    have HSS:=zh (KS.out _ H.drew)
    go_region_held3 (fun w'=>w'.cell? ⟨BZ,0,none⟩=some (.slice sa sk sc)∧Held w [.cell (BZ) 0 (.slice sa sk sc),.num (.slice sa sk sc) (mo*ra) 11] w')
     (first | exact HSS.out | (refine KS.out _ (Held.below (KH.out _ ?_) hb);assumption))
     (first
      | (go_at_call 33;(with_reducible refine (zCb 9000000000000000000 _ zo zo).mono ?_);rintro e w' ⟨xa,xk,xc,rfl,NX,-,hb⟩)
      | (go_at_call 34;(with_reducible refine (zH8 (.slice sa sk sc) (.slice xa xk xc) (mo*ra) 9000000000000000000 11 5 _ (KN.out _ za) NX zo zo).mono ?_);rw[HR.out];rintro e w' ⟨rfl,hb⟩))
    have K9:=zh (KH.out _ za).old
    go_wp2
    all_goals (go_ret;refine⟨?_,K9.out⟩;rw[←HC.out];first | (rw[if_pos (decide_eq_true zo)];rfl) | (rw[if_neg zx];rfl))
  ·
   have HS:w.heap.size≤v1.heap.size:=H.size
   have HT:=H.lt w 0 mo
   have H0:=H
   replace H:=H.lone v1 (.slice none 0 0) 68 rfl
   go_simp
   refine hK.out _ _ ?_ (fun hNew=>?_)
   ·exact⟨H.c,H.c⟩
   clear hK K hHeld
   have hHeld:=hNew
   clear hNew
   try go_frame
   refine wpAnyH_ready (rs:=[5]) zk zs ?_
   refine AllReadyH.cons (o:=⟨some 80,_,_,_,_,_⟩) rfl (fun K hK=>?_) AllReadyH.nil
   go_simp
   with_reducible refine (zCb ra _ zo zo).mono ?_
   rintro e v5 ⟨qa,qk,qc,rfl,NN,FN,hb⟩
   replace H:=(H.below hb).num NN
   clear NN FN hb
   go_wp2_with fail
   refine hK.out _ _ ?_ (fun hNew=>?_)
   ·exact⟨H.c,H.c⟩
   clear hK K hHeld
   have hHeld:=hNew
   clear hNew
   try go_frame
   refine wpAnyH_ready (rs:=[6]) zk zs ?_
   refine AllReadyH.cons (o:=⟨some 81,_,_,_,_,_⟩) rfl (fun K hK=>?_) AllReadyH.nil
   have LZ:=H.lt v1 0 (.slice none 0 0)
   go_simp
   with_reducible refine (zEu (.slice pa pk pc) (.slice qa qk qc) mo ra 5 5 _ (H.big (.slice pa pk pc) mo 5) (H.big (.slice qa qk qc) ra 5) zo zo).mono ?_
   rintro e v6 ⟨sa,sk,sc,rfl,NN,FN,hb⟩
   have FD:Hid (∀g,(Value.slice sa sk sc).ownBlock=some g→g≠v1.heap.size):=zh (fun g hg=>Nat.ne_of_gt (Nat.lt_of_lt_of_le LZ (FN g hg)))
   clear LZ
   replace H:=(H.below hb).num NN
   clear NN FN hb
   go_wp2_with fail
   refine hK.out _ _ ?_ (fun hNew=>?_)
   ·exact⟨H.c,H.c⟩
   clear hK K hHeld
   have hHeld:=hNew
   clear hNew
   try go_frame
   refine wpAnyH_ready (rs:=[8]) zk zs ?_
   refine AllReadyH.cons (o:=⟨none,_,_,_,_,_⟩) rfl (fun K hK=>?_) AllReadyH.nil
   have HF:=zIg (gs:=[.cell w 0 mo,.cell w 1 ra]) (a:=v1.heap.size) H (by intro f hf;simp only[List.mem_cons,List.not_mem_nil,or_false] at hf;rcases hf with rfl | rfl <;> exact zm) HS (by intro f hf;simp only[List.mem_cons,List.not_mem_nil,or_false] at hf;rcases hf with rfl | rfl <;> exact Nat.ne_of_lt HT) (H.cell v1 0 (.slice none 0 0)) (H.big (.slice sa sk sc) (mo*ra) 11) FD.out
   have cz0:=H.cell v1 0 _
   have fz0:=H.frozen v1 0
   go_simp
   clear cz0 fz0
   refine hK.out _ _ ?_ (fun hNew=>?_)
   ·exact⟨HF.c,HF.c⟩
   clear hK K hHeld
   have hHeld:=hNew
   clear hNew
   try go_frame
   clear H H0 HS HT
   have H:=HF
   clear HF
   refine wpAnyH_done zk ?_ _
   clear hHeld
   replace H:Held w [.cell v1 0 (.slice sa sk sc),.num (.slice sa sk sc) (mo*ra) 11] _:=H.sub (by intro f hf;simp only[List.mem_cons,List.not_mem_nil,or_false] at hf;rcases hf with rfl | rfl <;> exact zm)
   obtain⟨BZ,hBZ⟩:∃BZ,v1.heap.size=BZ:=⟨_,rfl⟩
   rw[hBZ] at H ⊢
   have cz:=H.cell BZ 0 _
   have lz:=zA0 cz
   go_wp2_with fail
   clear cz lz
   have KS:Hid (∀w':World,Held w [.cell (BZ) 0 (.slice sa sk sc),.num (.slice sa sk sc) (mo*ra) 11] w'→w'.cell? ⟨BZ,0,none⟩=some (.slice sa sk sc)∧Held w [.cell (BZ) 0 (.slice sa sk sc),.num (.slice sa sk sc) (mo*ra) 11] w'):=zh (fun _ h=>⟨h.cell BZ 0 (.slice sa sk sc),h⟩)
   have KH:Hid (∀w':World,w'.cell? ⟨BZ,0,none⟩=some (.slice sa sk sc)∧Held w [.cell (BZ) 0 (.slice sa sk sc),.num (.slice sa sk sc) (mo*ra) 11] w'→Held w [.cell (BZ) 0 (.slice sa sk sc),.num (.slice sa sk sc) (mo*ra) 11] w'):=zh (fun _ h=>h.2)
   have KN:Hid (∀w':World,w'.cell? ⟨BZ,0,none⟩=some (.slice sa sk sc)∧Held w [.cell (BZ) 0 (.slice sa sk sc),.num (.slice sa sk sc) (mo*ra) 11] w'→BigN w' (.slice sa sk sc) (mo*ra) 11):=zh (fun _ h=>h.2.big (.slice sa sk sc) (mo*ra) 11)
   have HSS:=zh (KS.out _ H.drew)
   go_region_held3 (fun w'=>w'.cell? ⟨BZ,0,none⟩=some (.slice sa sk sc)∧Held w [.cell (BZ) 0 (.slice sa sk sc),.num (.slice sa sk sc) (mo*ra) 11] w')
    (first | exact HSS.out | (refine KS.out _ (Held.below (KH.out _ ?_) hb);assumption))
    (first
     | (go_at_call 33;(with_reducible refine (zCb 9000000000000000000 _ zo zo).mono ?_);rintro e w' ⟨xa,xk,xc,rfl,NX,-,hb⟩)
     | (go_at_call 34;(with_reducible refine (zH8 (.slice sa sk sc) (.slice xa xk xc) (mo*ra) 9000000000000000000 11 5 _ (KN.out _ za) NX zo zo).mono ?_);rw[HR.out];rintro e w' ⟨rfl,hb⟩))
   have K9:=zh (KH.out _ za).old
   go_wp2
   all_goals (go_ret;refine⟨?_,K9.out⟩;rw[←HC.out];first | (rw[if_pos (decide_eq_true zo)];rfl) | (rw[if_neg zx];rfl))
 ·
  have HS:w.heap.size≤WD.heap.size:=H.size
  have HT:=H.lt w 0 mo
  have H0:=H
  replace H:=H.lone WD (.slice none 0 0) 68 rfl
  go_simp
  refine hK.out _ _ ?_ (fun hNew=>?_)
  ·exact⟨H.c,H.c⟩
  clear hK K hHeld
  have hHeld:=hNew
  clear hNew
  try go_frame
  refine wpAnyH_ready (rs:=[2]) zk zs ?_
  refine AllReadyH.cons (o:=⟨some 77,_,_,_,_,_⟩) rfl (fun K hK=>?_) AllReadyH.nil
  go_simp
  with_reducible refine (zCb mo _ zo zo).mono ?_
  rintro e v7 ⟨pa,pk,pc,rfl,NN,FN,hb⟩
  replace H:=(H.below hb).num NN
  clear NN FN hb
  go_wp2_with fail
  refine hK.out _ _ ?_ (fun hNew=>?_)
  ·exact⟨H.c,H.c⟩
  clear hK K hHeld
  have hHeld:=hNew
  clear hNew
  try go_frame
  refine wpAnyH_ready (rs:=[5]) zk zs ?_
  refine AllReadyH.cons (o:=⟨some 80,_,_,_,_,_⟩) rfl (fun K hK=>?_) AllReadyH.nil
  go_simp
  with_reducible refine (zCb ra _ zo zo).mono ?_
  rintro e v8 ⟨qa,qk,qc,rfl,NN,FN,hb⟩
  replace H:=(H.below hb).num NN
  clear NN FN hb
  go_wp2_with fail
  refine hK.out _ _ ?_ (fun hNew=>?_)
  ·exact⟨H.c,H.c⟩
  clear hK K hHeld
  have hHeld:=hNew
  clear hNew
  try go_frame
  refine wpAnyH_ready (rs:=[6]) zk zs ?_
  refine AllReadyH.cons (o:=⟨some 81,_,_,_,_,_⟩) rfl (fun K hK=>?_) AllReadyH.nil
  have LZ:=H.lt WD 0 (.slice none 0 0)
  go_simp
  with_reducible refine (zEu (.slice pa pk pc) (.slice qa qk qc) mo ra 5 5 _ (H.big (.slice pa pk pc) mo 5) (H.big (.slice qa qk qc) ra 5) zo zo).mono ?_
  rintro e v9 ⟨sa,sk,sc,rfl,NN,FN,hb⟩
  have FD:Hid (∀g,(Value.slice sa sk sc).ownBlock=some g→g≠WD.heap.size):=zh (fun g hg=>Nat.ne_of_gt (Nat.lt_of_lt_of_le LZ (FN g hg)))
  clear LZ
  replace H:=(H.below hb).num NN
  clear NN FN hb
  go_wp2_with fail
  refine hK.out _ _ ?_ (fun hNew=>?_)
  ·exact⟨H.c,H.c⟩
  clear hK K hHeld
  have hHeld:=hNew
  clear hNew
  try go_frame
  refine wpAnyH_ready (rs:=[8]) zk zs ?_
  refine AllReadyH.cons (o:=⟨none,_,_,_,_,_⟩) rfl (fun K hK=>?_) AllReadyH.nil
  have HF:=zIg (gs:=[.cell w 0 mo,.cell w 1 ra]) (a:=WD.heap.size) H (by intro f hf;simp only[List.mem_cons,List.not_mem_nil,or_false] at hf;rcases hf with rfl | rfl <;> exact zm) HS (by intro f hf;simp only[List.mem_cons,List.not_mem_nil,or_false] at hf;rcases hf with rfl | rfl <;> exact Nat.ne_of_lt HT) (H.cell WD 0 (.slice none 0 0)) (H.big (.slice sa sk sc) (mo*ra) 11) FD.out
  have cz0:=H.cell WD 0 _
  have fz0:=H.frozen WD 0
  go_simp
  clear cz0 fz0
  refine hK.out _ _ ?_ (fun hNew=>?_)
  ·exact⟨HF.c,HF.c⟩
  clear hK K hHeld
  have hHeld:=hNew
  clear hNew
  try go_frame
  clear H H0 HS HT
  have H:=HF
  clear HF
  refine wpAnyH_done zk ?_ _
  clear hHeld
  replace H:Held w [.cell WD 0 (.slice sa sk sc),.num (.slice sa sk sc) (mo*ra) 11] _:=H.sub (by intro f hf;simp only[List.mem_cons,List.not_mem_nil,or_false] at hf;rcases hf with rfl | rfl <;> exact zm)
  obtain⟨BZ,hBZ⟩:∃BZ,WD.heap.size=BZ:=⟨_,rfl⟩
  rw[hBZ] at H ⊢
  have cz:=H.cell BZ 0 _
  have lz:=zA0 cz
  go_wp2_with fail
  clear cz lz
  have KS:Hid (∀w':World,Held w [.cell (BZ) 0 (.slice sa sk sc),.num (.slice sa sk sc) (mo*ra) 11] w'→w'.cell? ⟨BZ,0,none⟩=some (.slice sa sk sc)∧Held w [.cell (BZ) 0 (.slice sa sk sc),.num (.slice sa sk sc) (mo*ra) 11] w'):=zh (fun _ h=>⟨h.cell BZ 0 (.slice sa sk sc),h⟩)
  have KH:Hid (∀w':World,w'.cell? ⟨BZ,0,none⟩=some (.slice sa sk sc)∧Held w [.cell (BZ) 0 (.slice sa sk sc),.num (.slice sa sk sc) (mo*ra) 11] w'→Held w [.cell (BZ) 0 (.slice sa sk sc),.num (.slice sa sk sc) (mo*ra) 11] w'):=zh (fun _ h=>h.2)
  have KN:Hid (∀w':World,w'.cell? ⟨BZ,0,none⟩=some (.slice sa sk sc)∧Held w [.cell (BZ) 0 (.slice sa sk sc),.num (.slice sa sk sc) (mo*ra) 11] w'→BigN w' (.slice sa sk sc) (mo*ra) 11):=zh (fun _ h=>h.2.big (.slice sa sk sc) (mo*ra) 11)
  have HSS:=zh (KS.out _ H.drew)
  go_region_held3 (fun w'=>w'.cell? ⟨BZ,0,none⟩=some (.slice sa sk sc)∧Held w [.cell (BZ) 0 (.slice sa sk sc),.num (.slice sa sk sc) (mo*ra) 11] w')
   (first | exact HSS.out | (refine KS.out _ (Held.below (KH.out _ ?_) hb);assumption))
   (first
    | (go_at_call 33;(with_reducible refine (zCb 9000000000000000000 _ zo zo).mono ?_);rintro e w' ⟨xa,xk,xc,rfl,NX,-,hb⟩)
    | (go_at_call 34;(with_reducible refine (zH8 (.slice sa sk sc) (.slice xa xk xc) (mo*ra) 9000000000000000000 11 5 _ (KN.out _ za) NX zo zo).mono ?_);rw[HR.out];rintro e w' ⟨rfl,hb⟩))
  have K9:=zh (KH.out _ za).old
  go_wp2
  all_goals (go_ret;refine⟨?_,K9.out⟩;rw[←HC.out];first | (rw[if_pos (decide_eq_true zo)];rfl) | (rw[if_neg zx];rfl))
theorem zEv (mo ra ki co st en ms:Int) (bk lg eo:Bool) (ro:Int) (c:Int) (w:World) (h:(Tm.mk mo ra ki co st en ms bk lg eo ro).code=c):Calls Tryz.prog 14 #[.agg #[mo,ra,ki,co,st,en,ms,bk,lg,eo,ro]] w fun e w'=>e=.returned c∧Below w w w':=by
 subst h
 by_cases e1:ki<0
 ·rw[Tm.bad (by unfold Tm.Form;dsimp only;omega)]
  exact zSo mo ra ki co st en ms bk lg eo ro (decide_eq_true e1) w
 by_cases e2:ki>2
 ·rw[Tm.bad (by unfold Tm.Form;dsimp only;omega)]
  exact zSp mo ra ki co st en ms bk lg eo ro (decide_eq_false e1) (decide_eq_true e2) w
 by_cases e3:co<0
 ·rw[Tm.bad (by unfold Tm.Form;dsimp only;omega)]
  exact zSm mo ra ki co st en ms bk lg eo ro (decide_eq_false e1) (decide_eq_false e2) (decide_eq_true e3) w
 by_cases e4:co>6
 ·rw[Tm.bad (by unfold Tm.Form;dsimp only;omega)]
  exact zSn mo ra ki co st en ms bk lg eo ro (decide_eq_false e1) (decide_eq_false e2) (decide_eq_false e3) (decide_eq_true e4) w
 by_cases e5:ro<0
 ·rw[Tm.bad (by unfold Tm.Form;dsimp only;omega)]
  exact zSq mo ra ki co st en ms bk lg eo ro (decide_eq_false e1) (decide_eq_false e2) (decide_eq_false e3) (decide_eq_false e4) (decide_eq_true e5) w
 by_cases e6:ro>4
 ·rw[Tm.bad (by unfold Tm.Form;dsimp only;omega)]
  exact zSr mo ra ki co st en ms bk lg eo ro (decide_eq_false e1) (decide_eq_false e2) (decide_eq_false e3) (decide_eq_false e4) (decide_eq_false e5) (decide_eq_true e6) w
 by_cases e7:Mo ms
 rotate_left
 ·rw[Tm.bad (fun g=>e7 g.2.2.2)]
  exact zIr mo ra ki co st en ms bk lg eo ro (decide_eq_false e1) (decide_eq_false e2) (decide_eq_false e3) (decide_eq_false e4) (decide_eq_false e5) (decide_eq_false e6) _ rfl (by rw[zIc];exact decide_eq_true e7) w
 have e8:(fr ms==0)=false:=by rw[zIc];exact decide_eq_false (fun g=>g e7)
 have hF:(Tm.mk mo ra ki co st en ms bk lg eo ro).Form:=⟨⟨Int.not_lt.1 e1,Int.not_lt.1 e2⟩,⟨Int.not_lt.1 e3,Int.not_lt.1 e4⟩,⟨Int.not_lt.1 e5,Int.not_lt.1 e6⟩,e7⟩
 exact zLn mo ra ki co st en ms bk lg eo ro (decide_eq_false e1) (decide_eq_false e2) (decide_eq_false e3) (decide_eq_false e4) (decide_eq_false e5) (decide_eq_false e6) _ rfl e8 _ _ rfl rfl hF _ rfl w
end Go.Proofs.YtpfgdfpaoldhcaaGreatDoor
