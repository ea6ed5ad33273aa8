/- Several texts in one: RAdd. -/
import Derived.Test.YtpfgdfpaoldhcaaGreatDoorSuAH
import Derived.Test.YtpfgdfpaoldhcaaGreatDoorSuAL
set_option maxHeartbeats 8000000
set_option maxRecDepth 100000
set_option linter.unusedVariables false
set_option linter.unusedSimpArgs false
namespace Go.Proofs.YtpfgdfpaoldhcaaGreatDoor
open Go.RowKit
theorem add_m {an ad bn bd:Int} (ha:zAi an ad=true) (hb:zAi bn bd=true) :
  (an*mD ad bd+bn*mN ad bd)/gi (an*mD ad bd+bn*mN ad bd) (gi ad bd)=mN (an*bd+bn*ad) (ad*bd) ∧
  mN ad bd*(bd/gi (an*mD ad bd+bn*mN ad bd) (gi ad bd))=mD (an*bd+bn*ad) (ad*bd):=by
 obtain⟨a0,a1,a2,a3,a4⟩:=(zBb an ad).1 ha
 obtain⟨b0,b1,b2,b3,b4⟩:=(zBb bn bd).1 hb
 have p:=zFn ad bd (Or.inr zo)
 have e1:=zRl ad bd
 have e2:=zN2 ad bd
 have o1:=m_one ad bd (Or.inr zo)
 have dA:mN ad bd∣ad:=⟨gi ad bd,by rw[Int.mul_comm];exact e1.symm⟩
 have dB:mD ad bd∣bd:=⟨gi ad bd,by rw[Int.mul_comm];exact e2.symm⟩
 have c1:gi an (mN ad bd)=1:=zJr a4 dA
 have c2:gi bn (mD ad bd)=1:=zJr b4 dB
 generalize mN ad bd=ra at *
 generalize mD ad bd=rb at *
 have o2:gi rb ra=1:=by rw[zIe];exact o1
 have s1:gi (an*rb+bn*ra) ra=1:=zS0 (zJs c1 o2)
 have s2:gi (an*rb+bn*ra) rb=1:=by
  rw[Int.add_comm];exact zS0 (zJs c2 o1)
 have k1:gi ad bd*(an*rb+bn*ra)=an*bd+bn*ad:=by grind
 have k2:gi ad bd*(ra*bd)=ad*bd:=by grind
 have s:=zL5 (gi ad bd) (an*rb+bn*ra) (ra*bd) p
 rw[k1,k2] at s
 have g1:gi (an*rb+bn*ra) (ra*bd)=gi (an*rb+bn*ra) (gi ad bd):=by
  rw[zHn s1]
  have:bd=rb*gi ad bd:=by rw[Int.mul_comm];exact e2.symm
  have h:=zHn (c:=gi ad bd) s2
  rw[←this] at h
  exact h
 have dv:gi (an*rb+bn*ra) (gi ad bd)∣bd:=Int.dvd_trans (zDn _ _) (zDn _ _)
 refine⟨?_,?_⟩
 ·rw[s.1];unfold mN;rw[g1]
 ·rw[s.2];unfold mD;rw[g1,Int.mul_ediv_assoc _ dv]
theorem le2 {a b:Nat} (h:a+2<b):a≤b:=zo
theorem zS9 {a b:Int} (h1:0≤a) (h2:a≤4611686018427387904) (h3:0≤b) (h4:b≤4611686018427387904):0≤a*b∧a*b≤21267647932558653966460912964485513216:=
 ⟨Int.mul_nonneg h1 h3,Int.le_trans (Int.mul_le_mul h2 h4 h3 zo) zo⟩
theorem radd_any (an ad bn bd:Int) (w:World) (ha:zAi an ad=true) (hb:zAi bn bd=true) :
  Calls Tryz.prog 159 #[.agg #[an,ad],.agg #[bn,bd]] w fun e w'=>e=.returned (.tuple #[.agg #[(rN (an*bd+bn*ad) (ad*bd):Int),(rD (an*bd+bn*ad) (ad*bd):Int)],(rE (an*bd+bn*ad) (ad*bd):Int)])∧Below w w w':=by
 have H:=Held.start w
 obtain⟨a0,a1,a2,a3,a4⟩:=(zBb an ad).1 ha
 obtain⟨b0,b1,b2,b3,b4⟩:=(zBb bn bd).1 hb
 have MM:=add_m ha hb
 have m1:=m_le ad bd zo zo
 have m2:=zC1 ad bd zo
 have m3:=zE1 ad bd zo
 have gp:=zFn ad bd (Or.inr zo)
 have gl:=zR7 ad bd zo
 obtain⟨g,HG⟩:∃x,Hid (gi ad bd=x):=⟨_,zh rfl⟩
 obtain⟨ra,RA'⟩:∃x,Hid (mN ad bd=x):=⟨_,zh rfl⟩
 obtain⟨rb,RB'⟩:∃x,Hid (mD ad bd=x):=⟨_,zh rfl⟩
 have qa:Hid (ad/g=ra):=zh (by rw[←HG.out,←RA'.out];rfl)
 have qb:Hid (bd/g=rb):=zh (by rw[←HG.out,←RB'.out];rfl)
 rw[HG.out] at gp gl
 rw[RA'.out] at m2
 rw[RB'.out] at m3
 rw[RA'.out,RB'.out] at m1
 rw[RA'.out,RB'.out,HG.out] at MM
 obtain⟨m11,m12⟩:=m1
 have p1:=zS9 a0 a1 (by omega:0≤rb) zo
 have p2:=zS9 b0 b1 (by omega:0≤ra) zo
 obtain⟨p,HP⟩:∃x,Hid (an*rb=x):=⟨_,zh rfl⟩
 obtain⟨q,HQ⟩:∃x,Hid (bn*ra=x):=⟨_,zh rfl⟩
 rw[HP.out] at p1
 rw[HQ.out] at p2
 rw[HP.out,HQ.out] at MM
 obtain⟨p11,p12⟩:=p1
 obtain⟨p21,p22⟩:=p2
 obtain⟨s,HS'⟩:∃x,Hid (p+q=x):=⟨_,zh rfl⟩
 have s0:0≤s:=by rw[←HS'.out];omega
 have s1:s<top:=by rw[←HS'.out];unfold top;omega
 rw[HS'.out] at MM
 have up:=zFn s g (Or.inr gp)
 have ul:=zR7 s g gp
 have ub:gi s g∣bd:=Int.dvd_trans (zDn _ _) (by rw[←HG.out];exact zDn _ _)
 have st:=zIf s g s0 zo
 obtain⟨u,HU⟩:∃x,Hid (gi s g=x):=⟨_,zh rfl⟩
 rw[HU.out] at up ul MM st
 have ST:=zh st
 obtain⟨l,HL⟩:∃x,Hid (s%g=x):=⟨_,zh rfl⟩
 have l0:0≤l:=by rw[←HL.out];exact Int.emod_nonneg _ zo
 have l1:l<g:=by rw[←HL.out];exact Int.emod_lt_of_pos _ gp
 have HGL:Hid (gi g l=u):=zh (by rw[←HL.out];exact ST.out)
 obtain⟨v,HV⟩:∃x,Hid (s/g=x):=⟨_,zh rfl⟩
 obtain⟨x,HX⟩:∃x,Hid (s/u=x):=⟨_,zh rfl⟩
 obtain⟨x2,HX2⟩:∃x,Hid (s%u=x):=⟨_,zh rfl⟩
 obtain⟨k,HK⟩:∃x,Hid (bd/u=x):=⟨_,zh rfl⟩
 have x0:0≤x:=by rw[←HX.out];exact Int.ediv_nonneg s0 zo
 have k0:0≤k:=by rw[←HK.out];exact Int.ediv_nonneg zo zo
 have k1:k≤bd:=by rw[←HK.out];exact Int.ediv_le_self _ zo
 have y0:0≤ra*k:=Int.mul_nonneg m2 k0
 rw[HX.out,HK.out] at MM
 obtain⟨y,HY⟩:∃x,Hid (ra*k=x):=⟨_,zh rfl⟩
 rw[HY.out] at MM y0
 have FH:=zh (fun w=>fit_hl x y (an*bd+bn*ad) (ad*bd) w x0 y0 MM.1 MM.2)
 obtain⟨rn,RN⟩:∃x,Hid (rN (an*bd+bn*ad) (ad*bd)=x):=⟨_,zh rfl⟩
 obtain⟨rd,RD⟩:∃x,Hid (rD (an*bd+bn*ad) (ad*bd)=x):=⟨_,zh rfl⟩
 obtain⟨re,RE⟩:∃x,Hid (rE (an*bd+bn*ad) (ad*bd)=x):=⟨_,zh rfl⟩
 rw[RN.out,RD.out,RE.out]
 have RA:=zh ha
 have RB:=zh hb
 have tg:(g==0)=false:=beq_eq_false_iff_ne.2 zo
 have tu:(u==0)=false:=beq_eq_false_iff_ne.2 zo
 have q1:0≤ad:=zo
 have q2:0≤bd:=zo
 have q3:0≤g:=zo
 have q4:0≤u:=zo
 have q5:ad<18446744073709551616:=zo
 have q6:bd<18446744073709551616:=zo
 have ps:Hid (p+q<top):=zh (by rw[HS'.out];exact s1)
 clear ha hb MM a4 b4 ub st y0 x0
 have wan:IntKind.u64.wrap an=an:=IntWalk.u64_in _ zo
 have wad:IntKind.u64.wrap ad=ad:=IntWalk.u64_in _ zo
 have wbn:IntKind.u64.wrap bn=bn:=IntWalk.u64_in _ zo
 have wbd:IntKind.u64.wrap bd=bd:=IntWalk.u64_in _ zo
 go_enter Tryz.func159,Tryz.ntmps159
 go_wp2_with fail
 replace H:=(((H.pair w an ad 48 rfl).pair (w+1) bn bd 48 zs).pair (w+2) (0:Int) (0:Int) 48 zs)
 revert H
 with_reducible refine zG (fun _=>zK4 an ad _ RA.out) ?_
 intro w1 H
 obtain⟨cb0,cb1⟩:=H.cells2 (w+1)
 have lb:=H.lt (w+1) 0 bn i4_
 go_wp2_with fail
 clear cb0 cb1 lb
 revert H
 with_reducible refine zG (fun _=>zK4 bn bd _ RB.out) ?_
 intro w2 H
 obtain⟨ca0,ca1⟩:=H.cells2 w
 have la:=H.lt w 0 an i8_
 obtain⟨cb0,cb1⟩:=H.cells2 (w+1)
 have lb:=H.lt (w+1) 0 bn i4_
 go_wp2_with fail
 clear ca0 ca1 la cb0 cb1 lb
 with_reducible refine (zEn ad bd _ zo zo zo zo).mono ?_
 rw[HG.out]
 rintro e w3 ⟨rfl,hb⟩
 replace H:=H.below hb
 clear hb
 obtain⟨ca0,ca1⟩:=H.cells2 w
 have la:=H.lt w 0 an i8_
 obtain⟨cb0,cb1⟩:=H.cells2 (w+1)
 have lb:=H.lt (w+1) 0 bn i4_
 go_wp2_with fail
 go_quiet (fail)
 rw[qa.out,qb.out]
 replace H:=H.drewN nq
 go_upto_region 5 with fail
 go_cut [9] (fun s9 wx=>∃z:Nat,s9=.pointer (some ⟨z,0,none⟩)∧wx.cell? ⟨z,0,none⟩=some (.int .u64 (hi s))∧wx.cell? ⟨z,1,none⟩=some (.int .u64 (lo s))∧Held w [.cell (w+2) 0 (0:Int),.cell (w+2) 1 (0:Int),.free (w+2) 0,.free (w+2) 1,.cell (w+1) 0 bn,.cell (w+1) 1 bd,.free (w+1) 0,.free (w+1) 1,.cell w 0 an,.cell w 1 ad,.free w 0,.free w 1] wx)
 case first=>
  have OFF:Hid (∀Z:Nat,w.heap.size+2<Z→∀f∈([.cell (w+2) 0 (0:Int),.cell (w+2) 1 (0:Int),.free (w+2) 0,.free (w+2) 1,.cell (w+1) 0 bn,.cell (w+1) 1 bd,.free (w+1) 0,.free (w+1) 1,.cell w 0 an,.cell w 1 ad,.free w 0,.free w 1]:List Fact),f.off Z):=zh (fun Z hz f hf=>by
   simp only[List.mem_cons,List.not_mem_nil,or_false] at hf
   rcases hf with rfl | rfl | rfl | rfl | rfl | rfl | rfl | rfl | rfl | rfl | rfl | rfl
   ·exact (show _≠_ by omega)
   ·exact (show _≠_ by omega)
   ·trivial
   ·trivial
   ·exact (show _≠_ by omega)
   ·exact (show _≠_ by omega)
   ·trivial
   ·trivial
   ·exact (show _≠_ by omega)
   ·exact (show _≠_ by omega)
   ·trivial
   ·trivial)
  replace H:=H.drew
  go_region_with
   (first
    | (go_at_call 187;(with_reducible refine (zL7 an rb p _ zo zo zo zo HP.out).mono ?_);rintro e w' ⟨rfl,hb⟩;replace H:=H.below hb;(try ((replace fz0:=zA6 hb (zA0 cz0) fz0;replace fz1:=zA6 hb (zA0 cz1) fz1;replace cz0:=keep hb (zA0 cz0) cz0;replace cz1:=keep hb (zA0 cz1) cz1;replace kz:=zA0 cz0)));clear hb;replace ca0:=H.cell w 0 an;replace ca1:=H.cell w 1 ad;replace la:=H.lt w 0 an;replace cb0:=H.cell (w+1) 0 bn;replace cb1:=H.cell (w+1) 1 bd;replace lb:=H.lt (w+1) 0 bn)
    | (go_at_call 187;(with_reducible refine (zL7 an rb p _ zo zo zo zo HP.out).mono ?_);rintro e w' ⟨rfl,hb⟩;have lz:=H.lt (w+2) 0 (0:Int);replace H:=(H.pair w3 (.int .u64 0) (.int .u64 0) _ rfl).below hb;clear hb;have cz0:=H.cell _ 0 (.int .u64 0);have cz1:=H.cell _ 1 (.int .u64 0);have fz0:=H.frozen _ 0 i2_;have fz1:=H.frozen _ 1 i3_;have kz:=zA0 cz0;replace ca0:=H.cell w 0 an;replace ca1:=H.cell w 1 ad;replace la:=H.lt w 0 an;replace cb0:=H.cell (w+1) 0 bn;replace cb1:=H.cell (w+1) 1 bd;replace lb:=H.lt (w+1) 0 bn)
    | (go_at_call 187;(with_reducible refine (zL7 an rb p _ zo zo zo zo HP.out).mono ?_);rintro e w' ⟨rfl,hb⟩;have lz:=H.lt (w+2) 0 (0:Int);replace H:=(H.pair (_) (.int .u64 0) (.int .u64 0) _ rfl).below hb;clear hb;have cz0:=H.cell _ 0 (.int .u64 0);have cz1:=H.cell _ 1 (.int .u64 0);have fz0:=H.frozen _ 0 i2_;have fz1:=H.frozen _ 1 i3_;have kz:=zA0 cz0;replace ca0:=H.cell w 0 an;replace ca1:=H.cell w 1 ad;replace la:=H.lt w 0 an;replace cb0:=H.cell (w+1) 0 bn;replace cb1:=H.cell (w+1) 1 bd;replace lb:=H.lt (w+1) 0 bn)
    | (go_at_call 187;(with_reducible refine (zL7 bn ra q _ zo zo zo zo HQ.out).mono ?_);rintro e w' ⟨rfl,hb⟩;replace H:=H.below hb;(try ((replace fz0:=zA6 hb (zA0 cz0) fz0;replace fz1:=zA6 hb (zA0 cz1) fz1;replace cz0:=keep hb (zA0 cz0) cz0;replace cz1:=keep hb (zA0 cz1) cz1;replace kz:=zA0 cz0)));clear hb;replace ca0:=H.cell w 0 an;replace ca1:=H.cell w 1 ad;replace la:=H.lt w 0 an;replace cb0:=H.cell (w+1) 0 bn;replace cb1:=H.cell (w+1) 1 bd;replace lb:=H.lt (w+1) 0 bn)
    | (go_at_call 187;(with_reducible refine (zL7 bn ra q _ zo zo zo zo HQ.out).mono ?_);rintro e w' ⟨rfl,hb⟩;have lz:=H.lt (w+2) 0 (0:Int);replace H:=(H.pair w3 (.int .u64 0) (.int .u64 0) _ rfl).below hb;clear hb;have cz0:=H.cell _ 0 (.int .u64 0);have cz1:=H.cell _ 1 (.int .u64 0);have fz0:=H.frozen _ 0 i2_;have fz1:=H.frozen _ 1 i3_;have kz:=zA0 cz0;replace ca0:=H.cell w 0 an;replace ca1:=H.cell w 1 ad;replace la:=H.lt w 0 an;replace cb0:=H.cell (w+1) 0 bn;replace cb1:=H.cell (w+1) 1 bd;replace lb:=H.lt (w+1) 0 bn)
    | (go_at_call 187;(with_reducible refine (zL7 bn ra q _ zo zo zo zo HQ.out).mono ?_);rintro e w' ⟨rfl,hb⟩;have lz:=H.lt (w+2) 0 (0:Int);replace H:=(H.pair (_) (.int .u64 0) (.int .u64 0) _ rfl).below hb;clear hb;have cz0:=H.cell _ 0 (.int .u64 0);have cz1:=H.cell _ 1 (.int .u64 0);have fz0:=H.frozen _ 0 i2_;have fz1:=H.frozen _ 1 i3_;have kz:=zA0 cz0;replace ca0:=H.cell w 0 an;replace ca1:=H.cell w 1 ad;replace la:=H.lt w 0 an;replace cb0:=H.cell (w+1) 0 bn;replace cb1:=H.cell (w+1) 1 bd;replace lb:=H.lt (w+1) 0 bn)
    | (go_at_call 186;(with_reducible refine (zPr p q _ p11 (by unfold top;omega) p21 (by unfold top;omega) ps.out).mono ?_);rw[HS'.out];rintro e w' ⟨rfl,hb⟩;replace H:=H.below hb;(try ((replace fz0:=zA6 hb (zA0 cz0) fz0;replace fz1:=zA6 hb (zA0 cz1) fz1;replace cz0:=keep hb (zA0 cz0) cz0;replace cz1:=keep hb (zA0 cz1) cz1;replace kz:=zA0 cz0)));clear hb;replace ca0:=H.cell w 0 an;replace ca1:=H.cell w 1 ad;replace la:=H.lt w 0 an;replace cb0:=H.cell (w+1) 0 bn;replace cb1:=H.cell (w+1) 1 bd;replace lb:=H.lt (w+1) 0 bn)
    | (go_at_call 186;(with_reducible refine (zPr p q _ p11 (by unfold top;omega) p21 (by unfold top;omega) ps.out).mono ?_);rw[HS'.out];rintro e w' ⟨rfl,hb⟩;have lz:=H.lt (w+2) 0 (0:Int);replace H:=(H.pair w3 (.int .u64 0) (.int .u64 0) _ rfl).below hb;clear hb;have cz0:=H.cell _ 0 (.int .u64 0);have cz1:=H.cell _ 1 (.int .u64 0);have fz0:=H.frozen _ 0 i2_;have fz1:=H.frozen _ 1 i3_;have kz:=zA0 cz0;replace ca0:=H.cell w 0 an;replace ca1:=H.cell w 1 ad;replace la:=H.lt w 0 an;replace cb0:=H.cell (w+1) 0 bn;replace cb1:=H.cell (w+1) 1 bd;replace lb:=H.lt (w+1) 0 bn)
    | (go_at_call 186;(with_reducible refine (zPr p q _ p11 (by unfold top;omega) p21 (by unfold top;omega) ps.out).mono ?_);rw[HS'.out];rintro e w' ⟨rfl,hb⟩;have lz:=H.lt (w+2) 0 (0:Int);replace H:=(H.pair (_) (.int .u64 0) (.int .u64 0) _ rfl).below hb;clear hb;have cz0:=H.cell _ 0 (.int .u64 0);have cz1:=H.cell _ 1 (.int .u64 0);have fz0:=H.frozen _ 0 i2_;have fz1:=H.frozen _ 1 i3_;have kz:=zA0 cz0;replace ca0:=H.cell w 0 an;replace ca1:=H.cell w 1 ad;replace la:=H.lt w 0 an;replace cb0:=H.cell (w+1) 0 bn;replace cb1:=H.cell (w+1) 1 bd;replace lb:=H.lt (w+1) 0 bn))
  all_goals
   go_wp2_with fail
   go_meet
   refine⟨_,rfl,?_,?_,?_⟩
   ·first | (simp[go_sem];done) | (simp[go_sem,cz0];done) | (simp[go_sem,cz0,cz1];done)
   ·first | (simp[go_sem];done) | (simp[go_sem,cz1];done) | (simp[go_sem,cz0,cz1];done)
   ·first | exact H.alloc _ | exact ((H.sub (fun f hf=>List.Mem.tail _ (List.Mem.tail _ (List.Mem.tail _ (List.Mem.tail _ hf))))).set _ _ _ (le2 lz) (OFF.out _ lz)).set _ _ _ (le2 lz) (OFF.out _ lz)
 case rest=>
  obtain⟨z,rfl,cz0,cz1,H⟩:=hcut
  replace H:=(H.add (f:=.cell z 1 (.int .u64 (lo s))) cz1).add (f:=.cell z 0 (.int .u64 (hi s))) cz0
  clear cz0 cz1
  obtain⟨cz0,cz1⟩:=H.cells2 (z)
  have lz:=H.lt (z) 0 (.int .u64 (hi s)) i0_
  go_wp2_with fail
  clear cz0 cz1 lz
  with_reducible refine (div_hl s g _ s0 s1 gp zo).mono ?_
  rw[HV.out,HL.out]
  rintro e w4 ⟨rfl,hb⟩
  replace H:=H.below hb
  clear hb
  go_wp2_with fail
  replace H:=(H.pair w4 (.int .u64 (hi v)) (.int .u64 (lo v)) 226 rfl)
  with_reducible refine (zEn g l _ zo zo zo zo).mono ?_
  rw[HGL.out]
  rintro e w5 ⟨rfl,hb⟩
  replace H:=H.below hb
  clear hb
  obtain⟨cz0,cz1⟩:=H.cells2 (z)
  have lz:=H.lt (z) 0 (.int .u64 (hi s)) i4_
  go_wp2_with fail
  clear cz0 cz1 lz
  with_reducible refine (div_hl s u _ s0 s1 up zo).mono ?_
  rw[HX.out,HX2.out]
  rintro e w6 ⟨rfl,hb⟩
  replace H:=H.below hb
  clear hb
  have lrx:=H.lt (w+2) 0 (0:Int) i6_
  go_wp2_with fail
  replace H:=(H.pair w6 (.int .u64 (hi x)) (.int .u64 (lo x)) 226 rfl)
  have h1:0≤bd/u:=by rw[HK.out];exact k0
  have h2:bd/u<18446744073709551616:=by rw[HK.out];omega
  have HYq:Hid (ra*(bd/u)=y):=zh (by rw[HK.out];exact HY.out)
  obtain⟨cb0,cb1⟩:=H.cells2 (w+1)
  have lb:=H.lt (w+1) 0 bn i14_
  obtain⟨cx0,cx1⟩:=H.cells2 w6
  have lx:=H.lt w6 0 (.int .u64 (hi x)) i0_
  obtain⟨cr0,cr1⟩:=H.cells2 (w+2)
  have lr:=H.lt (w+2) 0 (0:Int) i10_
  obtain⟨fr0,fr1⟩:=H.frozens2 (w+2)
  replace H:=H.drew
  go_region_with
   (first
    | (go_at_call 187;(with_reducible refine (zL7 ra (bd/u) y _ zo zo h1 h2 HYq.out).mono ?_);rintro e w' ⟨rfl,hb⟩;replace H:=H.below hb;clear hb;replace cb0:=H.cell (w+1) 0 bn i14_;replace cb1:=H.cell (w+1) 1 bd i15_;replace lb:=H.lt (w+1) 0 bn i14_;replace cx0:=H.cell w6 0 (.int .u64 (hi x)) i0_;replace cx1:=H.cell w6 1 (.int .u64 (lo x)) i1_;replace lx:=H.lt w6 0 (.int .u64 (hi x)) i0_;replace cr0:=H.cell (w+2) 0 (0:Int) i10_;replace cr1:=H.cell (w+2) 1 (0:Int) i11_;replace lr:=H.lt (w+2) 0 (0:Int) i10_;replace fr0:=H.frozen (w+2) 0 i12_;replace fr1:=H.frozen (w+2) 1 i13_)
    | (go_at_call 182;(with_reducible refine (FH.out _).mono ?_);rw[RN.out,RD.out,RE.out];rintro e w' ⟨rfl,hb⟩;replace H:=H.below hb;clear hb;replace cb0:=H.cell (w+1) 0 bn i14_;replace cb1:=H.cell (w+1) 1 bd i15_;replace lb:=H.lt (w+1) 0 bn i14_;replace cx0:=H.cell w6 0 (.int .u64 (hi x)) i0_;replace cx1:=H.cell w6 1 (.int .u64 (lo x)) i1_;replace lx:=H.lt w6 0 (.int .u64 (hi x)) i0_;replace cr0:=H.cell (w+2) 0 (0:Int) i10_;replace cr1:=H.cell (w+2) 1 (0:Int) i11_;replace lr:=H.lt (w+2) 0 (0:Int) i10_;replace fr0:=H.frozen (w+2) 0 i12_;replace fr1:=H.frozen (w+2) 1 i13_))
  all_goals
   go_wp2_with fail
   exact bodyPost_ret (v:=.tuple #[.agg #[rn,rd],re]) (by simp[results,Tryz.results159,go_sem,cr0,cr1]) rfl ⟨rfl,(H.old.setCell zw _).setCell zw _⟩
end Go.Proofs.YtpfgdfpaoldhcaaGreatDoor
