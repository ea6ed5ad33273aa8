/- Several texts in one: EaDay. -/
import Derived.Test.YtpfgdfpaoldhcaaGreatDoorSuAD
import Derived.Test.YtpfgdfpaoldhcaaGreatDoorSuAS
set_option maxHeartbeats 8000000
set_option maxRecDepth 100000
set_option linter.unusedVariables false
set_option linter.unusedSimpArgs false
namespace Go.Proofs.YtpfgdfpaoldhcaaGreatDoor
open Go.RowKit
theorem rem_30 (n r:Int) (w:World) (h : -1000000≤n∧n≤1000000) (hr:n%30=r):Calls Tryz.prog 229 #[n,(30:Int)] w fun e w'=>e=.returned r∧w=w':=by
 have b:=zCe n 30 zd
 have e:r=(n.tmod 30+30)%30:=by
  have:=Int.mul_tdiv_add_tmod n 30
  omega
 clear hr
 go_enter Tryz.func229,Tryz.ntmps229
 go_wp2
 go_ret
 exact⟨by rw[e];rfl,rfl⟩
theorem rem_7 (n r:Int) (w:World) (h : -1000000≤n∧n≤1000000) (hr:n%7=r):Calls Tryz.prog 229 #[n,(7:Int)] w fun e w'=>e=.returned r∧w=w':=by
 have b:=zCe n 7 zd
 have e:r=(n.tmod 7+7)%7:=by
  have:=Int.mul_tdiv_add_tmod n 7
  omega
 clear hr
 go_enter Tryz.func229,Tryz.ntmps229
 go_wp2
 go_ret
 exact⟨by rw[e];rfl,rfl⟩
theorem zNx (n s:Int) (w:World) (h:1≤n∧n≤4000000) (hs:sun (n+1)=s):Calls Tryz.prog 227 #[n] w fun e w'=>e=.returned s∧w=w':=by
 obtain⟨k,hk⟩:∃k,wk n=k:=⟨_,rfl⟩
 have kb:0≤k∧k≤6:=by unfold wk at hk;omega
 have hq:s=n+7-(k-6)%7:=by unfold sun at hs;unfold wk at hs hk;omega
 have K:=zh hk
 clear hs hk
 go_enter Tryz.func227,Tryz.ntmps227
 go_wp2_with fail
 with_reducible refine (zNl n _).mono ?_
 rw[K.out]
 rintro e w1 ⟨rfl,rfl⟩
 have Q:=zh hq
 clear hq
 go_wp2_with fail
 with_reducible refine (rem_7 (k-6) _ _ zo rfl).mono ?_
 rintro e w1 ⟨rfl,rfl⟩
 go_wp2_with fail
 go_ret
 exact⟨by rw[Q.out];rfl,rfl⟩
theorem zq5h4 {P:Prop} (h:P:=by
 go_wp2
 (try simp only[Exit.inBlock,Exit.then]);refine bodyPost_end (results_none rfl _ _ _) rfl ?_
 exact⟨rfl,by rw[←R.out]⟩):P:=h
theorem moon_1 (y v r:Int) (A B:Nat) (w:World) (cA:w.cell? ⟨A,0,none⟩=some (.int .i64 (y))) (cB:w.cell? ⟨B,0,none⟩=some (.int .i64 (v))) (fB:w.frozen? ⟨B,0,none⟩=false) (hy:1≤y∧y≤9999) (hr:y%19+1=r) :
  Calls Tryz.prog 230 #[.pointer (some ⟨A,0,none⟩),.pointer (some ⟨B,0,none⟩)] w fun e w'=>e=.returned (.tuple #[])∧w'=w.setCell ⟨B,0,none⟩ (r):=by
 have lA:=zA0 cA
 have lB:=zA0 cB
 obtain⟨h1,h2⟩:=hy
 have R:=zh hr
 clear hr
 go_enter Tryz.func230,Tryz.ntmps230
 exact zq5h4
theorem moon_2 (y v r:Int) (A B:Nat) (w:World) (cA:w.cell? ⟨A,0,none⟩=some (.int .i64 (y))) (cB:w.cell? ⟨B,0,none⟩=some (.int .i64 (v))) (fB:w.frozen? ⟨B,0,none⟩=false) (hy:1≤y∧y≤9999) (hr:y/100+1=r) :
  Calls Tryz.prog 231 #[.pointer (some ⟨A,0,none⟩),.pointer (some ⟨B,0,none⟩)] w fun e w'=>e=.returned (.tuple #[])∧w'=w.setCell ⟨B,0,none⟩ (r):=by
 have lA:=zA0 cA
 have lB:=zA0 cB
 obtain⟨h1,h2⟩:=hy
 have R:=zh hr
 clear hr
 go_enter Tryz.func231,Tryz.ntmps231
 exact zq5h4
theorem moon_3 (y v r:Int) (A B:Nat) (w:World) (cA:w.cell? ⟨A,0,none⟩=some (.int .i64 (y))) (cB:w.cell? ⟨B,0,none⟩=some (.int .i64 (v))) (fB:w.frozen? ⟨B,0,none⟩=false) (hy:1≤y∧y≤9999) (hr:3*y/4-12=r) :
  Calls Tryz.prog 232 #[.pointer (some ⟨A,0,none⟩),.pointer (some ⟨B,0,none⟩)] w fun e w'=>e=.returned (.tuple #[])∧w'=w.setCell ⟨B,0,none⟩ (r):=by
 have lA:=zA0 cA
 have lB:=zA0 cB
 obtain⟨h1,h2⟩:=hy
 have R:=zh hr
 clear hr
 go_enter Tryz.func232,Tryz.ntmps232
 exact zq5h4
theorem moon_4 (y v r:Int) (A B:Nat) (w:World) (cA:w.cell? ⟨A,0,none⟩=some (.int .i64 (y))) (cB:w.cell? ⟨B,0,none⟩=some (.int .i64 (v))) (fB:w.frozen? ⟨B,0,none⟩=false) (hy:1≤y∧y≤9999) (hr:(8*y+5)/25-5=r) :
  Calls Tryz.prog 233 #[.pointer (some ⟨A,0,none⟩),.pointer (some ⟨B,0,none⟩)] w fun e w'=>e=.returned (.tuple #[])∧w'=w.setCell ⟨B,0,none⟩ (r):=by
 have lA:=zA0 cA
 have lB:=zA0 cB
 obtain⟨h1,h2⟩:=hy
 have R:=zh hr
 clear hr
 go_enter Tryz.func233,Tryz.ntmps233
 exact zq5h4
theorem zq07l {P:Prop} (h:P:=by
 (try simp only[Exit.inBlock,Exit.then]);refine bodyPost_end (results_none rfl _ _ _) rfl ?_
 exact⟨rfl,rfl⟩):P:=h
theorem moon_5 (g z x v r:Int) (A B C D:Nat) (w:World) (cA:w.cell? ⟨A,0,none⟩=some (.int .i64 (g))) (cB:w.cell? ⟨B,0,none⟩=some (.int .i64 (z))) (cC:w.cell? ⟨C,0,none⟩=some (.int .i64 (x))) (cD:w.cell? ⟨D,0,none⟩=some (.int .i64 (v))) (fD:w.frozen? ⟨D,0,none⟩=false)
  (hg:1≤g∧g≤19) (hz : -5≤z∧z≤1000) (hx : -12≤x∧x≤1000) (hr:(11*g+20+z-x)%30=r) :
  Calls Tryz.prog 234 #[.pointer (some ⟨A,0,none⟩),.pointer (some ⟨B,0,none⟩),.pointer (some ⟨C,0,none⟩),.pointer (some ⟨D,0,none⟩)] w fun e w'=>e=.returned (.tuple #[])∧w'=w.setCell ⟨D,0,none⟩ (r):=by
 have lA:=zA0 cA
 have lB:=zA0 cB
 have lC:=zA0 cC
 have lD:=zA0 cD
 have R:=zh hr
 clear hr
 go_enter Tryz.func234,Tryz.ntmps234
 go_wp2_with fail
 with_reducible refine (rem_30 (11*g+20+z-x) r _ zo R.out).mono ?_
 rintro e w1 ⟨rfl,rfl⟩
 go_wp2_with fail
 exact zq07l
theorem Held.put {w W:World} {fs gs:List Fact} {u0:Value} (h:Held w fs W) (B:Nat) (u:Value) (hB:w.heap.size≤B) (hc:W.cell? ⟨B,0,none⟩=Option.some u0) (hs:∀f∈gs,f∈fs∧f.off B):Held w (.cell B 0 u::gs) (W.setCell ⟨B,0,none⟩ u):=
 Held.add (f:=.cell B 0 u) ((h.sub fun f hf=>(hs f hf).1).set B 0 u hB fun f hf=>(hs f hf).2) (World.cell?_setCell_same' _ _ _ (by rw[hc];rfl))
theorem moon_6a (g:Int) (A B:Nat) (w:World) (cA:w.cell? ⟨A,0,none⟩=some (.int .i64 24)) (cB:w.cell? ⟨B,0,none⟩=some (.int .i64 (g))) (fA:w.frozen? ⟨A,0,none⟩=false) :
  Calls Tryz.prog 235 #[.pointer (some ⟨A,0,none⟩),.pointer (some ⟨B,0,none⟩)] w fun e w'=>e=.returned (.tuple #[])∧w'=w.setCell ⟨A,0,none⟩ (25:Int):=by
 have lA:=zA0 cA
 have lB:=zA0 cB
 go_enter Tryz.func235,Tryz.ntmps235
 go_wp2
 exact zq07l
theorem moon_6b (g:Int) (A B:Nat) (w:World) (cA:w.cell? ⟨A,0,none⟩=some (.int .i64 25)) (cB:w.cell? ⟨B,0,none⟩=some (.int .i64 (g))) (fA:w.frozen? ⟨A,0,none⟩=false) (hg:11<g) :
  Calls Tryz.prog 235 #[.pointer (some ⟨A,0,none⟩),.pointer (some ⟨B,0,none⟩)] w fun e w'=>e=.returned (.tuple #[])∧w'=w.setCell ⟨A,0,none⟩ (26:Int):=by
 have lA:=zA0 cA
 have lB:=zA0 cB
 have t1:decide (g>11)=true:=zx
 go_enter Tryz.func235,Tryz.ntmps235
 go_wp2
 exact zq07l
theorem moon_6c (g:Int) (A B:Nat) (w:World) (cA:w.cell? ⟨A,0,none⟩=some (.int .i64 25)) (cB:w.cell? ⟨B,0,none⟩=some (.int .i64 (g))) (fA:w.frozen? ⟨A,0,none⟩=false) (hg:¬11<g) :
  Calls Tryz.prog 235 #[.pointer (some ⟨A,0,none⟩),.pointer (some ⟨B,0,none⟩)] w fun e w'=>e=.returned (.tuple #[])∧w'=w:=by
 have lA:=zA0 cA
 have lB:=zA0 cB
 have t1:decide (g>11)=false:=zx
 go_enter Tryz.func235,Tryz.ntmps235
 go_wp2
 exact zq07l
theorem moon_6d (u g:Int) (A B:Nat) (w:World) (cA:w.cell? ⟨A,0,none⟩=some (.int .i64 u)) (cB:w.cell? ⟨B,0,none⟩=some (.int .i64 (g))) (fA:w.frozen? ⟨A,0,none⟩=false) (h4:u≠24) (h5:u≠25) :
  Calls Tryz.prog 235 #[.pointer (some ⟨A,0,none⟩),.pointer (some ⟨B,0,none⟩)] w fun e w'=>e=.returned (.tuple #[])∧w'=w:=by
 have lA:=zA0 cA
 have lB:=zA0 cB
 have t1:(u==25)=false:=by simpa using h5
 have t2:(u==24)=false:=by simpa using h4
 go_enter Tryz.func235,Tryz.ntmps235
 go_wp2
 exact zq07l
theorem moon_6 (u g r:Int) (A B:Nat) (w:World) (cA:w.cell? ⟨A,0,none⟩=some (.int .i64 (u))) (cB:w.cell? ⟨B,0,none⟩=some (.int .i64 (g))) (fA:w.frozen? ⟨A,0,none⟩=false) (hr:(if u=25∧11<g∨u=24 then u+1 else u)=r) :
  Calls Tryz.prog 235 #[.pointer (some ⟨A,0,none⟩),.pointer (some ⟨B,0,none⟩)] w fun e w'=>e=.returned (.tuple #[])∧(w'=w.setCell ⟨A,0,none⟩ (r)∨w'=w∧u=r):=by
 by_cases h4:u=24
 ·subst h4
  rw[if_pos (Or.inr rfl)] at hr
  subst hr
  exact (moon_6a g A B w cA cB fA).mono fun e w' h=>⟨h.1,Or.inl h.2⟩
 ·by_cases h5:u=25
  ·subst h5
   by_cases hg:11<g
   ·rw[if_pos (Or.inl ⟨rfl,hg⟩)] at hr
    subst hr
    exact (moon_6b g A B w cA cB fA hg).mono fun e w' h=>⟨h.1,Or.inl h.2⟩
   ·rw[if_neg zo] at hr
    exact (moon_6c g A B w cA cB fA hg).mono fun e w' h=>⟨h.1,Or.inr ⟨h.2,hr⟩⟩
  ·rw[if_neg zo] at hr
   exact (moon_6d u g A B w cA cB fA h4 h5).mono fun e w' h=>⟨h.1,Or.inr ⟨h.2,hr⟩⟩
theorem moon_7 (u v:Int) (A B:Nat) (w:World) (cA:w.cell? ⟨A,0,none⟩=some (.int .i64 (u))) (cB:w.cell? ⟨B,0,none⟩=some (.int .i64 (v))) (fB:w.frozen? ⟨B,0,none⟩=false) (hu:0≤u∧u≤30) :
  Calls Tryz.prog 236 #[.pointer (some ⟨A,0,none⟩),.pointer (some ⟨B,0,none⟩)] w fun e w'=>e=.returned (.tuple #[])∧w'=w.setCell ⟨B,0,none⟩ (44-u:Int):=by
 have lA:=zA0 cA
 have lB:=zA0 cB
 go_enter Tryz.func236,Tryz.ntmps236
 go_wp2
 exact zq07l
theorem moon_8a (u:Int) (A:Nat) (w:World) (cA:w.cell? ⟨A,0,none⟩=some (.int .i64 (u))) (fA:w.frozen? ⟨A,0,none⟩=false) (hu:0≤u∧u≤44) (h:u<21) :
  Calls Tryz.prog 237 #[.pointer (some ⟨A,0,none⟩)] w fun e w'=>e=.returned (.tuple #[])∧w'=w.setCell ⟨A,0,none⟩ (u+30:Int):=by
 have lA:=zA0 cA
 go_enter Tryz.func237,Tryz.ntmps237
 go_wp2
 exact zq07l
theorem moon_8b (u:Int) (A:Nat) (w:World) (cA:w.cell? ⟨A,0,none⟩=some (.int .i64 (u))) (fA:w.frozen? ⟨A,0,none⟩=false) (hu:0≤u∧u≤44) (h:¬u<21) :
  Calls Tryz.prog 237 #[.pointer (some ⟨A,0,none⟩)] w fun e w'=>e=.returned (.tuple #[])∧w'=w:=by
 have lA:=zA0 cA
 go_enter Tryz.func237,Tryz.ntmps237
 go_wp2
 exact zq07l
theorem moon_8 (u r:Int) (A:Nat) (w:World) (cA:w.cell? ⟨A,0,none⟩=some (.int .i64 (u))) (fA:w.frozen? ⟨A,0,none⟩=false) (hu:0≤u∧u≤44) (hr:(if u<21 then u+30 else u)=r) :
  Calls Tryz.prog 237 #[.pointer (some ⟨A,0,none⟩)] w fun e w'=>e=.returned (.tuple #[])∧(w'=w.setCell ⟨A,0,none⟩ (r)∨w'=w∧u=r):=by
 by_cases h:u<21
 ·rw[if_pos h] at hr
  subst hr
  exact (moon_8a u A w cA fA hu h).mono fun e w' h=>⟨h.1,Or.inl h.2⟩
 ·rw[if_neg h] at hr
  exact (moon_8b u A w cA fA hu h).mono fun e w' h=>⟨h.1,Or.inr ⟨h.2,hr⟩⟩
theorem step_0 (p0 p1 p2 p3 p4 p5 p6 p7:Array Value) (w:World):(Instr.index 269 (.agg #[.func (.func 230) #[] p0,.func (.func 231) #[] p1,.func (.func 232) #[] p2,.func (.func 233) #[] p3,.func (.func 234) #[] p4,.func (.func 235) #[] p5,.func (.func 236) #[] p6,.func (.func 237) #[] p7]) (0:Int)).run Tryz.prog w=.ok (.func (.func 230) #[] p0) w:=zk
theorem step_1 (p0 p1 p2 p3 p4 p5 p6 p7:Array Value) (w:World):(Instr.index 269 (.agg #[.func (.func 230) #[] p0,.func (.func 231) #[] p1,.func (.func 232) #[] p2,.func (.func 233) #[] p3,.func (.func 234) #[] p4,.func (.func 235) #[] p5,.func (.func 236) #[] p6,.func (.func 237) #[] p7]) (1:Int)).run Tryz.prog w=.ok (.func (.func 231) #[] p1) w:=zk
theorem step_2 (p0 p1 p2 p3 p4 p5 p6 p7:Array Value) (w:World):(Instr.index 269 (.agg #[.func (.func 230) #[] p0,.func (.func 231) #[] p1,.func (.func 232) #[] p2,.func (.func 233) #[] p3,.func (.func 234) #[] p4,.func (.func 235) #[] p5,.func (.func 236) #[] p6,.func (.func 237) #[] p7]) (2:Int)).run Tryz.prog w=.ok (.func (.func 232) #[] p2) w:=zk
theorem step_3 (p0 p1 p2 p3 p4 p5 p6 p7:Array Value) (w:World):(Instr.index 269 (.agg #[.func (.func 230) #[] p0,.func (.func 231) #[] p1,.func (.func 232) #[] p2,.func (.func 233) #[] p3,.func (.func 234) #[] p4,.func (.func 235) #[] p5,.func (.func 236) #[] p6,.func (.func 237) #[] p7]) (3:Int)).run Tryz.prog w=.ok (.func (.func 233) #[] p3) w:=zk
theorem step_4 (p0 p1 p2 p3 p4 p5 p6 p7:Array Value) (w:World):(Instr.index 269 (.agg #[.func (.func 230) #[] p0,.func (.func 231) #[] p1,.func (.func 232) #[] p2,.func (.func 233) #[] p3,.func (.func 234) #[] p4,.func (.func 235) #[] p5,.func (.func 236) #[] p6,.func (.func 237) #[] p7]) (4:Int)).run Tryz.prog w=.ok (.func (.func 234) #[] p4) w:=zk
theorem step_5 (p0 p1 p2 p3 p4 p5 p6 p7:Array Value) (w:World):(Instr.index 269 (.agg #[.func (.func 230) #[] p0,.func (.func 231) #[] p1,.func (.func 232) #[] p2,.func (.func 233) #[] p3,.func (.func 234) #[] p4,.func (.func 235) #[] p5,.func (.func 236) #[] p6,.func (.func 237) #[] p7]) (5:Int)).run Tryz.prog w=.ok (.func (.func 235) #[] p5) w:=zk
theorem step_6 (p0 p1 p2 p3 p4 p5 p6 p7:Array Value) (w:World):(Instr.index 269 (.agg #[.func (.func 230) #[] p0,.func (.func 231) #[] p1,.func (.func 232) #[] p2,.func (.func 233) #[] p3,.func (.func 234) #[] p4,.func (.func 235) #[] p5,.func (.func 236) #[] p6,.func (.func 237) #[] p7]) (6:Int)).run Tryz.prog w=.ok (.func (.func 236) #[] p6) w:=zk
theorem step_7 (p0 p1 p2 p3 p4 p5 p6 p7:Array Value) (w:World):(Instr.index 269 (.agg #[.func (.func 230) #[] p0,.func (.func 231) #[] p1,.func (.func 232) #[] p2,.func (.func 233) #[] p3,.func (.func 234) #[] p4,.func (.func 235) #[] p5,.func (.func 236) #[] p6,.func (.func 237) #[] p7]) (7:Int)).run Tryz.prog w=.ok (.func (.func 237) #[] p7) w:=zk
theorem moon_any (y:Int) (w:World) (h1:1≤y) (h2:y≤9999) :
  Calls Tryz.prog 228 #[y] w fun e w'=>e=.returned (eaN y)∧Below w w w':=by
 have hmf:=zHM
 have sf:=zSF
 have ix0:=step_0
 have ix1:=step_1
 have ix2:=step_2
 have ix3:=step_3
 have ix4:=step_4
 have ix5:=step_5
 have ix6:=step_6
 have ix7:=step_7
 have H0:=Held.start w
 replace H0:=H0.lone w (y) 3 zs
 replace H0:=H0.lone (w+1) (0:Int) 3 zs
 replace H0:=H0.lone (w.heap.size+1+1) (0:Int) 3 zs
 replace H0:=H0.lone (w.heap.size+1+1+1) (0:Int) 3 zs
 replace H0:=H0.lone (w.heap.size+1+1+1+1) (0:Int) 3 zs
 replace H0:=H0.lone (w.heap.size+1+1+1+1+1) (0:Int) 3 zs
 replace H0:=H0.lone (w.heap.size+1+1+1+1+1+1) (0:Int) 3 zs
 have ra:0≤eaR y∧eaR y<30:=by unfold eaR;omega
 have rb:0≤eaE y∧eaE y≤30:=by unfold eaE;split <;> omega
 go_enter Tryz.func228,Tryz.ntmps228
 go_wp2_with fail
 refine wp_loop_rounds 9 ?_
 replace H0:=fun o=>H0.alloc o
 rw[rounds_succ]
 go_wp2_with fail
 have c_y:=fun o=>(H0 o).cell w 0 (y) zm
 have c_g:=fun o=>(H0 o).cell (w+1) 0 (0:Int) zm
 have f_g:=fun o=>(H0 o).frozen (w+1) 0 zm
 with_reducible refine (moon_1 y 0 _ _ _ _ (c_y _) (c_g _) (f_g _) ⟨h1,h2⟩ rfl).mono ?_
 rintro e w0' ⟨rfl,hw⟩
 have H1:Held w [.cell (w+1) 0 (y%19+1:Int),.cell (w.heap.size+1+1+1+1+1+1) 0 (0:Int),.free (w.heap.size+1+1+1+1+1+1) 0,.cell (w.heap.size+1+1+1+1+1) 0 (0:Int),.free (w.heap.size+1+1+1+1+1) 0,.cell (w.heap.size+1+1+1+1) 0 (0:Int),.free (w.heap.size+1+1+1+1) 0,.cell (w.heap.size+1+1+1) 0 (0:Int),.free (w.heap.size+1+1+1) 0,.cell (w.heap.size+1+1) 0 (0:Int),.free (w.heap.size+1+1) 0,.free (w+1) 0,.cell w 0 (y),.free w 0] w0':=by rw[hw];exact (H0 _).put (gs:=[.cell (w.heap.size+1+1+1+1+1+1) 0 (0:Int),.free (w.heap.size+1+1+1+1+1+1) 0,.cell (w.heap.size+1+1+1+1+1) 0 (0:Int),.free (w.heap.size+1+1+1+1+1) 0,.cell (w.heap.size+1+1+1+1) 0 (0:Int),.free (w.heap.size+1+1+1+1) 0,.cell (w.heap.size+1+1+1) 0 (0:Int),.free (w.heap.size+1+1+1) 0,.cell (w.heap.size+1+1) 0 (0:Int),.free (w.heap.size+1+1) 0,.free (w+1) 0,.cell w 0 (y),.free w 0]) (w+1) (y%19+1:Int) zo (c_g _) (by intro f hf;simp only[List.mem_cons,List.not_mem_nil,or_false] at hf;rcases hf with rfl | rfl | rfl | rfl | rfl | rfl | rfl | rfl | rfl | rfl | rfl | rfl | rfl <;> exact⟨zm,by simp[Fact.off] <;> omega⟩)
 clear hw H0 f_g c_y c_g
 go_wp2_with fail
 (try simp only[Exit.inBlock,Exit.then])
 rw[rounds_succ]
 go_wp2_with fail
 have c_y:=H1.cell w 0 _
 have c_c:=H1.cell (w.heap.size+1+1) 0 _
 have f_c:=H1.frozen (w.heap.size+1+1) 0
 with_reducible refine (moon_2 y 0 _ _ _ _ c_y c_c f_c ⟨h1,h2⟩ rfl).mono ?_
 rintro e w1' ⟨rfl,hw⟩
 have H2:Held w [.cell (w.heap.size+1+1) 0 (y/100+1:Int),.cell (w+1) 0 (y%19+1:Int),.cell (w.heap.size+1+1+1+1+1+1) 0 (0:Int),.free (w.heap.size+1+1+1+1+1+1) 0,.cell (w.heap.size+1+1+1+1+1) 0 (0:Int),.free (w.heap.size+1+1+1+1+1) 0,.cell (w.heap.size+1+1+1+1) 0 (0:Int),.free (w.heap.size+1+1+1+1) 0,.cell (w.heap.size+1+1+1) 0 (0:Int),.free (w.heap.size+1+1+1) 0,.free (w.heap.size+1+1) 0,.free (w+1) 0,.cell w 0 (y),.free w 0] w1':=by rw[hw];exact H1.put (gs:=[.cell (w+1) 0 (y%19+1:Int),.cell (w.heap.size+1+1+1+1+1+1) 0 (0:Int),.free (w.heap.size+1+1+1+1+1+1) 0,.cell (w.heap.size+1+1+1+1+1) 0 (0:Int),.free (w.heap.size+1+1+1+1+1) 0,.cell (w.heap.size+1+1+1+1) 0 (0:Int),.free (w.heap.size+1+1+1+1) 0,.cell (w.heap.size+1+1+1) 0 (0:Int),.free (w.heap.size+1+1+1) 0,.free (w.heap.size+1+1) 0,.free (w+1) 0,.cell w 0 (y),.free w 0]) (w.heap.size+1+1) (y/100+1:Int) zo c_c (by intro f hf;simp only[List.mem_cons,List.not_mem_nil,or_false] at hf;rcases hf with rfl | rfl | rfl | rfl | rfl | rfl | rfl | rfl | rfl | rfl | rfl | rfl | rfl <;> exact⟨zm,by simp[Fact.off] <;> omega⟩)
 clear hw H1 f_c c_y c_c
 go_wp2_with fail
 (try simp only[Exit.inBlock,Exit.then])
 rw[rounds_succ]
 go_wp2_with fail
 have c_c:=H2.cell (w.heap.size+1+1) 0 _
 have c_x:=H2.cell (w.heap.size+1+1+1) 0 _
 have f_x:=H2.frozen (w.heap.size+1+1+1) 0
 with_reducible refine (moon_3 (y/100+1) 0 _ _ _ _ c_c c_x f_x zo rfl).mono ?_
 rintro e w2' ⟨rfl,hw⟩
 have H3:Held w [.cell (w.heap.size+1+1+1) 0 (3*(y/100+1)/4-12:Int),.cell (w.heap.size+1+1) 0 (y/100+1:Int),.cell (w+1) 0 (y%19+1:Int),.cell (w.heap.size+1+1+1+1+1+1) 0 (0:Int),.free (w.heap.size+1+1+1+1+1+1) 0,.cell (w.heap.size+1+1+1+1+1) 0 (0:Int),.free (w.heap.size+1+1+1+1+1) 0,.cell (w.heap.size+1+1+1+1) 0 (0:Int),.free (w.heap.size+1+1+1+1) 0,.free (w.heap.size+1+1+1) 0,.free (w.heap.size+1+1) 0,.free (w+1) 0,.cell w 0 (y),.free w 0] w2':=by rw[hw];exact H2.put (gs:=[.cell (w.heap.size+1+1) 0 (y/100+1:Int),.cell (w+1) 0 (y%19+1:Int),.cell (w.heap.size+1+1+1+1+1+1) 0 (0:Int),.free (w.heap.size+1+1+1+1+1+1) 0,.cell (w.heap.size+1+1+1+1+1) 0 (0:Int),.free (w.heap.size+1+1+1+1+1) 0,.cell (w.heap.size+1+1+1+1) 0 (0:Int),.free (w.heap.size+1+1+1+1) 0,.free (w.heap.size+1+1+1) 0,.free (w.heap.size+1+1) 0,.free (w+1) 0,.cell w 0 (y),.free w 0]) (w.heap.size+1+1+1) (3*(y/100+1)/4-12:Int) zo c_x (by intro f hf;simp only[List.mem_cons,List.not_mem_nil,or_false] at hf;rcases hf with rfl | rfl | rfl | rfl | rfl | rfl | rfl | rfl | rfl | rfl | rfl | rfl | rfl <;> exact⟨zm,by simp[Fact.off] <;> omega⟩)
 clear hw H2 f_x c_c c_x
 go_wp2_with fail
 (try simp only[Exit.inBlock,Exit.then])
 rw[rounds_succ]
 go_wp2_with fail
 have c_c:=H3.cell (w.heap.size+1+1) 0 _
 have c_z:=H3.cell (w.heap.size+1+1+1+1) 0 _
 have f_z:=H3.frozen (w.heap.size+1+1+1+1) 0
 with_reducible refine (moon_4 (y/100+1) 0 _ _ _ _ c_c c_z f_z zo rfl).mono ?_
 rintro e w3' ⟨rfl,hw⟩
 have H4:Held w [.cell (w.heap.size+1+1+1+1) 0 ((8*(y/100+1)+5)/25-5:Int),.cell (w.heap.size+1+1+1) 0 (3*(y/100+1)/4-12:Int),.cell (w.heap.size+1+1) 0 (y/100+1:Int),.cell (w+1) 0 (y%19+1:Int),.cell (w.heap.size+1+1+1+1+1+1) 0 (0:Int),.free (w.heap.size+1+1+1+1+1+1) 0,.cell (w.heap.size+1+1+1+1+1) 0 (0:Int),.free (w.heap.size+1+1+1+1+1) 0,.free (w.heap.size+1+1+1+1) 0,.free (w.heap.size+1+1+1) 0,.free (w.heap.size+1+1) 0,.free (w+1) 0,.cell w 0 (y),.free w 0] w3':=by rw[hw];exact H3.put (gs:=[.cell (w.heap.size+1+1+1) 0 (3*(y/100+1)/4-12:Int),.cell (w.heap.size+1+1) 0 (y/100+1:Int),.cell (w+1) 0 (y%19+1:Int),.cell (w.heap.size+1+1+1+1+1+1) 0 (0:Int),.free (w.heap.size+1+1+1+1+1+1) 0,.cell (w.heap.size+1+1+1+1+1) 0 (0:Int),.free (w.heap.size+1+1+1+1+1) 0,.free (w.heap.size+1+1+1+1) 0,.free (w.heap.size+1+1+1) 0,.free (w.heap.size+1+1) 0,.free (w+1) 0,.cell w 0 (y),.free w 0]) (w.heap.size+1+1+1+1) ((8*(y/100+1)+5)/25-5:Int) zo c_z (by intro f hf;simp only[List.mem_cons,List.not_mem_nil,or_false] at hf;rcases hf with rfl | rfl | rfl | rfl | rfl | rfl | rfl | rfl | rfl | rfl | rfl | rfl | rfl <;> exact⟨zm,by simp[Fact.off] <;> omega⟩)
 clear hw H3 f_z c_c c_z
 go_wp2_with fail
 (try simp only[Exit.inBlock,Exit.then])
 rw[rounds_succ]
 go_wp2_with fail
 have c_g:=H4.cell (w+1) 0 _
 have c_z:=H4.cell (w.heap.size+1+1+1+1) 0 _
 have c_x:=H4.cell (w.heap.size+1+1+1) 0 _
 have c_e:=H4.cell (w.heap.size+1+1+1+1+1) 0 _
 have f_e:=H4.frozen (w.heap.size+1+1+1+1+1) 0
 with_reducible refine (moon_5 (y%19+1) ((8*(y/100+1)+5)/25-5) (3*(y/100+1)/4-12) 0 (eaR y) _ _ _ _ _ c_g c_z c_x c_e f_e zo zo zo rfl).mono ?_
 rintro e w4' ⟨rfl,hw⟩
 have H5:Held w [.cell (w.heap.size+1+1+1+1+1) 0 (eaR y),.cell (w.heap.size+1+1+1+1) 0 ((8*(y/100+1)+5)/25-5:Int),.cell (w.heap.size+1+1+1) 0 (3*(y/100+1)/4-12:Int),.cell (w.heap.size+1+1) 0 (y/100+1:Int),.cell (w+1) 0 (y%19+1:Int),.cell (w.heap.size+1+1+1+1+1+1) 0 (0:Int),.free (w.heap.size+1+1+1+1+1+1) 0,.free (w.heap.size+1+1+1+1+1) 0,.free (w.heap.size+1+1+1+1) 0,.free (w.heap.size+1+1+1) 0,.free (w.heap.size+1+1) 0,.free (w+1) 0,.cell w 0 (y),.free w 0] w4':=by rw[hw];exact H4.put (gs:=[.cell (w.heap.size+1+1+1+1) 0 ((8*(y/100+1)+5)/25-5:Int),.cell (w.heap.size+1+1+1) 0 (3*(y/100+1)/4-12:Int),.cell (w.heap.size+1+1) 0 (y/100+1:Int),.cell (w+1) 0 (y%19+1:Int),.cell (w.heap.size+1+1+1+1+1+1) 0 (0:Int),.free (w.heap.size+1+1+1+1+1+1) 0,.free (w.heap.size+1+1+1+1+1) 0,.free (w.heap.size+1+1+1+1) 0,.free (w.heap.size+1+1+1) 0,.free (w.heap.size+1+1) 0,.free (w+1) 0,.cell w 0 (y),.free w 0]) (w.heap.size+1+1+1+1+1) (eaR y) zo c_e (by intro f hf;simp only[List.mem_cons,List.not_mem_nil,or_false] at hf;rcases hf with rfl | rfl | rfl | rfl | rfl | rfl | rfl | rfl | rfl | rfl | rfl | rfl | rfl <;> exact⟨zm,by simp[Fact.off] <;> omega⟩)
 clear hw H4 f_e c_g c_z c_x c_e
 go_wp2_with fail
 (try simp only[Exit.inBlock,Exit.then])
 rw[rounds_succ]
 go_wp2_with fail
 have c_e:=H5.cell (w.heap.size+1+1+1+1+1) 0 _
 have c_g:=H5.cell (w+1) 0 _
 have f_e:=H5.frozen (w.heap.size+1+1+1+1+1) 0
 with_reducible refine (moon_6 (eaR y) (y%19+1) (eaE y) _ _ _ c_e c_g f_e rfl).mono ?_
 rintro e w5' ⟨rfl,hw⟩
 have H6:Held w [.cell (w.heap.size+1+1+1+1+1) 0 (eaE y),.cell (w.heap.size+1+1+1+1) 0 ((8*(y/100+1)+5)/25-5:Int),.cell (w.heap.size+1+1+1) 0 (3*(y/100+1)/4-12:Int),.cell (w.heap.size+1+1) 0 (y/100+1:Int),.cell (w+1) 0 (y%19+1:Int),.cell (w.heap.size+1+1+1+1+1+1) 0 (0:Int),.free (w.heap.size+1+1+1+1+1+1) 0,.free (w.heap.size+1+1+1+1+1) 0,.free (w.heap.size+1+1+1+1) 0,.free (w.heap.size+1+1+1) 0,.free (w.heap.size+1+1) 0,.free (w+1) 0,.cell w 0 (y),.free w 0] w5':=by
  rcases hw with hw | ⟨hw,hv⟩
  ·rw[hw];exact H5.put (gs:=[.cell (w.heap.size+1+1+1+1) 0 ((8*(y/100+1)+5)/25-5:Int),.cell (w.heap.size+1+1+1) 0 (3*(y/100+1)/4-12:Int),.cell (w.heap.size+1+1) 0 (y/100+1:Int),.cell (w+1) 0 (y%19+1:Int),.cell (w.heap.size+1+1+1+1+1+1) 0 (0:Int),.free (w.heap.size+1+1+1+1+1+1) 0,.free (w.heap.size+1+1+1+1+1) 0,.free (w.heap.size+1+1+1+1) 0,.free (w.heap.size+1+1+1) 0,.free (w.heap.size+1+1) 0,.free (w+1) 0,.cell w 0 (y),.free w 0]) (w.heap.size+1+1+1+1+1) (eaE y) zo c_e (by intro f hf;simp only[List.mem_cons,List.not_mem_nil,or_false] at hf;rcases hf with rfl | rfl | rfl | rfl | rfl | rfl | rfl | rfl | rfl | rfl | rfl | rfl | rfl <;> exact⟨zm,by simp[Fact.off] <;> omega⟩)
  ·rw[hw,←hv];exact H5.sub (by intro f hf;simp only[List.mem_cons,List.not_mem_nil,or_false] at hf;rcases hf with rfl | rfl | rfl | rfl | rfl | rfl | rfl | rfl | rfl | rfl | rfl | rfl | rfl | rfl <;> exact zm)
 clear hw H5 f_e c_e c_g
 go_wp2_with fail
 (try simp only[Exit.inBlock,Exit.then])
 rw[rounds_succ]
 go_wp2_with fail
 have c_e:=H6.cell (w.heap.size+1+1+1+1+1) 0 _
 have c_n:=H6.cell (w.heap.size+1+1+1+1+1+1) 0 _
 have f_n:=H6.frozen (w.heap.size+1+1+1+1+1+1) 0
 with_reducible refine (moon_7 (eaE y) 0 _ _ _ c_e c_n f_n zo).mono ?_
 rintro e w6' ⟨rfl,hw⟩
 have H7:Held w [.cell (w.heap.size+1+1+1+1+1+1) 0 (44-eaE y:Int),.cell (w.heap.size+1+1+1+1+1) 0 (eaE y),.cell (w.heap.size+1+1+1+1) 0 ((8*(y/100+1)+5)/25-5:Int),.cell (w.heap.size+1+1+1) 0 (3*(y/100+1)/4-12:Int),.cell (w.heap.size+1+1) 0 (y/100+1:Int),.cell (w+1) 0 (y%19+1:Int),.free (w.heap.size+1+1+1+1+1+1) 0,.free (w.heap.size+1+1+1+1+1) 0,.free (w.heap.size+1+1+1+1) 0,.free (w.heap.size+1+1+1) 0,.free (w.heap.size+1+1) 0,.free (w+1) 0,.cell w 0 (y),.free w 0] w6':=by rw[hw];exact H6.put (gs:=[.cell (w.heap.size+1+1+1+1+1) 0 (eaE y),.cell (w.heap.size+1+1+1+1) 0 ((8*(y/100+1)+5)/25-5:Int),.cell (w.heap.size+1+1+1) 0 (3*(y/100+1)/4-12:Int),.cell (w.heap.size+1+1) 0 (y/100+1:Int),.cell (w+1) 0 (y%19+1:Int),.free (w.heap.size+1+1+1+1+1+1) 0,.free (w.heap.size+1+1+1+1+1) 0,.free (w.heap.size+1+1+1+1) 0,.free (w.heap.size+1+1+1) 0,.free (w.heap.size+1+1) 0,.free (w+1) 0,.cell w 0 (y),.free w 0]) (w.heap.size+1+1+1+1+1+1) (44-eaE y:Int) zo c_n (by intro f hf;simp only[List.mem_cons,List.not_mem_nil,or_false] at hf;rcases hf with rfl | rfl | rfl | rfl | rfl | rfl | rfl | rfl | rfl | rfl | rfl | rfl | rfl <;> exact⟨zm,by simp[Fact.off] <;> omega⟩)
 clear hw H6 f_n c_e c_n
 go_wp2_with fail
 (try simp only[Exit.inBlock,Exit.then])
 rw[rounds_succ]
 go_wp2_with fail
 have c_n:=H7.cell (w.heap.size+1+1+1+1+1+1) 0 _
 have f_n:=H7.frozen (w.heap.size+1+1+1+1+1+1) 0
 with_reducible refine (moon_8 (44-eaE y) (eaN y) _ _ c_n f_n zo (by unfold eaN;split <;> omega)).mono ?_
 rintro e w7' ⟨rfl,hw⟩
 have H8:Held w [.cell (w.heap.size+1+1+1+1+1+1) 0 (eaN y),.cell (w.heap.size+1+1+1+1+1) 0 (eaE y),.cell (w.heap.size+1+1+1+1) 0 ((8*(y/100+1)+5)/25-5:Int),.cell (w.heap.size+1+1+1) 0 (3*(y/100+1)/4-12:Int),.cell (w.heap.size+1+1) 0 (y/100+1:Int),.cell (w+1) 0 (y%19+1:Int),.free (w.heap.size+1+1+1+1+1+1) 0,.free (w.heap.size+1+1+1+1+1) 0,.free (w.heap.size+1+1+1+1) 0,.free (w.heap.size+1+1+1) 0,.free (w.heap.size+1+1) 0,.free (w+1) 0,.cell w 0 (y),.free w 0] w7':=by
  rcases hw with hw | ⟨hw,hv⟩
  ·rw[hw];exact H7.put (gs:=[.cell (w.heap.size+1+1+1+1+1) 0 (eaE y),.cell (w.heap.size+1+1+1+1) 0 ((8*(y/100+1)+5)/25-5:Int),.cell (w.heap.size+1+1+1) 0 (3*(y/100+1)/4-12:Int),.cell (w.heap.size+1+1) 0 (y/100+1:Int),.cell (w+1) 0 (y%19+1:Int),.free (w.heap.size+1+1+1+1+1+1) 0,.free (w.heap.size+1+1+1+1+1) 0,.free (w.heap.size+1+1+1+1) 0,.free (w.heap.size+1+1+1) 0,.free (w.heap.size+1+1) 0,.free (w+1) 0,.cell w 0 (y),.free w 0]) (w.heap.size+1+1+1+1+1+1) (eaN y) zo c_n (by intro f hf;simp only[List.mem_cons,List.not_mem_nil,or_false] at hf;rcases hf with rfl | rfl | rfl | rfl | rfl | rfl | rfl | rfl | rfl | rfl | rfl | rfl | rfl <;> exact⟨zm,by simp[Fact.off] <;> omega⟩)
  ·rw[hw,←hv];exact H7.sub (by intro f hf;simp only[List.mem_cons,List.not_mem_nil,or_false] at hf;rcases hf with rfl | rfl | rfl | rfl | rfl | rfl | rfl | rfl | rfl | rfl | rfl | rfl | rfl | rfl <;> exact zm)
 clear hw H7 f_n c_n
 go_wp2_with fail
 (try simp only[Exit.inBlock,Exit.then])
 have c_n:=H8.cell (w.heap.size+1+1+1+1+1+1) 0 _
 have l_n:=zA0 c_n
 rw[rounds_succ]
 go_wp2_with fail
 go_ret
 exact⟨rfl,H8.old⟩
theorem eday_any (y n c:Int) (w:World) (hL:FactsE w) (h:EaIs y n c):Calls Tryz.prog 226 #[y] w fun e w'=>e=.returned (.tuple #[n,c])∧Below w w w':=by
 have hL:Lens w:=hL
 rcases h with⟨h1,h2,hn,rfl⟩ | ⟨ho,rfl,rfl⟩
 ·have my:=zEa (zDf y 1 h1 h2 zd zd)
  have bd:=zAd y 3 1 (zDf y 1 h1 h2 zd zd)
  have eb:=eaN_bd y
  unfold east at hn
  obtain⟨M,hM⟩:∃M,nb y 3 1=M:=⟨_,rfl⟩
  obtain⟨N,hN⟩:∃N,eaN y=N:=⟨_,rfl⟩
  rw[hM] at my bd hn
  rw[hN] at eb hn
  have hn2:sun (M+N-1+1)=n:=by rw[←hn];congr 1;omega
  have C1:=zh (fun v h=>zCc y 3 1 M 0 v h my)
  have C2:=zh (fun v=>moon_any y v h1 h2)
  rw[hN] at C2
  have C3:=zh (fun v=>zNx (M+N-1) n v zo hn2)
  clear hn hn2 hM hN my
  go_enter Tryz.func226,Tryz.ntmps226
  go_wp2_with fail
  with_reducible refine (C1.out _ (hL.below (by first | exact Below.refl _ _ | exact (Below.refl _ _).alloc (Nat.le_refl _) _))).mono ?_
  rintro e w1 ⟨rfl,hb⟩
  go_wp2_with fail
  with_reducible refine (C2.out _).mono ?_
  rintro e w2 ⟨rfl,hb2⟩
  go_wp2_with fail
  with_reducible refine (C3.out _).mono ?_
  rintro e w3 ⟨rfl,rfl⟩
  go_wp2_with fail
  go_ret2
  exact⟨rfl,hb.trans (hb2.mono hb.size)⟩
 ·have my:=n_no (y:=y) (m:=3) (d:=1) (fun k=>by have a:=k.1;have b:=k.2.1;omega)
  have C1:=zh (fun v h=>zCc y 3 1 0 3 v h my)
  clear my
  go_enter Tryz.func226,Tryz.ntmps226
  go_wp2_with fail
  with_reducible refine (C1.out _ (hL.below (by first | exact Below.refl _ _ | exact (Below.refl _ _).alloc (Nat.le_refl _) _))).mono ?_
  rintro e w1 ⟨rfl,hb⟩
  go_wp2_with fail
  go_ret2
  exact⟨rfl,hb⟩
end Go.Proofs.YtpfgdfpaoldhcaaGreatDoor
