/- Several texts in one: GIc. -/
import Derived.Test.YtpfgdfpaoldhcaaGreatDoorSuAN
import Derived.LaidEql
import Derived.Stop.Asserts
import Derived.RowKitTokens
import Derived.RangeFuncNested
import Derived.RangeFuncBound
import Derived.RangeFuncCalls
import Derived.RangeFuncLeaves
import Derived.Shelf.Abstract
import Derived.Shelf.RegionOpen
import Derived.OwnWalkIn
import Derived.TacticsInMore
import Derived.LoopNIn
import Derived.LoopIn
set_option maxHeartbeats 8000000
set_option maxRecDepth 100000
set_option linter.unusedVariables false
set_option linter.unusedSimpArgs false
namespace Go.Proofs.YtpfgdfpaoldhcaaGreatDoor
open Go.RowKit Go.Extern.Stop Go.Stop Go.Extern
def Errs (w:World):Prop:=w.cell? ⟨4,0,none⟩=some (.iface 204 (.agg #[.pointer (some ⟨19,141,none⟩)]))∧∃(v0 v1 v2 v3 v4 v5 v6:Value),
 w.cell? ⟨10,0,none⟩=some (.iface 270 v0)∧w.cell? ⟨11,0,none⟩=some (.iface 270 v1)∧w.cell? ⟨12,0,none⟩=some (.iface 270 v2)∧w.cell? ⟨15,0,none⟩=some (.iface 270 v3)∧w.cell? ⟨16,0,none⟩=some (.iface 270 v4)∧w.cell? ⟨17,0,none⟩=some (.iface 270 v5)∧w.cell? ⟨18,0,none⟩=some (.iface 270 v6)
theorem Errs.below {W W':World} (h:Errs W) (hb:Below W W W'):Errs W':=by
 obtain⟨ht,v0,v1,v2,v3,v4,v5,v6,h0,h1,h2,h3,h4,h5,h6⟩:=h
 exact⟨keep hb (zA0 ht) ht,v0,v1,v2,v3,v4,v5,v6,keep hb (zA0 h0) h0,keep hb (zA0 h1) h1,keep hb (zA0 h2) h2,keep hb (zA0 h3) h3,keep hb (zA0 h4) h4,keep hb (zA0 h5) h5,keep hb (zA0 h6) h6⟩
def Facts (w:World):Prop:=Lens w∧Errs w
theorem Facts.below {W W':World} (h:Facts W) (hb:Below W W W'):Facts W':=⟨h.1.below hb,h.2.below hb⟩
def zBo:Fact:=.that Facts (fun _ _ hb h=>h.below hb)
theorem Held.facts {w W:World} {fs:List Fact} (h:Held w fs W) (hm:zBo∈fs:=by exact zm):Facts W:=h.all _ hm
theorem as_nil (t:Value) (w:World) :
  Calls Tryz.prog 117 #[.nilIface,t] w fun e w'=>e=.returned false∧w'=w:=by
 go_enter Tryz.func117,Tryz.ntmps117
 go_wp2
 go_ret
 exact⟨rfl,rfl⟩
theorem zNv (t:Addr) (w:World):(ReflectliteValue.unpack (.iface 256 (.pointer (some t)))).run Tryz.prog w
  = .ok (.agg #[.pointer (some ⟨19,256,none⟩),.pointer (some ⟨w,0,none⟩),.int .u64 150]) (w.alloc (.cells #[.pointer (some t)] 256)):=zk
theorem asTypeP (a:Addr) (w:World):(ReflectliteValue.methodAny (ReflectliteValue.valueError "reflectlite.Value.Type" 0) (fun t _ _ _=>ReflectliteType.toType t) #[.agg #[.pointer (some ⟨19,256,none⟩),.pointer (some a),.int .u64 150]]).run Tryz.prog w
  = .ok (.iface 204 (.agg #[.pointer (some ⟨19,256,none⟩)])) w:=zk
theorem zJ5 (h:Value) (w:World):(Go.method 403 204 (.agg #[h]) "Kind").run Tryz.prog w=.ok (252,h) w:=zk
theorem asKindP (w:World):((ReflectliteType.abiMethod fun t=>(fun a:Nat=>Value.int IntKind.u8 (a:Int)) <$> Rtype.kind t) #[.pointer (some ⟨19,256,none⟩)]).run Tryz.prog w=.ok (.int .u8 22) w:=zk
theorem asKindR (w:World):((ReflectliteType.abiMethod fun t=>(fun a:Nat=>Value.int IntKind.u8 (a:Int)) <$> Rtype.kind t) #[.pointer (some ⟨19,255,none⟩)]).run Tryz.prog w=.ok (.int .u8 25) w:=zk
theorem asRlm (z:Sem Value) (f:TypeId→Addr→Nat→Nat→Sem Value) (v:Value) :
  ReflectliteValue.method z f #[v]=(do match ← ReflectliteValue.parts v with | none=>z | some (t,a,fl)=>f t a fl (fl%32)):=rfl
theorem zMh (a:Addr) (w:World):(ReflectliteValue.parts (.agg #[.pointer (some ⟨19,256,none⟩),.pointer (some a),.int .u64 150])).run Tryz.prog w=.ok (some (256,a,150)) w:=zk
theorem asIsNil (a p:Addr) (W:World) (ha:W.cell? a=some (.pointer (some p))) :
  (ReflectliteValue.method (ReflectliteValue.valueError "reflectlite.Value.IsNil" 0) ReflectliteValue.isNil #[.agg #[.pointer (some ⟨19,256,none⟩),.pointer (some a),.int .u64 150]]).run Tryz.prog W=.ok false W:=by
 rw[asRlm]
 simp only[Sem.run_bind,zMh,Result.andThen]
 simp[ReflectliteValue.isNil,loadVar,isAgg,underlying,Tryz.underlying256,ha,Result.andThen]
theorem zJ4 (h:Value) (w:World):(Go.method 403 204 (.agg #[h]) "Elem").run Tryz.prog w=.ok (263,.agg #[h]) w:=zk
theorem zEj (h:Value) (w:World):(Go.method 403 204 (.agg #[h]) "Implements").run Tryz.prog w=.ok (264,.agg #[h]) w:=zk
theorem zDu (h:Value) (w:World):(Go.method 403 204 (.agg #[h]) "AssignableTo").run Tryz.prog w=.ok (261,.agg #[h]) w:=zk
theorem asElemP (w:World):(ReflectliteType.method ReflectliteType.elem #[.agg #[.pointer (some ⟨19,256,none⟩)]]).run Tryz.prog w=.ok (.iface 204 (.agg #[.pointer (some ⟨19,255,none⟩)])) w:=zk
theorem zI2 (w:World):(ReflectliteType.relation "Implements" ReflectliteType.implements_ #[.agg #[.pointer (some ⟨19,255,none⟩)],.iface 204 (.agg #[.pointer (some ⟨19,141,none⟩)])]).run Tryz.prog w=.ok true w:=zk
theorem zPz (v:Value) (w:World):(ReflectliteType.typeOf #[.iface 255 v]).run Tryz.prog w=.ok (.iface 204 (.agg #[.pointer (some ⟨19,255,none⟩)])) w:=zk
theorem zI1 (w:World):(ReflectliteType.relation "AssignableTo" ReflectliteType.assignableTo #[.agg #[.pointer (some ⟨19,255,none⟩)],.iface 204 (.agg #[.pointer (some ⟨19,255,none⟩)])]).run Tryz.prog w=.ok true w:=zk
theorem zNw (c:Int) (x:TypeId) (v:Value) (w:World):(ReflectliteValue.unpack (.iface 255 (.agg #[c,.iface x v]))).run Tryz.prog w
  = .ok (.agg #[.pointer (some ⟨19,255,none⟩),.pointer (some ⟨w,0,none⟩),.int .u64 153]) (w.alloc (.cells #[c,.iface x v] 255)):=zk
theorem zPw (w:World):(Rtype.elem? 256).run Tryz.prog w=.ok (some 255) w:=zk
theorem asMkR (p:Addr) (w:World):(ReflectliteValue.mk 255 p ReflectliteValue.flagAddr).run Tryz.prog w=.ok (.agg #[.pointer (some ⟨19,255,none⟩),.pointer (some p),.int .u64 409]) w:=zk
theorem asElemV (a p:Addr) (W:World) (ha:W.cell? a=some (.pointer (some p))) :
  (ReflectliteValue.method (ReflectliteValue.valueError "reflectlite.Value.Elem" 0) ReflectliteValue.elem #[.agg #[.pointer (some ⟨19,256,none⟩),.pointer (some a),.int .u64 150]]).run Tryz.prog W
   = .ok (.agg #[.pointer (some ⟨19,255,none⟩),.pointer (some p),.int .u64 409]) W:=by
 rw[asRlm]
 simp only[Sem.run_bind,zMh,Result.andThen]
 simp[ReflectliteValue.elem,loadVar,isAgg,underlying,Tryz.underlying256,ha,Result.andThen,zPw,asMkR]
theorem asRls (v x:Value):ReflectliteValue.set #[v,x]=(do
  let (some (dst,a,fl),some (src,b,_)):=(← ReflectliteValue.parts v,←ReflectliteValue.parts x)
   | unsupported (.noEntry "extern/(internal/reflectlite.Value).Set.zeroValue")
  if fl/ReflectliteValue.flagAddr%2==0 then unsupported (.noEntry "extern/(internal/reflectlite.Value).Set.unaddressable")
  let val ← loadVar src b
  if ← Rtype.directlyAssignable dst src then storeVar dst a val
  else if ← Rtype.implements dst src then
   if (← Rtype.kind src)==20 then
    match val with
    | .nilIface=>unsupported (.noEntry "extern/reflectlite: a nil value of one interface type handed on as a value of another")
    | _=>storeVar dst a val
   else storeVar dst a (.iface src val)
  else panicString ("reflectlite.Set: value of type " ++ (← Rtype.spelt src) ++ " is not assignable to type " ++ (← Rtype.spelt dst))
  pure (.tuple #[])):=rfl
theorem zPx (a:Addr) (w:World):(ReflectliteValue.parts (.agg #[.pointer (some ⟨19,255,none⟩),.pointer (some a),.int .u64 409])).run Tryz.prog w=.ok (some (255,a,409)) w:=zk
theorem asPartsR (a:Addr) (w:World):(ReflectliteValue.parts (.agg #[.pointer (some ⟨19,255,none⟩),.pointer (some a),.int .u64 153])).run Tryz.prog w=.ok (some (255,a,153)) w:=zk
theorem zPv (w:World):(Rtype.directlyAssignable 255 255).run Tryz.prog w=.ok true w:=zk
theorem zPy (w:World):(sizeOf 255).run Tryz.prog w=.ok 2 w:=zk
end Go.Proofs.YtpfgdfpaoldhcaaGreatDoor
namespace Go.Proofs.YtpfgdfpaoldhcaaGreatDoor
open Go.RowKit Go.Extern.Stop Go.Stop Go.Extern
theorem asLoadR (b:Nat) (c:Int) (y:Value) (W:World) (h0:W.cell? ⟨b,0,none⟩=some (.int .i64 c)) (h1:W.cell? ⟨b,1,none⟩=some y):(loadVar 255 ⟨b,0,none⟩).run Tryz.prog W=.ok (.agg #[c,y]) W:=by
 have hl:=run_loadCells_list (P:=Tryz.prog) (w:=W) ⟨b,0,none⟩ [c,y] (fun j v hj=>by
  match j,hj with
  | 0,hj=>simp at hj;subst hj;simpa [Addr.add] using h0
  | 1,hj=>simp at hj;subst hj;simpa [Addr.add] using h1)
 simp only[List.length_cons,List.length_nil,Nat.zero_add,Nat.reduceAdd] at hl
 simp[loadVar,isAgg,underlying,Tryz.underlying255,Result.andThen,zPy,hl]
theorem asStoreR (b:Nat) (c:Int) (x:TypeId) (v o0 o1:Value) (W:World) (h0:W.cell? ⟨b,0,none⟩=some o0) (h1:W.cell? ⟨b,1,none⟩=some o1) (f0:W.frozen? ⟨b,0,none⟩=false) (f1:W.frozen? ⟨b,1,none⟩=false) :
  (storeVar 255 ⟨b,0,none⟩ (.agg #[c,.iface x v])).run Tryz.prog W=.ok () ((W.setCell ⟨b,0,none⟩ c).setCell ⟨b,1,none⟩ (.iface x v)):=by
 have hs:=run_storeCells_cells (P:=Tryz.prog) b 0 [c,.iface x v] 0 W (fun j hj=>by
  match j,hj with
  | 0,_=>simp[h0]
  | 1,_=>simp[h1]
  | j+2,hj=>have k:j+2<2:=hj;omega) (fun j hj=>by
  match j,hj with
  | 0,_=>simpa using f0
  | 1,_=>simpa using f1
  | j+2,hj=>have k:j+2<2:=hj;omega) (fun u hu=>by simp at hu;rcases hu with rfl | rfl <;> rfl)
 simp[storeVar,Value.cells,zPy,Result.andThen]
 exact hs
theorem asSet (d b:Nat) (c:Int) (x:TypeId) (v o0 o1:Value) (W:World) (b0:W.cell? ⟨b,0,none⟩=some (.int .i64 c)) (b1:W.cell? ⟨b,1,none⟩=some (.iface x v))
  (h0:W.cell? ⟨d,0,none⟩=some o0) (h1:W.cell? ⟨d,1,none⟩=some o1) (f0:W.frozen? ⟨d,0,none⟩=false) (f1:W.frozen? ⟨d,1,none⟩=false) :
  (ReflectliteValue.set #[.agg #[.pointer (some ⟨19,255,none⟩),.pointer (some ⟨d,0,none⟩),.int .u64 409],.agg #[.pointer (some ⟨19,255,none⟩),.pointer (some ⟨b,0,none⟩),.int .u64 153]]).run Tryz.prog W
   = .ok (.tuple #[]) ((W.setCell ⟨d,0,none⟩ c).setCell ⟨d,1,none⟩ (.iface x v)):=by
 have hl:=asLoadR b c _ W b0 b1
 have hs:=asStoreR d c x v o0 o1 W h0 h1 f0 f1
 rw[asRls]
 simp only[Sem.run_bind,zPx,asPartsR,Result.andThen]
 simp[ReflectliteValue.flagAddr,hl,Result.andThen,zPv,hs]
theorem zqp3m {P:Prop} (h:P:=by
 subst ht
 clear HH H1 H2 H3 H4 MM h0 h1 f0 f1 hdl hgl
 go_enter Tryz.func117,Tryz.ntmps117
 go_wp2
 refine wp_loop_rounds 1 ?_
 rw[rounds_succ]
 go_wp2
 go_ret
 exact⟨rfl,rfl⟩):P:=h
theorem as_hit (c:Int) (x:TypeId) (v o0 o1:Value) (d:Nat) (w:World) (hg:w.cell? ⟨4,0,none⟩=some (.iface 204 (.agg #[.pointer (some ⟨19,141,none⟩)])))
  (h0:w.cell? ⟨d,0,none⟩=some o0) (h1:w.cell? ⟨d,1,none⟩=some o1) (f0:w.frozen? ⟨d,0,none⟩=false) (f1:w.frozen? ⟨d,1,none⟩=false) :
  Calls Tryz.prog 117 #[.iface 255 (.agg #[c,.iface x v]),.iface 256 (.pointer (some ⟨d,0,none⟩))] w fun ev w'=>ev=.returned true ∧
   w'=(((((w.alloc (.cells #[.pointer (some ⟨d,0,none⟩)] 256)).alloc (.cells #[.pointer (some ⟨19,256,none⟩),.pointer (some ⟨w,0,none⟩),.int .u64 150] 164)).alloc (.cells #[.pointer (some ⟨19,256,none⟩),.pointer (some ⟨w,0,none⟩),.int .u64 150] 164)).alloc (.cells #[c,.iface x v] 255)).setCell ⟨d,0,none⟩ c).setCell ⟨d,1,none⟩ (.iface x v):=by
 obtain⟨t,ht⟩:∃t:Addr,t=⟨d,0,none⟩:=⟨_,rfl⟩
 have h6:=@run_callFunc_extern Tryz.prog 138 _ (fun args=>ReflectliteValue.unpack (args.getD 0 (.tuple #[]))) Tryz.func138 zk zk zk zk
 have h7:=@run_callFunc_extern Tryz.prog 139 _ (ReflectliteValue.methodAny (ReflectliteValue.valueError "reflectlite.Value.Type" 0) (fun t _ _ _=>ReflectliteType.toType t)) Tryz.func139 zk zk zk zk
 have h8:=@run_callFunc_extern Tryz.prog 140 _ (ReflectliteValue.method (ReflectliteValue.valueError "reflectlite.Value.IsNil" 0) ReflectliteValue.isNil) Tryz.func140 zk zk zk zk
 have h27:=@run_callFunc_extern Tryz.prog 252 _ (ReflectliteType.abiMethod fun t=>do pure (.int .u8 (← Rtype.kind t))) Tryz.func252 zk zk zk zk
 have h37:=@run_callFunc_extern Tryz.prog 263 _ (ReflectliteType.method ReflectliteType.elem) Tryz.func263 zk zk zk zk
 have h38:=@run_callFunc_extern Tryz.prog 264 _ (ReflectliteType.relation "Implements" ReflectliteType.implements_) Tryz.func264 zk zk zk zk
 have h10:=@run_callFunc_extern Tryz.prog 168 _ ReflectliteType.typeOf Tryz.func168 zk zk zk zk
 have h35:=@run_callFunc_extern Tryz.prog 261 _ (ReflectliteType.relation "AssignableTo" ReflectliteType.assignableTo) Tryz.func261 zk zk zk zk
 have h11:=@run_callFunc_extern Tryz.prog 169 _ (ReflectliteValue.method (ReflectliteValue.valueError "reflectlite.Value.Elem" 0) ReflectliteValue.elem) Tryz.func169 zk zk zk zk
 have h12:=@run_callFunc_extern Tryz.prog 170 _ ReflectliteValue.set Tryz.func170 zk zk zk zk
 have tO:=zPz
 have mA:=zDu
 have a25:=zI1
 have v25:=zNw
 have f6:=zNv
 have f7:=asTypeP
 have mK:=zJ5
 have mE:=zJ4
 have mI:=zEj
 have k27:=asKindP
 have k25:=asKindR
 have e27:=asElemP
 have i25:=zI2
 have hdl:d<w.heap.size:=zA0 h0
 have hgl:=zA0 hg
 have HH:=(((((Held.start w).add (f:=.cell d 0 o0) h0).add (f:=.cell d 1 o1) h1).add (f:=.free d 0) ⟨hdl,f0⟩).add (f:=.free d 1) ⟨hdl,f1⟩).add (f:=.cell 4 0 _) hg
 have H1:=HH.lone w.heap.size (.pointer (some t)) 256 rfl
 have H2:=H1.triple (w+1) (.pointer (some ⟨19,256,none⟩)) (.pointer (some ⟨w,0,none⟩)) (.int .u64 150) 164 zs
 have H3:=H2.triple (w+2) (.pointer (some ⟨19,256,none⟩)) (.pointer (some ⟨w,0,none⟩)) (.int .u64 150) 164 zs
 have H4:=H3.pair (w+3) c (.iface x v) 255 zs
 have MM:True:=trivial
 have n8:=asIsNil ⟨w,0,none⟩ t ((w.alloc (.cells #[.pointer (some t)] 256)).alloc (.cells #[.pointer (some ⟨19,256,none⟩),.pointer (some ⟨w,0,none⟩),.int .u64 150] 164)) (H2.cell _ _ _)
 have hg2:=H2.cell 4 0 _
 have el:=asElemV ⟨w,0,none⟩ t (((w.alloc (.cells #[.pointer (some t)] 256)).alloc (.cells #[.pointer (some ⟨19,256,none⟩),.pointer (some ⟨w,0,none⟩),.int .u64 150] 164)).alloc (.cells #[.pointer (some ⟨19,256,none⟩),.pointer (some ⟨w,0,none⟩),.int .u64 150] 164)) (H3.cell _ _ _)
 have st:=asSet d (w+3) c x v o0 o1 ((((w.alloc (.cells #[.pointer (some t)] 256)).alloc (.cells #[.pointer (some ⟨19,256,none⟩),.pointer (some ⟨w,0,none⟩),.int .u64 150] 164)).alloc (.cells #[.pointer (some ⟨19,256,none⟩),.pointer (some ⟨w,0,none⟩),.int .u64 150] 164)).alloc (.cells #[c,.iface x v] 255)) (H4.cell _ _ _) (H4.cell _ _ _)
  (H4.cell _ _ _) (H4.cell _ _ _)
  (H4.frozen _ _) (H4.frozen _ _)
 exact zqp3m
theorem code_nil (w:World):Calls Tryz.prog 189 #[.nilIface] w fun e w'=>e=.returned (0:Int)∧Below w w w':=by
 have H:=Held.start w
 go_enter Tryz.func189,Tryz.ntmps189
 go_wp2_with fail
 replace H:=H.pair w (0:Int) .nilIface 255 rfl
 with_reducible refine (as_nil _ _).mono ?_
 rintro e w1 ⟨rfl,rfl⟩
 go_wp2_with fail
 go_ret
 exact⟨rfl,H.old⟩
theorem zqo6k {P:Prop} (h:P:=by
 rw[hw]
 rw[World.cell?_setCell_other _ _ _ _ zs]
 refine World.cell?_setCell_same' _ _ _ ?_
 rw[World.cell?_alloc_lt _ _ _ zx,World.cell?_alloc_lt _ _ _ zx,World.cell?_alloc_lt _ _ _ zx,World.cell?_alloc_lt _ _ _ l0,c0]
 rfl):P:=h
theorem zqgr0 {P:Prop} (h:P:=by
 rw[hw]
 repeat (first | exact B0 | refine Below.setCell ?_ zs _ | refine Below.alloc ?_ (by first | omega | (simp;omega)) _)):P:=h
theorem code_any (c:Int) (x:TypeId) (v:Value) (w:World) (hE:Facts w):Calls Tryz.prog 189 #[.iface 255 (.agg #[c,.iface x v])] w fun e w'=>e=.returned c∧Below w w w':=by
 have H:=(Held.start w).add (f:=.cell 4 0 _) hE.2.1
 clear hE
 go_enter Tryz.func189,Tryz.ntmps189
 go_wp2_with fail
 replace H:=H.pair w (0:Int) .nilIface 255 rfl
 with_reducible refine (as_hit c x v (0:Int) .nilIface w.heap.size _ (H.cell _ _ _) (H.cell _ _ _) (H.cell _ _ _) (H.frozen _ _) (H.frozen _ _)).mono ?_
 rintro e w1 ⟨rfl,hw⟩
 have B0:=H.old
 have c0:=H.cell w 0 _ i0_
 obtain⟨W0,hW0⟩:∃W0,w.alloc (.cells #[(0:Int),.nilIface] 255)=W0:=⟨_,rfl⟩
 rw[hW0] at hw H c0 B0
 have l0:=zA0 c0
 have B1:Below w w w1:=by
  exact zqgr0
 have c1:w1.cell? ⟨w,0,none⟩=some (.int .i64 c):=by
  exact zqo6k
 clear hw H B0 c0 l0 hW0
 go_wp2_with fail
 go_ret
 exact⟨rfl,B1⟩
end Go.Proofs.YtpfgdfpaoldhcaaGreatDoor
namespace Go.Proofs.YtpfgdfpaoldhcaaGreatDoor
theorem zGx (n d:Int) (hd:0<d):mN n d=((n:Rat)/(d:Rat)).num∧mD n d=(((n:Rat)/(d:Rat)).den:Int):=by
 rw[←Rat.divInt_eq_div,Rat.num_divInt,Rat.den_divInt]
 have hs:d.sign=1:=Int.sign_eq_one_of_pos hd
 have hn:¬d=0:=zo
 rw[hs,Int.one_mul,if_neg hn]
 unfold mN mD gi
 rw[Int.gcd_comm n d]
 refine⟨rfl,?_⟩
 rw[Int.natCast_ediv,Int.natAbs_of_nonneg (Int.le_of_lt hd)]
theorem rat_gi (x:Rat):gi x.num x.den=1:=uncop (by simpa using x.reduced)
theorem zSj (x:Rat):(1:Int)≤x.den:=by
 have:=Nat.pos_of_ne_zero x.den_nz
 omega
theorem rat_add (x y:Rat):mN (x.num*y.den+y.num*x.den) (x.den*y.den)=(x+y).num∧mD (x.num*y.den+y.num*x.den) (x.den*y.den)=((x+y).den:Int):=by
 have hx:=zSj x
 have hy:=zSj y
 have h:=zGx (x.num*y.den+y.num*x.den) (x.den*y.den) (Int.mul_pos zo zo)
 have e:((x.num*y.den+y.num*x.den:Int):Rat)/((x.den*y.den:Int):Rat)=x+y:=by
  rw[←Rat.divInt_eq_div,Rat.add_def',←Rat.divInt_ofNat]
  congr 1
 rw[e] at h
 exact h
theorem zJx {x:Rat} {n d:Int} (hd:0<d) (hx:x=(n:Rat)/(d:Rat)) (hn:0≤n) (h1:n≤4611686018427387904) (h2:d≤4611686018427387904):zAi x.num x.den=true:=by
 have h:=zGx n d hd
 rw[←hx] at h
 have k:=m_le n d hn zo
 have k0:=zC1 n d hn
 have k1:=zE1 n d hd
 rw[zBb,←h.1,←h.2]
 refine⟨k0,zo,zo,zo,?_⟩
 rw[h.1,h.2]
 exact rat_gi x
def tm (x y t:Int):Rat:=if x<y then ((min (max t x) y-x:Int):Rat)/((y-x:Int):Rat) else 0
def pos (X:Nat→Int):Nat→Int→Rat
 | 0,_=>0
 | n+1,t=>pos X n t+tm (X n) (X (n+1)) t
def vP (X:Nat→Int) (n:Nat) (f a b:Int):Rat:=(pos X n b-pos X n a)/(f:Rat)
def zAs (a b x y:Int):Int:=min b y-max a x
def Rising (X:Nat→Int) (n:Nat):Prop:=(∀i,i<n→1≤X i∧X i≤3652059)∧∀i,i+1<n→X i≤X (i+1)
theorem Rising.less {X:Nat→Int} {n m:Nat} (h:Rising X n) (hm:m≤n):Rising X m:=⟨fun i hi=>h.1 i zo,fun i hi=>h.2 i zo⟩
theorem Rising.le {X:Nat→Int} {n:Nat} (h:Rising X n):∀{i j:Nat},i≤j→j<n→X i≤X j:=by
  intro i j hij
  induction j with
  | zero => intro _;obtain rfl:i=0:=zo
            exact Int.le_refl _
  | succ j ih=>
    intro hj
    by_cases e:i=j+1
    · subst e;exact Int.le_refl _
    · exact Int.le_trans (ih zo zo) (h.2 j zo)
theorem zE5 {d:Int} (h:0<d):(d:Rat)≠0:=by
 intro e
 have:=Rat.intCast_eq_zero_iff.1 e
 omega
theorem tm_ahead {x y t:Int} (h:t≤x):tm x y t=0:=by
 unfold tm
 by_cases k:x<y
 ·rw[if_pos k]
  have:min (max t x) y-x=0:=zo
  rw[this]
  simp[Rat.div_def,Rat.add_zero,Rat.sub_self,Rat.zero_mul]
 ·rw[if_neg k]
theorem tm_past {x y t:Int} (h:y≤t) (k:x<y):tm x y t=1:=by
 unfold tm
 rw[if_pos k]
 have:min (max t x) y-x=y-x:=zo
 rw[this,Rat.div_def]
 exact Rat.mul_inv_cancel _ (zE5 zo)
theorem tm_none {x y t:Int} (k:y≤x):tm x y t=0:=by
 unfold tm
 rw[if_neg zo]
theorem tm_in {x y t:Int} (h:x≤t) (h2:t≤y) (k:x<y):tm x y t=((t-x:Int):Rat)/((y-x:Int):Rat):=by
 unfold tm
 rw[if_pos k]
 have:min (max t x) y-x=t-x:=zo
 rw[this]
theorem zNc (X:Nat→Int) (t:Int):∀n,Rising X (n+1)→(∃k r l:Int,pos X n t=(k:Rat)+(r:Rat)/(l:Rat)∧0≤k∧k≤n∧0≤r∧r≤l∧1≤l∧l≤3652058)∧(X n≤t→∃k:Int,pos X n t=(k:Rat)∧0≤k∧k≤n):=by
 intro n
 induction n with
 | zero=>
  intro _
  refine⟨⟨0,0,1,?_,zo,zo,zo,zo,zo,zo⟩,fun _=>⟨0,rfl,zo,zo⟩⟩
  simp[pos,Rat.div_def,Rat.add_zero]
 | succ n ih=>
  intro hX
  have hX':=hX.less (m:=n+1) zo
  obtain⟨⟨k,r,l,h1,h2,h3,h4,h5,h6,h7⟩,hw⟩:=ih hX'
  have hle:=hX.2 n zo
  have b0:=hX.1 n zo
  have b1:=hX.1 (n+1) zo
  by_cases c:t≤X n
  ·have e:pos X (n+1) t=pos X n t:=by
    show pos X n t+tm _ _ _=_
    rw[tm_ahead c,Rat.add_zero]
   rw[e]
   refine⟨⟨k,r,l,h1,h2,zo,h4,h5,h6,h7⟩,fun hc=>?_⟩
   obtain⟨k',e',g1,g2⟩:=hw zo
   exact⟨k',e',g1,zo⟩
  ·obtain⟨k',e',g1,g2⟩:=hw zo
   have e:pos X (n+1) t=(k':Rat)+tm (X n) (X (n+1)) t:=by
    show pos X n t+tm _ _ _=_
    rw[e']
   by_cases z:X (n+1)≤X n
   ·rw[tm_none z,Rat.add_zero] at e
    refine⟨⟨k',0,1,?_,g1,zo,zo,zo,zo,zo⟩,fun _=>⟨k',e,g1,zo⟩⟩
    rw[e]
    simp[Rat.div_def,Rat.add_zero,Rat.sub_self,Rat.zero_mul]
   ·by_cases p:X (n+1)≤t
    ·rw[tm_past p zo] at e
     have e2:pos X (n+1) t=((k'+1:Int):Rat):=by rw[e];simp
     refine⟨⟨k'+1,0,1,?_,zo,zo,zo,zo,zo,zo⟩,fun _=>⟨k'+1,e2,zo,zo⟩⟩
     rw[e2]
     simp[Rat.div_def,Rat.add_zero,Rat.sub_self,Rat.zero_mul]
    ·rw[tm_in zo zo zo] at e
     exact⟨⟨k',t-X n,X (n+1)-X n,e,g1,zo,zo,zo,zo,zo⟩,fun hc=>absurd hc p⟩
theorem frac_sub (k r l k' r' l' f:Int) (hl:0<l) (hl':0<l') (hf:0<f) :
  (((k:Rat)+(r:Rat)/(l:Rat))-((k':Rat)+(r':Rat)/(l':Rat)))/(f:Rat)=(((k-k')*l*l'+r*l'-r'*l:Int):Rat)/((f*l*l':Int):Rat):=by
 have h1:=zE5 hl
 have h2:=zE5 hl'
 have h3:=zE5 hf
 simp only[Rat.intCast_add,Rat.intCast_sub,Rat.intCast_mul]
 grind
theorem zJb {a b x y:Int} (hab:a≤b) (hxy:x≤y) (h:0<zAs a b x y):x<y∧zAs a b x y≤y-x∧tm x y b-tm x y a=(zAs a b x y:Rat)/((y-x:Int):Rat):=by
 have k:x<y:=by unfold zAs at h;omega
 refine⟨k,by unfold zAs;omega,?_⟩
 unfold tm
 rw[if_pos k,if_pos k]
 have e:zAs a b x y=(min (max b x) y-x)-(min (max a x) y-x):=by unfold zAs at h ⊢;omega
 rw[e,Rat.intCast_sub]
 have h1:=zE5 (d:=y-x) zo
 grind
theorem dy_no {a b x y:Int} (hab:a≤b) (hxy:x≤y) (h:¬0<zAs a b x y):tm x y b-tm x y a=0:=by
 unfold tm
 by_cases k:x<y
 ·rw[if_pos k,if_pos k]
  have e:min (max b x) y-x=min (max a x) y-x:=by unfold zAs at h;omega
  rw[e,Rat.sub_self]
 ·rw[if_neg k,if_neg k,Rat.sub_self]
theorem vP_form (X:Nat→Int) (n:Nat) (f a b:Int) (hX:Rising X (n+1)) (hn:n≤1204) (hf:1≤f∧f≤12):∃N D:Int,vP X n f a b=(N:Rat)/(D:Rat)∧0<D∧D≤4611686018427387904∧N≤4611686018427387904:=by
 obtain⟨⟨k,r,l,h1,h2,h3,h4,h5,h6,h7⟩,_⟩:=zNc X b n hX
 obtain⟨⟨k',r',l',g1,g2,g3,g4,g5,g6,g7⟩,_⟩:=zNc X a n hX
 refine⟨(k-k')*l*l'+r*l'-r'*l,f*l*l',?_,?_,?_,?_⟩
 ·unfold vP
  rw[h1,g1]
  exact frac_sub k r l k' r' l' f zo zo zo
 ·exact Int.mul_pos (Int.mul_pos zo zo) zo
 ·have:f*l≤12*3652058:=Int.mul_le_mul hf.2 h7 zo zo
  have:=Int.mul_le_mul this g7 zo zo
  omega
 ·have e1:(k-k')*l≤1204*3652058:=by
   rcases Int.le_total 0 (k-k') with c | c
   ·exact Int.mul_le_mul zo h7 zo zo
   ·have:=Int.mul_le_mul_of_nonneg_right c (show (0:Int)≤l by omega)
    omega
  have e2:(k-k')*l*l'≤1204*3652058*3652058:=by
   rcases Int.le_total 0 ((k-k')*l) with c | c
   ·exact Int.mul_le_mul e1 g7 zo zo
   ·have:=Int.mul_le_mul_of_nonneg_right c (show (0:Int)≤l' by omega)
    omega
  have e3:r*l'≤3652058*3652058:=Int.mul_le_mul zo g7 zo zo
  have e4:0≤r'*l:=Int.mul_nonneg g4 zo
  omega
theorem zH7 (X:Nat→Int) (n:Nat) (f a b:Int):vP X (n+1) f a b=vP X n f a b+(tm (X n) (X (n+1)) b-tm (X n) (X (n+1)) a)/(f:Rat):=by
 show (pos X n b+_-(pos X n a+_))/_=(pos X n b-pos X n a)/_+_
 rw[Rat.div_def,Rat.div_def,Rat.div_def]
 grind
theorem zMd (X:Nat→Int) (f a b:Int):vP X 0 f a b=0:=by
 unfold vP pos
 simp[Rat.div_def,Rat.add_zero,Rat.sub_self,Rat.zero_mul]
theorem zE3 {x:Rat} {d:Int} (hx:0≤x) (hd:0<d):0≤x/(d:Rat):=by
 rw[Rat.div_def]
 refine Rat.mul_nonneg hx (Rat.le_of_lt (Rat.inv_pos.2 ?_))
 have:(0:Rat)=((0:Int):Rat):=rfl
 rw[this]
 exact Rat.intCast_lt_intCast.2 hd
theorem zM7 {a b x y:Int} (hab:a≤b) (hxy:x≤y):0≤tm x y b-tm x y a:=by
 by_cases h:0<zAs a b x y
 ·obtain⟨k,_,e⟩:=zJb hab hxy h
  rw[e]
  refine zE3 ?_ zo
  have:(0:Rat)=((0:Int):Rat):=rfl
  rw[this]
  exact Rat.intCast_le_intCast.2 zo
 ·rw[dy_no hab hxy h]
  exact Rat.le_refl
theorem zUs (X:Nat→Int) (f a b:Int) (hab:a≤b) (hf:0<f):∀n,Rising X (n+1)→0≤vP X n f a b:=by
 intro n
 induction n with
 | zero=>intro _;rw[zMd];exact Rat.le_refl
 | succ n ih=>
  intro hX
  rw[zH7]
  exact Rat.add_nonneg (ih (hX.less zo)) (zE3 (zM7 hab (hX.2 n zo)) hf)
theorem zG5 (X:Nat→Int) (n:Nat) (f a b:Int) (hX:Rising X (n+1)) (hn:n≤1204) (hf:1≤f∧f≤12) (hab:a≤b):zAi (vP X n f a b).num (vP X n f a b).den=true:=by
 obtain⟨N,D,e,h1,h2,h3⟩:=vP_form X n f a b hX hn hf
 have h0:=zUs X f a b hab zo n hX
 refine zJx h1 e ?_ h3 h2
 rw[e,←Rat.divInt_eq_div] at h0
 exact (Rat.divInt_nonneg_iff_of_pos_right h1).1 h0
end Go.Proofs.YtpfgdfpaoldhcaaGreatDoor
namespace Go.Proofs.YtpfgdfpaoldhcaaGreatDoor
abbrev Sh:={ p:Int × Int // 0<p.1∧p.1≤p.2∧p.2≤3652058 }
def sh (X:Nat→Int) (a b:Int):Nat→List Sh
 | 0=>[]
 | n+1=>sh X a b n++(if h:0<zAs a b (X n) (X (n+1))∧zAs a b (X n) (X (n+1))≤X (n+1)-X n∧X (n+1)-X n≤3652058 then [⟨(zAs a b (X n) (X (n+1)),X (n+1)-X n),h⟩] else [])
theorem sh_yes {X:Nat→Int} {a b:Int} {n:Nat} (h:0<zAs a b (X n) (X (n+1))∧zAs a b (X n) (X (n+1))≤X (n+1)-X n∧X (n+1)-X n≤3652058):sh X a b (n+1)=sh X a b n++[⟨(zAs a b (X n) (X (n+1)),X (n+1)-X n),h⟩]:=by
 show sh X a b n++_=_
 rw[dif_pos h]
theorem sh_no {X:Nat→Int} {a b:Int} {n:Nat} (h:¬0<zAs a b (X n) (X (n+1))):sh X a b (n+1)=sh X a b n:=by
 show sh X a b n++_=_
 rw[dif_neg (fun k=>h k.1),List.append_nil]
theorem sh_len (X:Nat→Int) (a b:Int):∀n,(sh X a b n).length≤n:=by
 intro n
 induction n with
 | zero=>simp[sh]
 | succ n ih=>
  show (sh X a b n++_).length≤_
  rw[List.length_append]
  split <;> simp <;> omega
def aN (an ad bn bd:Int):Int:=if zAi an ad=true∧zAi bn bd=true then rN (an*bd+bn*ad) (ad*bd) else 0
def aD (an ad bn bd:Int):Int:=if zAi an ad=true∧zAi bn bd=true then rD (an*bd+bn*ad) (ad*bd) else 0
def aE (an ad bn bd:Int):Int:=if zAi an ad=true∧zAi bn bd=true then rE (an*bd+bn*ad) (ad*bd) else 1
def add1 (f:Int) (s:Int × Int) (x:Sh):Int × Int:=(aN s.1 s.2 (rN x.1.1 (f*x.1.2)) (rD x.1.1 (f*x.1.2)),aD s.1 s.2 (rN x.1.1 (f*x.1.2)) (rD x.1.1 (f*x.1.2)))
def zDm (f:Int) (S:List Sh):Int × Int:=S.foldl (add1 f) (0,1)
theorem zFg (f:Int) (S:List Sh) (x:Sh):zDm f (S++[x])=add1 f (zDm f S) x:=by simp[zDm]
theorem r_in (n d:Int) (hn:0≤n) (hd:0<d):(0≤rN n d∧rN n d≤4611686018427387904)∧(0≤rD n d∧rD n d≤4611686018427387904):=by
 have h:=r_bd n d hn hd
 omega
theorem a_in (an ad bn bd:Int):(0≤aN an ad bn bd∧aN an ad bn bd≤4611686018427387904)∧(0≤aD an ad bn bd∧aD an ad bn bd≤4611686018427387904):=by
 unfold aN aD
 by_cases h:zAi an ad=true∧zAi bn bd=true
 ·rw[if_pos h,if_pos h]
  obtain⟨h1,h2⟩:=h
  rw[zBb] at h1 h2
  have e1:=Int.mul_nonneg h1.1 (show (0:Int)≤bd by omega)
  have e2:=Int.mul_nonneg h2.1 (show (0:Int)≤ad by omega)
  exact r_in _ _ zo (Int.mul_pos zo zo)
 ·rw[if_neg h,if_neg h];omega
theorem sum_in (f:Int) (S:List Sh):(0≤(zDm f S).1∧(zDm f S).1≤4611686018427387904)∧(0≤(zDm f S).2∧(zDm f S).2≤4611686018427387904):=by
 rcases List.eq_nil_or_concat S with rfl | ⟨S',x,rfl⟩
 ·simp[zDm]
 ·rw[List.concat_eq_append,zFg]
  exact a_in _ _ _ _
theorem zG2 (f:Int) (x:Sh) (hf:1≤f∧f≤12):0<f*x.1.2∧f*x.1.2≤43824696:=by
 have h:=x.2
 refine⟨Int.mul_pos zo zo,?_⟩
 have:=Int.mul_le_mul hf.2 h.2.2 zo zo
 omega
theorem zG3 (f:Int) (x:Sh) (hf:1≤f∧f≤12):rN x.1.1 (f*x.1.2)=((x.1.1:Rat)/((f*x.1.2:Int):Rat)).num∧rD x.1.1 (f*x.1.2)=(((x.1.1:Rat)/((f*x.1.2:Int):Rat)).den:Int):=by
 have h:=x.2
 have hb:=zG2 f x hf
 have k:=m_le x.1.1 (f*x.1.2) zo zo
 have hy:=zCo ((zCa _ _).2 ⟨show mN x.1.1 (f*x.1.2)≤_ by omega,show mD x.1.1 (f*x.1.2)≤_ by omega⟩)
 rw[hy.1,hy.2.1]
 exact zGx _ _ hb.1
theorem zH0 (f:Int) (x:Sh) (hf:1≤f∧f≤12):zAi (rN x.1.1 (f*x.1.2)) (rD x.1.1 (f*x.1.2))=true:=by
 have h:=x.2
 have hb:=zG2 f x hf
 rw[(zG3 f x hf).1,(zG3 f x hf).2]
 exact zJx hb.1 rfl zo zo zo
theorem add_is (x y:Rat) (hx:zAi x.num x.den=true) (hy:zAi y.num y.den=true) (hs:zAi (x+y).num (x+y).den=true) :
  rN (x.num*y.den+y.num*x.den) (x.den*y.den)=(x+y).num∧rD (x.num*y.den+y.num*x.den) (x.den*y.den)=((x+y).den:Int)∧rE (x.num*y.den+y.num*x.den) (x.den*y.den)=0:=by
 have h:=rat_add x y
 rw[zBb] at hs
 have hf:fitB (x.num*y.den+y.num*x.den) (x.den*y.den)=true:=(zCa _ _).2 ⟨by rw[h.1];exact hs.2.1,by rw[h.2];exact hs.2.2.2.1⟩
 have k:=zCo hf
 exact⟨k.1.trans h.1,k.2.1.trans h.2,k.2.2⟩
theorem zHw (f a b x y:Int) (hf:1≤f∧f≤12) (hab:a≤b) (hxy:x≤y) (h:0<zAs a b x y):(tm x y b-tm x y a)/(f:Rat)=(zAs a b x y:Rat)/((f*(y-x):Int):Rat):=by
 obtain⟨k,_,e⟩:=zJb hab hxy h
 rw[e]
 have h1:=zE5 (d:=f) zo
 have h2:=zE5 (d:=y-x) zo
 rw[Rat.intCast_mul]
 grind
theorem sum_is (X:Nat→Int) (f a b:Int) (hf:1≤f∧f≤12) (hab:a≤b):∀n,Rising X (n+1)→n≤1204→zDm f (sh X a b n)=((vP X n f a b).num,((vP X n f a b).den:Int)):=by
 intro n
 induction n with
 | zero=>
  intro _ _
  rw[zMd]
  rfl
 | succ n ih=>
  intro hX hn
  have hX':=hX.less (m:=n+1) zo
  have hle:=hX.2 n zo
  have b0:=hX.1 n zo
  have b1:=hX.1 (n+1) zo
  by_cases c:0<zAs a b (X n) (X (n+1))
  ·obtain⟨k,k1,_⟩:=zJb hab hle c
   have hh:0<zAs a b (X n) (X (n+1))∧zAs a b (X n) (X (n+1))≤X (n+1)-X n∧X (n+1)-X n≤3652058:=⟨c,k1,zo⟩
   rw[sh_yes hh,zFg,ih hX' zo]
   have hr:=zH0 f ⟨(zAs a b (X n) (X (n+1)),X (n+1)-X n),hh⟩ hf
   have hs:=zG3 f ⟨(zAs a b (X n) (X (n+1)),X (n+1)-X n),hh⟩ hf
   have hv:=zG5 X n f a b hX' zo hf hab
   have hv':=zG5 X (n+1) f a b hX hn hf hab
   rw[zH7,zHw f a b _ _ hf hab hle c] at hv' ⊢
   dsimp only at hr hs
   unfold add1 aN aD
   dsimp only
   rw[if_pos ⟨hv,hr⟩,if_pos ⟨hv,hr⟩]
   rw[hs.1,hs.2] at hr ⊢
   have:=add_is _ _ hv hr hv'
   rw[this.1,this.2.1]
  ·rw[sh_no c,ih hX' zo,zH7,dy_no hab hle c]
   simp[Rat.div_def,Rat.add_zero,Rat.zero_mul]
def MayX (X:Nat→Int) (n:Nat) (f:Int):Prop:=2≤n∧n≤1204∧(1≤f∧f≤12)∧Rising X n∧X 0<X (n-1)
def zFv (n:Int):Prop:=1≤n∧n≤3652059
def IcIs (X:Nat→Int) (n:Nat) (f a b p q c:Int):Prop:=
 (¬(zFv a∧zFv b)∧p=0∧q=0∧c=3)∨((zFv a∧zFv b)∧b<a∧p=0∧q=0∧c=4) ∨
 ((zFv a∧zFv b)∧a≤b∧¬(MayX X n f∧X 0≤a∧b≤X (n-1))∧p=0∧q=0∧c=5) ∨
 ((zFv a∧zFv b)∧a≤b∧(MayX X n f∧X 0≤a∧b≤X (n-1))∧p=(vP X (n-1) f a b).num∧q=((vP X (n-1) f a b).den:Int)∧c=0)
theorem ic_is (X:Nat→Int) (n:Nat) (f a b:Int):∃p q c,IcIs X n f a b p q c:=by
 by_cases h1:zFv a∧zFv b
 ·by_cases h2:a≤b
  ·by_cases h3:MayX X n f∧X 0≤a∧b≤X (n-1)
   ·exact⟨_,_,_,.inr (.inr (.inr ⟨h1,h2,h3,rfl,rfl,rfl⟩))⟩
   ·exact⟨_,_,_,.inr (.inr (.inl ⟨h1,h2,h3,rfl,rfl,rfl⟩))⟩
  ·exact⟨_,_,_,.inr (.inl ⟨h1,zo,rfl,rfl,rfl⟩)⟩
 ·exact⟨_,_,_,.inl ⟨h1,rfl,rfl,rfl⟩⟩
end Go.Proofs.YtpfgdfpaoldhcaaGreatDoor
namespace Go.Proofs.YtpfgdfpaoldhcaaGreatDoor
open Go.RowKit
theorem zBf (n:Int) (b:Bool) (w:World) (h:decide (1≤n∧n≤3652059)=b):Calls Tryz.prog 31 #[n] w fun e w'=>e=.returned b∧w=w':=by
 subst h
 by_cases h1:1≤n
 ·have h2:decide (1≤n∧n≤3652059)=decide (n≤3652059):=by simp[h1]
  rw[h2]
  go_enter Tryz.func31,Tryz.ntmps31
  go_wp2
  go_ret
  exact⟨rfl,rfl⟩
 ·have h2:decide (1≤n∧n≤3652059)=false:=by simp[h1]
  have h3:decide (1≤n)=false:=by simp[h1]
  rw[h2]
  go_enter Tryz.func31,Tryz.ntmps31
  go_wp2
  go_ret
  exact⟨rfl,rfl⟩
def Cells (W:World) (b off:Nat) (X:Nat→Int) (n:Nat):Prop:=∀j,j<n→W.cell? ⟨b,off+j,none⟩=some (.int .i64 (X j))
theorem Cells.lt {W:World} {b off n:Nat} {X:Nat→Int} (h:Cells W b off X n) (hn:0<n):b<W.heap.size:=zA0 (h 0 hn)
theorem Cells.below {W W':World} {b off n:Nat} {X:Nat→Int} (h:Cells W b off X n) (hb:Below W W W'):Cells W' b off X n:=fun j hj=>keep hb (zA0 (h j hj)) (h j hj)
theorem Cells.kept {w W:World} {b off n:Nat} {X:Nat→Int} (h:Cells w b off X n) (hb:Below w w W):Cells W b off X n:=h.below hb
theorem zq0cg {P:Prop} (h:P:=by
 go_enter Tryz.func72,Tryz.ntmps72
 go_wp2
 go_ret
 exact⟨rfl,Below.refl _ _⟩):P:=h
theorem imr_no (ao:Option Addr) (n cap:Nat) (f:Int) (w:World) (hn:n≤100) (h:n<2∨f<1∨12<f) :
  Calls Tryz.prog 72 #[.slice ao n cap,f] w fun e w'=>e=.returned false∧Below w w w':=by
 have h2:decide ((n:Int)>1204)=false:=zx
 by_cases k1:n<2
 ·have t1:decide ((n:Int)<2)=true:=zx
  exact zq0cg
 ·have t1:decide ((n:Int)<2)=false:=zx
  by_cases k2:f<1
  ·have t2:decide (f<1)=true:=zx
   exact zq0cg
  ·have t2:decide (f<1)=false:=zx
   have t3:decide (f>12)=true:=zx
   exact zq0cg
theorem zLs (X:Nat→Int):Rising X 0:=⟨fun i h=>absurd h zo,fun i h=>absurd h zo⟩
theorem zOs {X:Nat→Int} (h:1≤X 0∧X 0≤3652059):Rising X 1:=⟨fun i hi=>(by omega:i=0)▸h,fun i h=>absurd h zo⟩
theorem zLr {X:Nat→Int} {k:Nat} (h:Rising X (k+1)) (hd:1≤X (k+1)∧X (k+1)≤3652059) (hl:X k≤X (k+1)):Rising X (k+2):=
 ⟨fun i hi=>by
  by_cases e:i=k+1
  ·subst e;exact hd
  ·exact h.1 i zo,fun i hi=>by
  by_cases e:i=k
  ·subst e;exact hl
  ·exact h.2 i zo⟩
theorem imr_any (b off m cap:Nat) (X:Nat→Int) (f:Int) (c:Bool) (w:World) (hm1:1≤m) (hm:m<100) (hf:1≤f∧f≤12) (hC:Cells w b off X (m+1)) (hc:c=true↔Rising X (m+1)∧X 0<X m) :
  Calls Tryz.prog 72 #[.slice (some ⟨b,off,none⟩) (m+1) cap,f] w fun e w'=>e=.returned c∧Below w w w':=by
 have HC:=zh hC
 have HR:=zh hc
 have CF:Hid (¬Rising X (m+1)→c=false):=zh (fun h=>by cases c;rfl;exact absurd (hc.1 rfl).1 h)
 clear hC hc
 go_enter Tryz.func72,Tryz.ntmps72
 go_wp2_with fail
 go_loopw [6,7] (fun i d wr=>∃k:Nat,k≤m+1∧i=.int .i64 k∧Rising X k∧Below w w wr) (fun i _ _=>m+1-(intOf i).toNat)
 case atStart=>exact⟨0,zo,rfl,zLs X,Below.refl _ _⟩
 case round=>
  obtain⟨k,hk,rfl,hR,hB⟩:=hrel
  have KR:=zh hR
  have KB:=zh hB
  have KC:=zh (HC.out.kept hB)
  clear hR hB
  by_cases hlt:k<m+1
  ·have ck:=KC.out k hlt
   by_cases hd:1≤X k∧X k≤3652059
   ·have D:=zh (fun v=>zBf (X k) true v (by simpa using hd))
    match k,hk,KR,hlt,ck,hd,D with
    | 0,hk,KR,hlt,ck,hd,D=>
     rw[Nat.add_zero] at ck
     go_wp2_with fail
     with_reducible refine (D.out _).mono ?_
     rintro e w1 ⟨rfl,rfl⟩
     go_wp2_with fail
     go_quiet (fail)
     go_wp2
     go_roundw
     case rel=>exact⟨1,zo,by go_num,zOs hd,zA7 KB.out _⟩
     case measure=>simp[intOf]
    | j+1,hk,KR,hlt,ck,hd,D=>
     have cj:=KC.out j zo
     go_wp2_with fail
     with_reducible refine (D.out _).mono ?_
     rintro e w1 ⟨rfl,rfl⟩
     by_cases hl:X (j+1)<X j
     ·have t1:decide (X (j+1)<X j)=true:=by simpa using hl
      go_wp2_with fail
      go_quiet (fail)
      go_wp2
      go_ret
      exact⟨by rw[CF.out (fun h=>absurd (h.2 j zo) zo)];rfl,zA7 KB.out _⟩
     ·have t1:decide (X (j+1)<X j)=false:=by simpa using hl
      go_wp2_with fail
      go_quiet (fail)
      go_wp2
      go_roundw
      case rel=>exact⟨j+2,zo,by go_num,zLr KR.out hd zo,zA7 KB.out _⟩
      case measure=>simp[intOf];omega
   ·have D:=zh (fun v=>zBf (X k) false v (by simpa using hd))
    go_wp2_with fail
    with_reducible refine (D.out _).mono ?_
    rintro e w1 ⟨rfl,rfl⟩
    go_wp2_with fail
    go_quiet (fail)
    go_wp2
    go_ret
    exact⟨by rw[CF.out (fun h=>hd (h.1 k hlt))];rfl,zA7 KB.out _⟩
  ·obtain rfl:k=m+1:=zo
   have c0:=KC.out 0 zo
   rw[Nat.add_zero] at c0
   have cm:=KC.out m zo
   have T:decide (X 0<X m)=c:=by
    cases c
    ·rw[decide_eq_false_iff_not]
     intro k
     exact absurd (HR.out.2 ⟨KR.out,k⟩) zd
    ·rw[decide_eq_true_eq]
     exact (HR.out.1 rfl).2
   go_wp2_with fail
   go_quiet (fail)
   go_wp2
   go_ret
   exact⟨rfl,zA7 KB.out _⟩
def RowAt (W:World) (ao:Option Addr) (X:Nat→Int) (n cap:Nat):Prop:=n≤cap∧(0<n→∃b off,ao=some ⟨b,off,none⟩∧Cells W b off X n)
theorem RowAt.below {W W':World} {ao:Option Addr} {n cap:Nat} {X:Nat→Int} (h:RowAt W ao X n cap) (hb:Below W W W'):RowAt W' ao X n cap:=
 ⟨h.1,fun hn=>by obtain⟨b,off,e,hc⟩:=h.2 hn;exact⟨b,off,e,hc.below hb⟩⟩
def rowF (ao:Option Addr) (X:Nat→Int) (n cap:Nat):Fact:=.that (fun W=>RowAt W ao X n cap) (fun _ _ hb h=>h.below hb)
theorem Held.row {w W:World} {fs:List Fact} {ao:Option Addr} {X:Nat→Int} {n cap:Nat} (h:Held w fs W) (hm:rowF ao X n cap∈fs:=by exact zm):RowAt W ao X n cap:=h.all _ hm
theorem zMw (ao:Option Addr) (n cap:Nat) (X:Nat→Int) (f:Int) (c:Bool) (w:World) (hn:n≤100) (hR:RowAt w ao X n cap) (hc:c=true↔MayX X n f) :
  Calls Tryz.prog 72 #[.slice ao n cap,f] w fun e w'=>e=.returned c∧Below w w w':=by
 by_cases h:2≤n∧1≤f∧f≤12
 ·obtain⟨b,off,rfl,hC⟩:=hR.2 zo
  obtain⟨m,rfl⟩:∃m,n=m+1:=⟨n-1,zo⟩
  refine imr_any b off m cap X f c w zo zo h.2 hC (hc.trans ⟨fun k=>⟨k.2.2.2.1,k.2.2.2.2⟩,fun k=>⟨h.1,zo,h.2,k.1,k.2⟩⟩)
 ·have:c=false:=by
   cases c
   ·rfl
   ·exact absurd (hc.1 rfl) (fun k=>h ⟨k.1,k.2.2.1⟩)
  subst this
  exact imr_no ao n cap f w hn zo
end Go.Proofs.YtpfgdfpaoldhcaaGreatDoor
namespace Go.Proofs.YtpfgdfpaoldhcaaGreatDoor
open Go.RowKit
theorem nan_any (x:Int) (w:World):Calls Tryz.prog 210 #[x] w fun e w'=>e=.returned false∧w'=w:=by
 go_enter Tryz.func210,Tryz.ntmps210
 go_wp2
 go_ret
 exact⟨zs,rfl⟩
theorem less_any (x y:Int) (w:World):Calls Tryz.prog 192 #[x,y] w fun e w'=>e=.returned (.bool (decide (x<y)))∧w'=w:=by
 have N:=zh (fun z v=>nan_any z v)
 go_enter Tryz.func192,Tryz.ntmps192
 go_wp2_with fail
 with_reducible refine (N.out _ _).mono ?_
 rintro e w1 ⟨rfl,rfl⟩
 go_wp2_with fail
 go_ret
 exact⟨rfl,rfl⟩
theorem zBv (b off m cap:Nat) (X:Nat→Int) (c:Bool) (w:World) (hm:m<2000) (hC:Cells w b off X (m+1)) (hc:c=true↔∀i,i+1<m+1→X i≤X (i+1)) :
  Calls Tryz.prog 216 #[.slice (some ⟨b,off,none⟩) (m+1) cap] w fun e w'=>e=.returned c∧Below w w w':=by
 have HC:=zh hC
 have HR:=zh hc
 have LS:=zh (fun x y v=>less_any x y v)
 clear hC hc
 go_enter Tryz.func216,Tryz.ntmps216
 go_wp2_with fail
 go_loopw [3] (fun i wr=>∃k:Nat,k≤m∧i=.int .i64 k∧(∀i,k≤i→i+1<m+1→X i≤X (i+1))∧Below w w wr) (fun i _=>(intOf i).toNat)
 case atStart=>exact⟨m,zo,rfl,fun i h1 h2=>by omega,Below.refl _ _⟩
 case round=>
  obtain⟨k,hk,rfl,hR,hB⟩:=hrel
  have KR:=zh hR
  have KB:=zh hB
  have KC:=zh (HC.out.kept hB)
  clear hR hB
  match k,hk,KR with
  | 0,hk,KR=>
   have CT:c=true:=HR.out.2 (fun i h=>KR.out i zo h)
   go_wp2_with fail
   go_ret
   exact⟨by rw[CT];rfl,KB.out⟩
  | j+1,hk,KR=>
   have cj:=KC.out j zo
   have ck:=KC.out (j+1) zo
   by_cases hl:X (j+1)<X j
   ·have t1:decide (X (j+1)<X j)=true:=by simpa using hl
    have CT:c=false:=by
     cases c
     ·rfl
     ·exact absurd (HR.out.1 rfl j zo) zo
    go_wp2_with fail
    go_quiet (first | (go_at_call 192;with_reducible refine Calls.quiet_of_same (LS.out _ _ _)))
    go_wp2
    go_ret
    exact⟨by rw[CT];rfl,zA7 KB.out _⟩
   ·have t1:decide (X (j+1)<X j)=false:=by simpa using hl
    go_wp2_with fail
    go_quiet (first | (go_at_call 192;with_reducible refine Calls.quiet_of_same (LS.out _ _ _)))
    go_wp2
    go_roundw
    case rel=>
     refine⟨j,zo,by go_num,fun i h1 h2=>?_,zA7 KB.out _⟩
     by_cases e:i=j
     ·subst e;omega
     ·exact KR.out i zo h2
    case measure=>simp[intOf]
theorem zAl (n:Int) (b:Bool) (w:World) (hL:Lens w) (h:decide (1≤n∧n≤3652059)=b):Calls Tryz.prog 207 #[n] w fun e w'=>e=.returned b∧Below w w w':=by
 have H:=(Held.start w).add (f:=zAa) hL
 clear hL
 obtain⟨y,m,d,e,hd⟩:=day_is n
 have D:=zh (fun v hv=>zAx n y m d e v hv hd)
 have E:Hid ((e==0)=b):=zh (by
  rcases hd with⟨h1,h2,rfl⟩ | ⟨h1,_,_,_,rfl⟩
  ·have:=zAd _ _ _ h1
   rw[←h]
   symm
   simp
   omega
  ·rw[←h]
   symm
   simp
   omega)
 clear hd h
 go_enter Tryz.func207,Tryz.ntmps207
 go_wp2_with fail
 with_reducible refine (D.out _ (H.lens i0_)).mono ?_
 rintro e' w1 ⟨rfl,hb⟩
 replace H:=H.below hb
 clear hb
 go_wp2_with fail
 replace H:=H.triple w1.heap.size y m d 86 rfl
 go_ret
 exact⟨by rw[E.out];rfl,H.old⟩
end Go.Proofs.YtpfgdfpaoldhcaaGreatDoor
namespace Go.Proofs.YtpfgdfpaoldhcaaGreatDoor
open Go.RowKit
def zDy (b off:Nat) (X:Nat→Int) (n:Nat):Fact:=.that (fun W=>Cells W b off X n) (fun _ _ hb h=>h.below hb)
theorem Held.cells {w W:World} {fs:List Fact} {b off n:Nat} {X:Nat→Int} (h:Held w fs W) (hm:zDy b off X n∈fs:=by exact zm):Cells W b off X n:=h.all _ hm
theorem Held.flens {w W:World} {fs:List Fact} (h:Held w fs W) (hm:zBo∈fs:=by exact zm):Lens W:=(h.facts hm).1
theorem may_few (ao:Option Addr) (n cap:Nat) (f:Int) (w:World) (hF:Facts w) (h:n<2) :
  Calls Tryz.prog 208 #[.slice ao n cap,f] w fun e w'=>(∃v,e=.returned (.iface 270 v))∧Below w w w':=by
 have H:=(Held.start w).add (f:=zBo) hF
 clear hF
 have t1:decide ((n:Int)<2)=true:=zx
 obtain⟨-,v0,v1,v2,v3,v4,v5,v6,q0,q1,q2,q3,q4,q5,q6⟩:=(H.facts).2
 go_enter Tryz.func208,Tryz.ntmps208
 go_wp2
 go_ret
 exact⟨⟨_,rfl⟩,H.old⟩
theorem zqltj {P:Prop} (h:P:=by
 obtain⟨-,v0,v1,v2,v3,v4,v5,v6,q0,q1,q2,q3,q4,q5,q6⟩:=(H.facts).2
 go_wp2
 go_ret
 exact⟨⟨_,rfl⟩,H.old⟩):P:=h
theorem zRr (b off m cap:Nat) (X:Nat→Int) (f:Int) (w:World) (hF:Facts w) (hm1:1≤m) (hm:m<100) (hC:Cells w b off X (m+1)) (hs:¬∀i,i+1<m+1→X i≤X (i+1)) :
  Calls Tryz.prog 208 #[.slice (some ⟨b,off,none⟩) (m+1) cap,f] w fun e w'=>(∃v,e=.returned (.iface 270 v))∧Below w w w':=by
 have H:=((Held.start w).add (f:=zBo) hF).add (f:=zDy b off X (m+1)) hC
 have SO:=zh (fun v hv=>zBv b off m cap X false v zo hv (by first | (simp;done) | (constructor;(intro h;cases h);(intro h;exact absurd h hs)) | (constructor;(intro _;exact hs);(intro _;rfl))))
 have c0:=hC 0 zo
 rw[Nat.add_zero] at c0
 have cm:=hC m zo
 clear hF hC hs
 go_enter Tryz.func208,Tryz.ntmps208
 go_wp2_with fail
 go_quiet (fail)
 clear c0 cm
 go_wp2_with fail
 with_reducible refine (SO.out _ ((H.drewN _).cells zm)).mono ?_
 rintro e w1 ⟨rfl,hb⟩
 replace H:=(H.drewN _).below hb
 clear hb
 exact zqltj
theorem may_day0 (b off m cap:Nat) (X:Nat→Int) (f:Int) (w:World) (hF:Facts w) (hm1:1≤m) (hm:m<100) (hC:Cells w b off X (m+1)) (hs:∀i,i+1<m+1→X i≤X (i+1)) (hd:X 0<1∨3652059<X 0) :
  Calls Tryz.prog 208 #[.slice (some ⟨b,off,none⟩) (m+1) cap,f] w fun e w'=>(∃v,e=.returned (.iface 270 v))∧Below w w w':=by
 have H:=((Held.start w).add (f:=zBo) hF).add (f:=zDy b off X (m+1)) hC
 have SO:=zh (fun v hv=>zBv b off m cap X true v zo hv (by first | (simp;done) | (constructor;(intro h;cases h);(intro h;exact absurd h hs)) | (constructor;(intro _;exact hs);(intro _;rfl))))
 have c0:=hC 0 zo
 rw[Nat.add_zero] at c0
 have cm:=hC m zo
 have D0:=zh (fun v hv=>zAl (X 0) false v hv zx)
 clear hF hC hs
 go_enter Tryz.func208,Tryz.ntmps208
 go_wp2_with fail
 go_quiet (fail)
 clear c0 cm
 go_wp2_with fail
 with_reducible refine (SO.out _ ((H.drewN _).cells zm)).mono ?_
 rintro e w1 ⟨rfl,hb⟩
 replace H:=(H.drewN _).below hb
 clear hb
 go_wp2_with fail
 revert H
 with_reducible refine zG (fun H=>D0.out _ (H.flens)) ?_
 intro w2 H
 exact zqltj
theorem zq1z6 {P:Prop} (h:P:=by
 clear hF hC hs
 go_enter Tryz.func208,Tryz.ntmps208
 go_wp2_with fail
 go_quiet (fail)
 clear c0 cm
 go_wp2_with fail
 with_reducible refine (SO.out _ ((H.drewN _).cells zm)).mono ?_
 rintro e w1 ⟨rfl,hb⟩
 replace H:=(H.drewN _).below hb
 clear hb
 go_wp2_with fail
 revert H
 with_reducible refine zG (fun H=>D0.out _ (H.flens)) ?_
 intro w2 H
 go_wp2_with fail
 revert H
 with_reducible refine zG (fun H=>D1.out _ (H.flens)) ?_
 intro w3 H
 exact zqltj):P:=h
theorem may_day1 (b off m cap:Nat) (X:Nat→Int) (f:Int) (w:World) (hF:Facts w) (hm1:1≤m) (hm:m<100) (hC:Cells w b off X (m+1)) (hs:∀i,i+1<m+1→X i≤X (i+1)) (hd:1≤X 0∧X 0≤3652059) (hd2:X m<1∨3652059<X m) :
  Calls Tryz.prog 208 #[.slice (some ⟨b,off,none⟩) (m+1) cap,f] w fun e w'=>(∃v,e=.returned (.iface 270 v))∧Below w w w':=by
 have H:=((Held.start w).add (f:=zBo) hF).add (f:=zDy b off X (m+1)) hC
 have SO:=zh (fun v hv=>zBv b off m cap X true v zo hv (by first | (simp;done) | (constructor;(intro h;cases h);(intro h;exact absurd h hs)) | (constructor;(intro _;exact hs);(intro _;rfl))))
 have c0:=hC 0 zo
 rw[Nat.add_zero] at c0
 have cm:=hC m zo
 have D0:=zh (fun v hv=>zAl (X 0) true v hv zx)
 have D1:=zh (fun v hv=>zAl (X m) false v hv zx)
 exact zq1z6
theorem zRq (b off m cap:Nat) (X:Nat→Int) (f:Int) (w:World) (hF:Facts w) (hm1:1≤m) (hm:m<100) (hC:Cells w b off X (m+1)) (hs:∀i,i+1<m+1→X i≤X (i+1)) (hd:1≤X 0∧X 0≤3652059) (hd2:1≤X m∧X m≤3652059) (he:X 0=X m) :
  Calls Tryz.prog 208 #[.slice (some ⟨b,off,none⟩) (m+1) cap,f] w fun e w'=>(∃v,e=.returned (.iface 270 v))∧Below w w w':=by
 have H:=((Held.start w).add (f:=zBo) hF).add (f:=zDy b off X (m+1)) hC
 have SO:=zh (fun v hv=>zBv b off m cap X true v zo hv (by first | (simp;done) | (constructor;(intro h;cases h);(intro h;exact absurd h hs)) | (constructor;(intro _;exact hs);(intro _;rfl))))
 have c0:=hC 0 zo
 rw[Nat.add_zero] at c0
 have cm:=hC m zo
 have D0:=zh (fun v hv=>zAl (X 0) true v hv zx)
 have D1:=zh (fun v hv=>zAl (X m) true v hv zx)
 have t1:(X 0==X m)=true:=by simpa using he
 clear he
 exact zq1z6
theorem zRs (b off m cap:Nat) (X:Nat→Int) (f:Int) (w:World) (hF:Facts w) (hm1:1≤m) (hm:m<100) (hC:Cells w b off X (m+1)) (hs:∀i,i+1<m+1→X i≤X (i+1)) (hd:1≤X 0∧X 0≤3652059) (hd2:1≤X m∧X m≤3652059) (he:X 0≠X m) (hf:f<1) :
  Calls Tryz.prog 208 #[.slice (some ⟨b,off,none⟩) (m+1) cap,f] w fun e w'=>(∃v,e=.returned (.iface 270 v))∧Below w w w':=by
 have H:=((Held.start w).add (f:=zBo) hF).add (f:=zDy b off X (m+1)) hC
 have SO:=zh (fun v hv=>zBv b off m cap X true v zo hv (by first | (simp;done) | (constructor;(intro h;cases h);(intro h;exact absurd h hs)) | (constructor;(intro _;exact hs);(intro _;rfl))))
 have c0:=hC 0 zo
 rw[Nat.add_zero] at c0
 have cm:=hC m zo
 have D0:=zh (fun v hv=>zAl (X 0) true v hv zx)
 have D1:=zh (fun v hv=>zAl (X m) true v hv zx)
 have t1:(X 0==X m)=false:=by simpa using he
 have t2:decide (f<1)=true:=by simpa using hf
 clear he
 exact zq1z6
theorem zRt (b off m cap:Nat) (X:Nat→Int) (f:Int) (w:World) (hF:Facts w) (hm1:1≤m) (hm:m<100) (hC:Cells w b off X (m+1)) (hs:∀i,i+1<m+1→X i≤X (i+1)) (hd:1≤X 0∧X 0≤3652059) (hd2:1≤X m∧X m≤3652059) (he:X 0≠X m) (hf:12<f) :
  Calls Tryz.prog 208 #[.slice (some ⟨b,off,none⟩) (m+1) cap,f] w fun e w'=>(∃v,e=.returned (.iface 270 v))∧Below w w w':=by
 have H:=((Held.start w).add (f:=zBo) hF).add (f:=zDy b off X (m+1)) hC
 have SO:=zh (fun v hv=>zBv b off m cap X true v zo hv (by first | (simp;done) | (constructor;(intro h;cases h);(intro h;exact absurd h hs)) | (constructor;(intro _;exact hs);(intro _;rfl))))
 have c0:=hC 0 zo
 rw[Nat.add_zero] at c0
 have cm:=hC m zo
 have D0:=zh (fun v hv=>zAl (X 0) true v hv zx)
 have D1:=zh (fun v hv=>zAl (X m) true v hv zx)
 have t1:(X 0==X m)=false:=by simpa using he
 have t2:decide (f<1)=false:=zx
 clear he
 exact zq1z6
theorem may_yes (b off m cap:Nat) (X:Nat→Int) (f:Int) (w:World) (hF:Facts w) (hm1:1≤m) (hm:m<100) (hC:Cells w b off X (m+1)) (hs:∀i,i+1<m+1→X i≤X (i+1)) (hd:1≤X 0∧X 0≤3652059) (hd2:1≤X m∧X m≤3652059) (he:X 0≠X m) (hf:1≤f∧f≤12) :
  Calls Tryz.prog 208 #[.slice (some ⟨b,off,none⟩) (m+1) cap,f] w fun e w'=>e=.returned .nilIface∧Below w w w':=by
 have H:=((Held.start w).add (f:=zBo) hF).add (f:=zDy b off X (m+1)) hC
 have SO:=zh (fun v hv=>zBv b off m cap X true v zo hv (by first | (simp;done) | (constructor;(intro h;cases h);(intro h;exact absurd h hs)) | (constructor;(intro _;exact hs);(intro _;rfl))))
 have c0:=hC 0 zo
 rw[Nat.add_zero] at c0
 have cm:=hC m zo
 have D0:=zh (fun v hv=>zAl (X 0) true v hv zx)
 have D1:=zh (fun v hv=>zAl (X m) true v hv zx)
 have t1:(X 0==X m)=false:=by simpa using he
 clear he
 clear hF hC hs
 go_enter Tryz.func208,Tryz.ntmps208
 go_wp2_with fail
 go_quiet (fail)
 clear c0 cm
 go_wp2_with fail
 with_reducible refine (SO.out _ ((H.drewN _).cells zm)).mono ?_
 rintro e w1 ⟨rfl,hb⟩
 replace H:=(H.drewN _).below hb
 clear hb
 go_wp2_with fail
 revert H
 with_reducible refine zG (fun H=>D0.out _ (H.flens)) ?_
 intro w2 H
 go_wp2_with fail
 revert H
 with_reducible refine zG (fun H=>D1.out _ (H.flens)) ?_
 intro w3 H
 go_wp2
 go_ret
 exact⟨rfl,H.old⟩
theorem why_no (ao:Option Addr) (n cap:Nat) (X:Nat→Int) (f:Int) (w:World) (hF:Facts w) (hn:n≤100) (hR:RowAt w ao X n cap) (hc:¬MayX X n f) :
    Calls Tryz.prog 208 #[.slice ao n cap,f] w fun e w'=>(∃v,e=.returned (.iface 270 v))∧Below w w w':=by
  by_cases h:n<2
  · exact may_few ao n cap f w hF h
  · obtain⟨b,off,rfl,hC⟩:=hR.2 zo
    obtain⟨m,rfl⟩:∃m,n=m+1:=⟨n-1,zo⟩
    by_cases hs:∀i,i+1<m+1→X i≤X (i+1)
    · by_cases hd:1≤X 0∧X 0≤3652059
      · by_cases hd2:1≤X m∧X m≤3652059
        · by_cases he:X 0=X m
          · exact zRq b off m cap X f w hF zo zo hC hs hd hd2 he
          · by_cases h1:f<1
            · exact zRs b off m cap X f w hF zo zo hC hs hd hd2 he h1
            · by_cases h2:12<f
              · exact zRt b off m cap X f w hF zo zo hC hs hd hd2 he h2
              · exfalso
                have RS:∀j,j<m+1→X 0≤X j:=by
                  intro j
                  induction j with
                  | zero=>intro _;exact Int.le_refl _
                  | succ j ih=>intro hj;exact Int.le_trans (ih zo) (hs j hj)
                have RT:∀k j,j+k=m→X j≤X m:=by
                  intro k
                  induction k with
                  | zero => intro j e;obtain rfl:j=m:=zo
                            exact Int.le_refl _
                  | succ k ih=>intro j e;exact Int.le_trans (hs j zo) (ih (j+1) zo)
                have k0:=RS m zo
                exact hc ⟨zo,zo,zo,⟨fun i hi=>⟨by have:=RS i hi;omega,by have:=RT (m-i) i zo;omega⟩,hs⟩,show X 0<X (m+1-1) by rw[Nat.add_sub_cancel];omega⟩
        · exact may_day1 b off m cap X f w hF zo zo hC hs hd zo
      · exact may_day0 b off m cap X f w hF zo zo hC hs zo
    · exact zRr b off m cap X f w hF zo zo hC hs
theorem zUv (ao:Option Addr) (n cap:Nat) (X:Nat→Int) (f:Int) (w:World) (hF:Facts w) (hn:n≤100) (hR:RowAt w ao X n cap) (hc:MayX X n f) :
  Calls Tryz.prog 208 #[.slice ao n cap,f] w fun e w'=>e=.returned .nilIface∧Below w w w':=by
 obtain⟨h1,h2,h3,h4,h5⟩:=hc
 obtain⟨b,off,rfl,hC⟩:=hR.2 zo
 obtain⟨m,rfl⟩:∃m,n=m+1:=⟨n-1,zo⟩
 rw[Nat.add_sub_cancel] at h5
 exact may_yes b off m cap X f w hF zo zo hC h4.2 (h4.1 0 zo) (h4.1 m zo) zo h3
end Go.Proofs.YtpfgdfpaoldhcaaGreatDoor
namespace Go.Proofs.YtpfgdfpaoldhcaaGreatDoor
open Go.RowKit
theorem chk_day0 (a b:Int) (ao:Option Addr) (n cap:Nat) (X:Nat→Int) (f:Int) (w:World) (hF:Facts w) (hn:n≤100) (hR:RowAt w ao X n cap) (hd:a<1∨3652059<a) :
  Calls Tryz.prog 190 #[a,b,.slice ao n cap,f] w fun e w'=>(∃v,e=.returned (.iface 255 (.agg #[(3:Int),.iface 270 v])))∧Below w w w':=by
 have H:=((Held.start w).add (f:=zBo) hF).add (f:=rowF ao X n cap) hR
 clear hF hR
 have D0:=zh (fun v hv=>zAl a false v hv zu)
 clear hd
 go_enter Tryz.func190,Tryz.ntmps190
 go_wp2_with fail
 revert H
 with_reducible refine zG (fun H=>D0.out _ (H.flens)) ?_
 intro w1 H
 exact zqltj
theorem zqfxz {P:Prop} (h:P:=by
 clear hd hd2
 go_enter Tryz.func190,Tryz.ntmps190
 go_wp2_with fail
 revert H
 with_reducible refine zG (fun H=>D0.out _ (H.flens)) ?_
 intro w1 H
 go_wp2_with fail
 revert H
 with_reducible refine zG (fun H=>D1.out _ (H.flens)) ?_
 intro w2 H
 exact zqltj):P:=h
theorem chk_day1 (a b:Int) (ao:Option Addr) (n cap:Nat) (X:Nat→Int) (f:Int) (w:World) (hF:Facts w) (hn:n≤100) (hR:RowAt w ao X n cap) (hd:1≤a∧a≤3652059) (hd2:b<1∨3652059<b) :
  Calls Tryz.prog 190 #[a,b,.slice ao n cap,f] w fun e w'=>(∃v,e=.returned (.iface 255 (.agg #[(3:Int),.iface 270 v])))∧Below w w w':=by
 have H:=((Held.start w).add (f:=zBo) hF).add (f:=rowF ao X n cap) hR
 clear hF hR
 have D0:=zh (fun v hv=>zAl a true v hv zu)
 have D1:=zh (fun v hv=>zAl b false v hv zu)
 exact zqfxz
theorem zQg (a b:Int) (ao:Option Addr) (n cap:Nat) (X:Nat→Int) (f:Int) (w:World) (hF:Facts w) (hn:n≤100) (hR:RowAt w ao X n cap) (hd:1≤a∧a≤3652059) (hd2:1≤b∧b≤3652059) (hab:b<a) :
  Calls Tryz.prog 190 #[a,b,.slice ao n cap,f] w fun e w'=>(∃v,e=.returned (.iface 255 (.agg #[(4:Int),.iface 270 v])))∧Below w w w':=by
 have H:=((Held.start w).add (f:=zBo) hF).add (f:=rowF ao X n cap) hR
 clear hF hR
 have D0:=zh (fun v hv=>zAl a true v hv zu)
 have D1:=zh (fun v hv=>zAl b true v hv zu)
 exact zqfxz
theorem chk_may (a b:Int) (ao:Option Addr) (n cap:Nat) (X:Nat→Int) (f:Int) (w:World) (hF:Facts w) (hn:n≤100) (hR:RowAt w ao X n cap) (hd:1≤a∧a≤3652059) (hd2:1≤b∧b≤3652059) (hab:a≤b) (hm:¬MayX X n f) :
  Calls Tryz.prog 190 #[a,b,.slice ao n cap,f] w fun e w'=>(∃v,e=.returned (.iface 255 (.agg #[(5:Int),.iface 270 v])))∧Below w w w':=by
 have H:=((Held.start w).add (f:=zBo) hF).add (f:=rowF ao X n cap) hR
 clear hF hR
 have D0:=zh (fun v hv=>zAl a true v hv zu)
 have D1:=zh (fun v hv=>zAl b true v hv zu)
 have C:=zh (fun v h1 h2=>why_no ao n cap X f v h1 hn h2 hm)
 clear hd hd2 hm
 go_enter Tryz.func190,Tryz.ntmps190
 go_wp2_with fail
 revert H
 with_reducible refine zG (fun H=>D0.out _ (H.flens)) ?_
 intro w1 H
 go_wp2_with fail
 revert H
 with_reducible refine zG (fun H=>D1.out _ (H.flens)) ?_
 intro w2 H
 go_wp2_with fail
 with_reducible refine (C.out _ (H.facts) (H.row)).mono ?_
 rintro e w3 ⟨⟨v,rfl⟩,hb⟩
 replace H:=H.below hb
 clear hb
 go_wp2
 go_ret
 exact⟨⟨_,rfl⟩,H.old⟩
theorem chk_out0 (a b:Int) (ao:Option Addr) (n cap:Nat) (X:Nat→Int) (f:Int) (w:World) (hF:Facts w) (hn:n≤100) (hR:RowAt w ao X n cap) (hd:1≤a∧a≤3652059) (hd2:1≤b∧b≤3652059) (hab:a≤b) (hm:MayX X n f) (hx:a<X 0) :
  Calls Tryz.prog 190 #[a,b,.slice ao n cap,f] w fun e w'=>(∃v,e=.returned (.iface 255 (.agg #[(5:Int),.iface 270 v])))∧Below w w w':=by
 have H:=((Held.start w).add (f:=zBo) hF).add (f:=rowF ao X n cap) hR
 clear hF hR
 have D0:=zh (fun v hv=>zAl a true v hv zu)
 have D1:=zh (fun v hv=>zAl b true v hv zu)
 have C:=zh (fun v h1 h2=>zUv ao n cap X f v h1 hn h2 hm)
 have k2:=hm.1
 clear hd hd2 hm
 go_enter Tryz.func190,Tryz.ntmps190
 go_wp2_with fail
 revert H
 with_reducible refine zG (fun H=>D0.out _ (H.flens)) ?_
 intro w1 H
 go_wp2_with fail
 revert H
 with_reducible refine zG (fun H=>D1.out _ (H.flens)) ?_
 intro w2 H
 go_wp2_with fail
 revert H
 with_reducible refine zG (fun H=>C.out _ (H.facts) (H.row)) ?_
 intro w3 H
 obtain⟨B,off,rfl,hC⟩:=(H.row).2 zo
 obtain⟨m,rfl⟩:∃m,n=m+1:=⟨n-1,zo⟩
 have c0:=hC 0 zo
 rw[Nat.add_zero] at c0
 have cm:=hC m zo
 clear hC
 exact zqltj
theorem chk_out1 (a b:Int) (ao:Option Addr) (n cap:Nat) (X:Nat→Int) (f:Int) (w:World) (hF:Facts w) (hn:n≤100) (hR:RowAt w ao X n cap) (hd:1≤a∧a≤3652059) (hd2:1≤b∧b≤3652059) (hab:a≤b) (hm:MayX X n f) (hx0:X 0≤a) (hx:X (n-1)<b) :
  Calls Tryz.prog 190 #[a,b,.slice ao n cap,f] w fun e w'=>(∃v,e=.returned (.iface 255 (.agg #[(5:Int),.iface 270 v])))∧Below w w w':=by
 have H:=((Held.start w).add (f:=zBo) hF).add (f:=rowF ao X n cap) hR
 clear hF hR
 have D0:=zh (fun v hv=>zAl a true v hv zu)
 have D1:=zh (fun v hv=>zAl b true v hv zu)
 have C:=zh (fun v h1 h2=>zUv ao n cap X f v h1 hn h2 hm)
 have k2:=hm.1
 clear hd hd2 hm
 go_enter Tryz.func190,Tryz.ntmps190
 go_wp2_with fail
 revert H
 with_reducible refine zG (fun H=>D0.out _ (H.flens)) ?_
 intro w1 H
 go_wp2_with fail
 revert H
 with_reducible refine zG (fun H=>D1.out _ (H.flens)) ?_
 intro w2 H
 go_wp2_with fail
 revert H
 with_reducible refine zG (fun H=>C.out _ (H.facts) (H.row)) ?_
 intro w3 H
 obtain⟨B,off,rfl,hC⟩:=(H.row).2 zo
 obtain⟨m,rfl⟩:∃m,n=m+1:=⟨n-1,zo⟩
 rw[Nat.add_sub_cancel] at hx
 have c0:=hC 0 zo
 rw[Nat.add_zero] at c0
 have cm:=hC m zo
 clear hC
 exact zqltj
theorem chk_ok (a b:Int) (ao:Option Addr) (n cap:Nat) (X:Nat→Int) (f:Int) (w:World) (hF:Facts w) (hn:n≤100) (hR:RowAt w ao X n cap) (hd:1≤a∧a≤3652059) (hd2:1≤b∧b≤3652059) (hab:a≤b) (hm:MayX X n f) (hx0:X 0≤a) (hx:b≤X (n-1)) :
  Calls Tryz.prog 190 #[a,b,.slice ao n cap,f] w fun e w'=>e=.returned .nilIface∧Below w w w':=by
 have H:=((Held.start w).add (f:=zBo) hF).add (f:=rowF ao X n cap) hR
 clear hF hR
 have D0:=zh (fun v hv=>zAl a true v hv zu)
 have D1:=zh (fun v hv=>zAl b true v hv zu)
 have C:=zh (fun v h1 h2=>zUv ao n cap X f v h1 hn h2 hm)
 have k2:=hm.1
 clear hd hd2 hm
 go_enter Tryz.func190,Tryz.ntmps190
 go_wp2_with fail
 revert H
 with_reducible refine zG (fun H=>D0.out _ (H.flens)) ?_
 intro w1 H
 go_wp2_with fail
 revert H
 with_reducible refine zG (fun H=>D1.out _ (H.flens)) ?_
 intro w2 H
 go_wp2_with fail
 revert H
 with_reducible refine zG (fun H=>C.out _ (H.facts) (H.row)) ?_
 intro w3 H
 obtain⟨B,off,rfl,hC⟩:=(H.row).2 zo
 obtain⟨m,rfl⟩:∃m,n=m+1:=⟨n-1,zo⟩
 rw[Nat.add_sub_cancel] at hx
 have c0:=hC 0 zo
 rw[Nat.add_zero] at c0
 have cm:=hC m zo
 clear hC
 go_wp2
 go_ret
 exact⟨rfl,H.old⟩
theorem zQf (a b:Int) (ao:Option Addr) (n cap:Nat) (X:Nat→Int) (f p q c:Int) (w:World) (hF:Facts w) (hn:n≤100) (hR:RowAt w ao X n cap) (hI:IcIs X n f a b p q c) :
  Calls Tryz.prog 190 #[a,b,.slice ao n cap,f] w fun e w'=>((c=0∧e=.returned .nilIface)∨(c≠0∧(∃v,e=.returned (.iface 255 (.agg #[c,.iface 270 v])))))∧Below w w w':=by
 rcases hI with⟨h1,_,_,rfl⟩ | ⟨h1,h2,_,_,rfl⟩ | ⟨h1,h2,h3,_,_,rfl⟩ | ⟨h1,h2,h3,_,_,rfl⟩
 ·unfold zFv at h1
  by_cases k:a<1∨3652059<a
  ·exact (chk_day0 a b ao n cap X f w hF hn hR k).mono fun _ _ h=>⟨.inr ⟨zd,h.1⟩,h.2⟩
  ·exact (chk_day1 a b ao n cap X f w hF hn hR zo zo).mono fun _ _ h=>⟨.inr ⟨zd,h.1⟩,h.2⟩
 ·exact (zQg a b ao n cap X f w hF hn hR h1.1 h1.2 h2).mono fun _ _ h=>⟨.inr ⟨zd,h.1⟩,h.2⟩
 ·by_cases k:MayX X n f
  ·by_cases k2:X 0≤a
   ·have k3:X (n-1)<b:=Int.not_le.1 (fun z=>h3 ⟨k,k2,z⟩)
    exact (chk_out1 a b ao n cap X f w hF hn hR h1.1 h1.2 h2 k k2 k3).mono fun _ _ h=>⟨.inr ⟨zd,h.1⟩,h.2⟩
   ·exact (chk_out0 a b ao n cap X f w hF hn hR h1.1 h1.2 h2 k zo).mono fun _ _ h=>⟨.inr ⟨zd,h.1⟩,h.2⟩
  ·exact (chk_may a b ao n cap X f w hF hn hR h1.1 h1.2 h2 k).mono fun _ _ h=>⟨.inr ⟨zd,h.1⟩,h.2⟩
 ·exact (chk_ok a b ao n cap X f w hF hn hR h1.1 h1.2 h2 h3.1 h3.2.1 h3.2.2).mono fun _ _ h=>⟨.inl ⟨rfl,h.1⟩,h.2⟩
end Go.Proofs.YtpfgdfpaoldhcaaGreatDoor
namespace Go.Proofs.YtpfgdfpaoldhcaaGreatDoor
open Go.RowKit Go.Shelf
attribute [local go_sem] Oper.semAt_some
theorem dy_sh {X:Nat→Int} {a b:Int} {k m:Nat} (hX:Rising X (m+1)) (hk:k<m) (hab:a≤b) (h:0<zAs a b (X k) (X (k+1))):0<zAs a b (X k) (X (k+1))∧zAs a b (X k) (X (k+1))≤X (k+1)-X k∧X (k+1)-X k≤3652058:=by
 have b0:=hX.1 k zo
 have b1:=hX.1 (k+1) zo
 have hle:=hX.2 k zo
 exact⟨h,(zJb hab hle h).2.1,zo⟩
def KpS (n₀ S:Nat) (W W':World):Prop:=∀k,k<n₀→k≠S→W'.heap[k]?=W.heap[k]?
theorem KpS.refl (n₀ S:Nat) (W:World):KpS n₀ S W W:=fun _ _ _=>rfl
theorem KpS.trans {n₀ S:Nat} {A B C:World} (h:KpS n₀ S A B) (k:KpS n₀ S B C):KpS n₀ S A C:=fun i hi hs=>(k i hi hs).trans (h i hi hs)
theorem KpS.cell {n₀ S:Nat} {A B:World} (h:KpS n₀ S A B) {b o:Nat} (hb:b<n₀) (hs:b≠S):B.cell? ⟨b,o,none⟩=A.cell? ⟨b,o,none⟩:=World.cell?_of_block (a:=⟨b,o,none⟩) (h b hb hs)
theorem KpS.of_below {n₀ S B:Nat} {W W':World} (h:Below B W W') (hn:n₀≤B):KpS n₀ S W W':=fun k hk _=>h.block k zo
theorem zqynm {P:Prop} (h:P:=by
 gi_wp2
 refine bodyPost_ret (results_none rfl _ _ _) rfl ?_
 exact⟨⟨_,rfl⟩,.inr ⟨_,trivial,hJx3⟩⟩):P:=h
theorem zPd (n:Nat) (hn:1≤n) (l Br Bb Ba n₀ S b off m cap:Nat) (X:Nat→Int) (av bv:Int) (hX:Rising X (m+1)) (hm1:1≤m) (hm:m<100) (hcap:m+1≤cap) (ha:1≤av∧av≤3652059) (hb:1≤bv∧bv≤3652059) (hab:av≤bv)
  (l1:Br<n₀∧Br≠S) (l2:Bb<n₀∧Bb≠S) (l3:Ba<n₀∧Ba≠S) (l4:b<n₀∧b≠S) (J Jx:List Sh→World→Prop)
  (hY:∀pre x W,J pre W→pre.length<m→YieldAt Fence.wide (n-1) Tryz.prog l #[.int .i64 x.1.1,.int .i64 x.1.2] W fun e W'=>
   (e=.returned true∧J (pre++[x]) W'∧KpS n₀ S W W')∨(e=.returned false∧Jx (pre++[x]) W'))
  (W:World) (c1:W.cell? ⟨Br,0,none⟩=some (.slice (some ⟨b,off,none⟩) (m+1) cap)) (c2:W.cell? ⟨Bb,0,none⟩=some (.int .i64 bv)) (c3:W.cell? ⟨Ba,0,none⟩=some (.int .i64 av)) (hC:Cells W b off X (m+1)) (h0:J [] W) :
  CallsIn Fence.wide n Tryz.prog 209 #[.func (.yield l) #[] #[],.pointer (some ⟨Br,0,none⟩),.pointer (some ⟨Bb,0,none⟩),.pointer (some ⟨Ba,0,none⟩)] W fun e W'=>(∃v,e=.returned v) ∧
   ((∃ys,ys=sh X av bv m∧J ys W')∨(∃pre,True∧Jx pre W')):=by
 have HX:=zh hX
 have HC:=zh hC
 have HAB:=zh hab
 clear hX hC hab
 refine callsIn_of_wp Tryz.func209 rfl trivial ?_ rfl
 simp only[Tryz.ntmps209,List.size_toArray,List.length_cons,List.length_nil,Nat.reduceAdd,Nat.reduceSub,Array.replicate_succ,Array.replicate_zero,List.push_toArray,List.append_toArray,List.nil_append,List.cons_append]
 gi_wp2
 gi_loopw [5,6,7,8,12] (fun i t2 fr ds ix wr=>∃k:Nat,k≤m∧ix=.int .i64 k∧J (sh X av bv k) wr∧KpS n₀ S W wr)
  (fun _ _ _ _ ix _=>m-(intOf ix).toNat)
 case atStart=>exact⟨0,Nat.zero_le _,rfl,h0,KpS.refl _ _ _⟩
 case round=>
  obtain⟨k,hk,rfl,hJs,hnx⟩:=hrel
  have cc1:=(hnx.cell (o:=0) l1.1 l1.2).trans c1
  have cc2:=(hnx.cell (o:=0) l2.1 l2.2).trans c2
  have cc3:=(hnx.cell (o:=0) l3.1 l3.2).trans c3
  by_cases hlt:k<m
  ·have ck:=(hnx.cell (o:=off+k) l4.1 l4.2).trans (HC.out k zo)
   have ck1:wr.cell? ⟨b,off+1+k,none⟩=some (.int .i64 (X (k+1))):=by
    have:=(hnx.cell (o:=off+(k+1)) l4.1 l4.2).trans (HC.out (k+1) zo)
    rwa [show off+(k+1)=off+1+k by omega] at this
   have b0:=HX.out.1 k zo
   have b1:=HX.out.1 (k+1) zo
   have b2:=HX.out.2 k zo
   by_cases hd:0<zAs av bv (X k) (X (k+1))
   ·have hh:=dy_sh HX.out hlt HAB.out hd
    obtain⟨fn,tmps,assign,body,hy,hR⟩:=hY _ ⟨(zAs av bv (X k) (X (k+1)),X (k+1)-X k),hh⟩ wr hJs (by have:=sh_len X av bv k;omega)
    have ES:=zh (sh_yes hh)
    dsimp only at hy
    rw[←ES.out] at hR
    clear hh ES
    unfold zAs at hd hy
    obtain⟨p,hp⟩:∃p,min bv (X (k+1))=p:=⟨_,rfl⟩
    obtain⟨q,hq⟩:∃q,max av (X k)=q:=⟨_,rfl⟩
    have bp : -3652059≤p-q∧p-q≤3652059:=zo
    rw[hp,hq] at hd hy
    gi_wp2
    refine hR.mono ?_
    rintro e W3 (⟨rfl,hJ3,hk3⟩ | ⟨rfl,hJx3⟩)
    ·gi_wp2
     go_roundw
     case rel=>exact⟨k+1,zo,by go_num,hJ3,hnx.trans hk3⟩
     case measure=>simp[intOf];omega
    ·exact zqynm
   ·have ES:=zh (sh_no hd)
    rw[←ES.out] at hJs
    clear ES
    unfold zAs at hd
    obtain⟨p,hp⟩:∃p,min bv (X (k+1))=p:=⟨_,rfl⟩
    obtain⟨q,hq⟩:∃q,max av (X k)=q:=⟨_,rfl⟩
    have bp : -3652059≤p-q∧p-q≤3652059:=zo
    rw[hp,hq] at hd
    gi_wp2
    refine⟨fun _ h=>(by cases h),?_⟩
    gi_wp2
    go_roundw
    case rel=>exact⟨k+1,zo,by go_num,hJs,hnx⟩
    case measure=>simp[intOf];omega
  ·obtain rfl:k=m:=zo
   gi_wp2
   go_end0
   exact⟨⟨_,rfl⟩,.inl ⟨_,rfl,hJs⟩⟩
theorem zKc (n:Nat) (hn:1≤n) (Br Bb Ba n₀ S b off m cap:Nat) (X:Nat→Int) (av bv:Int) (hX:Rising X (m+1)) (hm1:1≤m) (hm:m<100) (hcap:m+1≤cap) (ha:1≤av∧av≤3652059) (hb:1≤bv∧bv≤3652059) (hab:av≤bv)
  (l1:Br<n₀∧Br≠S) (l2:Bb<n₀∧Bb≠S) (l3:Ba<n₀∧Ba≠S) (l4:b<n₀∧b≠S) (w:World) (hn₀:n₀≤w.heap.size)
  (c1:w.cell? ⟨Br,0,none⟩=some (.slice (some ⟨b,off,none⟩) (m+1) cap)) (c2:w.cell? ⟨Bb,0,none⟩=some (.int .i64 bv)) (c3:w.cell? ⟨Ba,0,none⟩=some (.int .i64 av)) (hC:Cells w b off X (m+1)) :
  SeqStopsK Fence.wide n Tryz.prog 209 #[.pointer (some ⟨Br,0,none⟩),.pointer (some ⟨Bb,0,none⟩),.pointer (some ⟨Ba,0,none⟩)] (fun x:Sh=>#[Value.int .i64 x.1.1,Value.int .i64 x.1.2]) (KpS n₀ S) (fun ys=>ys=sh X av bv m)
   (fun _=>True) m w:=fun l J Jx W hW _ _ hY h0=>
 zPd n hn l Br Bb Ba n₀ S b off m cap X av bv hX hm1 hm hcap ha hb hab l1 l2 l3 l4 J Jx hY W (keep hW zo c1) (keep hW zo c2) (keep hW zo c3) (hC.below hW) h0
theorem zPe (a b:Int) (ao:Option Addr) (n cap:Nat) (w:World):Calls Tryz.prog 191 #[a,b,.slice ao n cap] w fun e w'=>
  e=.returned (.func (.func 209) #[] #[.pointer (some ⟨w+2,0,none⟩),.pointer (some ⟨w+1,0,none⟩),.pointer (some ⟨w,0,none⟩)]) ∧
  w'=((w.alloc (.cells #[a] 3)).alloc (.cells #[b] 3)).alloc (.cells #[.slice ao n cap] 26):=by
 go_enter Tryz.func191,Tryz.ntmps191
 go_wp2
 go_ret
 exact⟨rfl,rfl⟩
end Go.Proofs.YtpfgdfpaoldhcaaGreatDoor
namespace Go.Proofs.YtpfgdfpaoldhcaaGreatDoor
open Go.RowKit Go.Shelf
attribute [local go_sem] Oper.semAt_some
theorem zqhip {P:Prop} (h:P:=by
 intro w2 H
 obtain⟨cz0,cz1⟩:=H.cells2 (w+2)
 obtain⟨fz0,fz1⟩:=H.frozens2 (w+2)
 have lz:=zA0 cz0
 have lz0:=Nat.lt_trans (show w.heap.size<w.heap.size+2 by omega) lz
 have lz1:=Nat.lt_trans (show w.heap.size+1<w.heap.size+2 by omega) lz
 have HK:=H.old
 clear H
 go_wp2_with fail
 exact bodyPost_ret (v:=.tuple #[.agg #[(0:Int),(0:Int)],(1:Int)]) (by simp[results,Tryz.results159,go_sem,cz0,cz1,lz]) rfl ⟨rfl,by repeat (first | exact HK | refine Below.drew ?_ | refine Below.setCell ?_ zw _ | refine Below.alloc ?_ zw _)⟩):P:=h
theorem zOk (an ad bn bd:Int) (w:World) (h:¬(zAi an ad=true∧zAi bn bd=true)) :
  Calls Tryz.prog 159 #[.agg #[an,ad],.agg #[bn,bd]] w fun e w'=>e=.returned (.tuple #[.agg #[(0:Int),(0:Int)],(1:Int)])∧Below w w w':=by
 have H:=Held.start w
 by_cases h1:zAi an ad=true
 ·have h2:zAi bn bd=false:=by cases k:zAi bn bd;rfl;exact absurd ⟨h1,k⟩ h
  have R1:=zh (fun v=>zIs an ad true v h1)
  have R2:=zh (fun v=>zIs bn bd false v h2)
  clear h h1 h2
  go_enter Tryz.func159,Tryz.ntmps159
  go_wp2_with fail
  replace H:=((H.pair w an ad 48 rfl).pair (w+1) bn bd 48 zs).pair (w+2) (0:Int) (0:Int) 48 zs
  revert H
  with_reducible refine zG (fun _=>R1.out _) ?_
  intro w1 H
  obtain⟨cb0,cb1⟩:=H.cells2 (w+1)
  have lb:=zA0 cb0
  have lb0:=Nat.lt_trans (show w.heap.size<w.heap.size+1 by omega) lb
  go_wp2_with fail
  clear cb0 cb1 lb lb0
  revert H
  with_reducible refine zG (fun _=>R2.out _) ?_
  exact zqhip
 ·have h1':zAi an ad=false:=by cases k:zAi an ad;rfl;exact absurd k h1
  have R1:=zh (fun v=>zIs an ad false v h1')
  clear h h1 h1'
  go_enter Tryz.func159,Tryz.ntmps159
  go_wp2_with fail
  replace H:=((H.pair w an ad 48 rfl).pair (w+1) bn bd 48 zs).pair (w+2) (0:Int) (0:Int) 48 zs
  revert H
  with_reducible refine zG (fun _=>R1.out _) ?_
  exact zqhip
theorem radd_tot (an ad bn bd p q c:Int) (w:World) (hp:aN an ad bn bd=p) (hq:aD an ad bn bd=q) (hc:aE an ad bn bd=c) :
  Calls Tryz.prog 159 #[.agg #[an,ad],.agg #[bn,bd]] w fun e w'=>e=.returned (.tuple #[.agg #[p,q],c])∧Below w w w':=by
 unfold aN aD aE at *
 by_cases h:zAi an ad=true∧zAi bn bd=true
 ·rw[if_pos h] at hp hq hc
  exact zSi an ad bn bd p q c w h.1 h.2 ⟨hp,hq,hc⟩
 ·rw[if_neg h] at hp hq hc
  subst hp hq hc
  exact zOk an ad bn bd w h
theorem zLc (a b:Int) (ao:Option Addr) (n cap:Nat) (X:Nat→Int) (f p q c:Int) (w:World) (hF:Facts w) (hn:n≤100) (hR:RowAt w ao X n cap) (hI:IcIs X n f a b p q c) (hc:c≠0) :
  Calls Tryz.prog 160 #[a,b,.slice ao n cap,f] w fun e w'=>e=.returned (.tuple #[.agg #[(0:Int),(0:Int)],c])∧Below w w w':=by
 have H:=((Held.start w).add (f:=zBo) hF).add (f:=rowF ao X n cap) hR
 have C:=zh (fun v h1 h2=>zQf a b ao n cap X f p q c v h1 hn h2 hI)
 have CE:Hid ((c==0)=false):=zh (by simpa using hc)
 have CN:Hid ((c != 0)=true):=zh (by simpa using hc)
 have CC:=zh hc
 have CO:=zh (fun x v w h=>code_any c x v w h)
 clear hF hR hI hc
 go_enter Tryz.func160,Tryz.ntmps160
 go_wp2_with fail
 replace H:=(H.lone w f 3 rfl).pair (w+1) (0:Int) (0:Int) 48 zs
 with_reducible refine (C.out _ (H.facts) (H.row)).mono ?_
 rintro e w1 ⟨⟨c0,-⟩ | ⟨-,v,rfl⟩,hb⟩
 ·exact absurd c0 CC.out
 replace H:=H.below hb
 clear hb
 go_wp2_with fail
 revert H
 with_reducible refine zG (fun H=>CO.out _ _ _ (H.facts)) ?_
 intro w2 H
 have ce:=CE.out
 have cn:=CN.out
 obtain⟨cz0,cz1⟩:=H.cells2 (w+1)
 obtain⟨fz0,fz1⟩:=H.frozens2 (w+1)
 have lz:=zA0 cz0
 have lz0:=Nat.lt_trans (show w.heap.size<w.heap.size+1 by omega) lz
 have HK:=H.old
 clear H
 go_wp2_with fail
 exact bodyPost_ret (v:=.tuple #[.agg #[(0:Int),(0:Int)],c]) (by simp[results,Tryz.results160,go_sem,cz0,cz1,lz]) rfl ⟨rfl,by repeat (first | exact HK | refine Below.drew ?_ | refine Below.setCell ?_ zw _ | refine Below.alloc ?_ zw _)⟩
end Go.Proofs.YtpfgdfpaoldhcaaGreatDoor
namespace Go.Proofs.YtpfgdfpaoldhcaaGreatDoor
open Go.RowKit Go.Shelf
attribute [local go_sem] Oper.semAt_some
theorem zFc {W W':World} (h:Below W W W'):KeepsOthers W W':=
 ⟨h.size,fun k o hk _=>(h.block k (Array.getElem?_eq_some_iff.1 hk).1).trans hk⟩
def Pin (f:Int) (S F0 Br:Nat) (v:Value) (s:Int × Int) (W:World):Prop:=
 (W.cell? ⟨S,0,none⟩=some (.int .i64 s.1)∧W.cell? ⟨S,1,none⟩=some (.int .i64 s.2))∧(W.frozen? ⟨S,0,none⟩=false∧W.frozen? ⟨S,1,none⟩=false)∧W.cell? ⟨F0,0,none⟩=some (.int .i64 f) ∧
 (W.cell? ⟨F0+1,0,none⟩=some (.int .i64 0)∧W.cell? ⟨F0+1,1,none⟩=some (.int .i64 0))∧(W.frozen? ⟨F0+1,0,none⟩=false∧W.frozen? ⟨F0+1,1,none⟩=false)∧W.cell? ⟨Br,0,none⟩=some v
theorem pin_own (f:Int) (S F0 Br:Nat) (v:Value):Own (fun (pre:List Sh) W=>Pin f S F0 Br v (zDm f pre) W):=fun s A B row hs hg hr=>by
 obtain⟨⟨h1,h2⟩,⟨h3,h4⟩,h5,⟨h6,h7⟩,⟨h8,h9⟩,h10⟩:=hs
 exact⟨⟨cell_kept h1 hg hr,cell_kept h2 hg hr⟩,⟨(frozen_kept h1 hg hr).trans h3,(frozen_kept h2 hg hr).trans h4⟩,cell_kept h5 hg hr,⟨cell_kept h6 hg hr,cell_kept h7 hg hr⟩,⟨(frozen_kept h6 hg hr).trans h8,(frozen_kept h7 hg hr).trans h9⟩,cell_kept h10 hg hr⟩
theorem part_yes (a b:Int) (B off m cap:Nat) (X:Nat→Int) (f p q:Int) (w:World) (hF:Facts w) (hm1:1≤m) (hm:m<100) (hcap:m+1≤cap) (hC:Cells w B off X (m+1)) (hI:IcIs X (m+1) f a b p q 0)
  (hX:Rising X (m+1)) (ha:1≤a∧a≤3652059) (hb:1≤b∧b≤3652059) (hab:a≤b) (hf:1≤f∧f≤12) (hs:zDm f (sh X a b m)=(p,q)) :
  Calls Tryz.prog 160 #[a,b,.slice (some ⟨B,off,none⟩) (m+1) cap,f] w fun e w'=>e=.returned (.tuple #[.agg #[p,q],(0:Int)])∧Below w w w':=by
 have hBw:=hC.lt zo
 have H:=((Held.start w).add (f:=zBo) hF).add (f:=zDy B off X (m+1)) hC
 have H0:=H
 have C:=zh (fun v h1 (h2:Cells v B off X (m+1))=>zQf a b (some ⟨B,off,none⟩) (m+1) cap X f p q 0 v h1 zo ⟨hcap,fun _=>⟨B,off,rfl,h2⟩⟩ hI)
 have CO:=zh (fun w=>code_nil w)
 have ST:=zh (fun Br Bb Ba n₀ S l1 l2 l3 l4 w hn c1 c2 c3 hC=>zKc (4-1) zo Br Bb Ba n₀ S B off m cap X a b hX hm1 hm hcap ha hb hab l1 l2 l3 l4 w hn c1 c2 c3 hC)
 have SH:=zh (fun w=>zPe a b (some ⟨B,off,none⟩) (m+1) cap w)
 have HS:=zh hs
 have SI:=zh (sum_in f)
 clear hF hC hI hs hX H
 have H:=H0
 clear H0
 refine (callsIn_wide (n:=4)).1 ?_
 refine callsIn_of_wp_marks Tryz.func160 rfl trivial ?_ rfl
 simp only[Tryz.ntmps160,List.size_toArray,List.length_cons,List.length_nil,Nat.reduceAdd,Nat.reduceSub,Array.replicate_succ,Array.replicate_zero,List.push_toArray,List.append_toArray,List.nil_append,List.cons_append]
 gi_wp2_with fail
 replace H:=(H.lone w f 3 rfl).pair (w+1) (0:Int) (0:Int) 48 zs
 refine⟨trivial,?_⟩
 refine (callsIn_wide.2 (C.out _ (H.facts) (H.cells))).mono ?_
 rintro e w1 ⟨⟨-,rfl⟩ | ⟨c0,-⟩,hb⟩
 rotate_left
 ·exact absurd rfl c0
 replace H:=H.below hb
 clear hb
 gi_wp2_with fail
 refine⟨trivial,?_⟩
 refine (callsIn_wide.2 (CO.out _)).mono ?_
 rintro e w2 ⟨rfl,hb⟩
 replace H:=H.below hb
 clear hb
 have cf:=H.cell w 0 _
 gi_wp2_with fail
 refine⟨trivial,?_⟩
 refine (callsIn_wide.2 (SH.out _)).mono ?_
 rintro e w3 ⟨rfl,rfl⟩
 gi_wp2_with fail
 have HH:=((((H.pair w2 (0:Int) (1:Int) 48 rfl).lone (w2+1) a 3 zs).lone (w2.heap.size+1+1) b 3 zs).lone (w2.heap.size+1+2) (.slice (some ⟨B,off,none⟩) (m+1) cap) 26 zs)
 obtain⟨S,hS⟩:∃S,w2.heap.size=S:=⟨_,rfl⟩
 have hSw:=H.old.size
 have lz:=H.lt (w+1) 0 (0:Int)
 rw[hS] at HH lz hSw ⊢
 obtain⟨W0,hW0⟩:∃W0,(((w2.alloc (.cells #[(0:Int),(1:Int)] 48)).alloc (.cells #[a] 3)).alloc (.cells #[b] 3)).alloc (.cells #[.slice (some ⟨B,off,none⟩) (m+1) cap] 26)=W0:=⟨_,rfl⟩
 have hsz:W0.heap.size=S+4:=by rw[←hW0];simp[hS]
 rw[hW0] at HH ⊢
 clear hW0 hS H cf
 have hx:∀pre (W:World),Pin f S w.heap.size (S+1+2) (.slice (some ⟨B,off,none⟩) (m+1) cap) (zDm f pre) W∧Below w w W→S+4≤W.heap.size:=fun pre W h=>by
  have:=zA0 h.1.2.2.2.2.2
  omega
 refine wpIn_rangeFunc_ownG rfl zo (gf:=209) (lb:=#[.pointer (some ⟨S+1+2,0,none⟩),.pointer (some ⟨S+1+1,0,none⟩),.pointer (some ⟨S+1,0,none⟩)]) rfl trivial (enters_of Tryz.func209 zk rfl)
  (ST.out (S+1+2) (S+1+1) (S+1) (S+4) S zo zo zo zo W0 zo (HH.cell _ _ _) (HH.cell _ _ _) (HH.cell _ _ _) (HH.cells)) (fun h k=>h.trans k)
  (fun W l o o' hl h _ _=>KpS.of_below ((Below.refl (S+4) W).grown (grownBy_putObj' W l o') (by have:=(Array.getElem?_eq_some_iff.1 h).1;omega) (fun k e=>by cases e;omega)) (Nat.le_refl _))
  (Below.refl _ _) (fun _=>rfl)
  (fun pre W=>Pin f S w.heap.size (S+1+2) (.slice (some ⟨B,off,none⟩) (m+1) cap) (zDm f pre) W∧Below w w W)
  (fun _ _ _=>False)
  (OwnFrom.and (Own.from (pin_own _ _ _ _ _) _) (ownFrom_below (Nat.le_refl _) zo))
  (fun _ _ _ _ _ hs _ _=>hs)
  ⟨⟨⟨show W0.cell? ⟨S,0,none⟩=some (.int .i64 0) from HH.cell S 0 (0:Int),show W0.cell? ⟨S,1,none⟩=some (.int .i64 1) from HH.cell S 1 (1:Int)⟩,⟨HH.frozen _ _,HH.frozen _ _⟩,HH.c,⟨HH.c,HH.c⟩,⟨HH.frozen _ _,HH.frozen _ _⟩,HH.c⟩,HH.old⟩
  (fun x=>{ tmps:=#[.int .i64 a,.int .i64 b,.slice (some ⟨B,off,none⟩) (m+1) cap,.int .i64 f,undef,undef,undef,.pointer (some ⟨w.heap.size,0,none⟩),.pointer (some ⟨w.heap.size+1,0,none⟩),.int .i64 0,.int .i64 0,.pointer (some ⟨S,0,none⟩),.int .i64 x.1.1,.int .i64 x.1.2,undef,undef,.int .i64 a,.int .i64 b,.slice (some ⟨B,off,none⟩) (m+1) cap,.int .i64 f,.nilIface,.int .i64 0,.int .i64 0,.bool false,undef,undef,.agg #[.int .i64 0,.int .i64 1],.int .i64 a,.int .i64 b,.slice (some ⟨B,off,none⟩) (m+1) cap,.func (.func 209) #[] #[.pointer (some ⟨S+1+2,0,none⟩),.pointer (some ⟨S+1+1,0,none⟩),.pointer (some ⟨S+1,0,none⟩)],.int .i64 x.1.1,.int .i64 x.1.2,undef,undef,undef,undef,undef,undef,undef,undef,undef,undef,undef,undef,undef,undef,undef],defers:=[] }) ?assign ?body ?done ?stop
 case assign=>
  intro l x W K hK
  gi_wp2
  exact hK
 case body=>
  rintro l pre x W ⟨hP,hB⟩ _
  have hz:=hx pre W ⟨hP,hB⟩
  have bd:=zG2 f x hf
  have xb:=x.2
  obtain⟨p1,P1⟩:∃p1,Hid (rN x.1.1 (f*x.1.2)=p1):=⟨_,zh rfl⟩
  obtain⟨q1,Q1⟩:∃q1,Hid (rD x.1.1 (f*x.1.2)=q1):=⟨_,zh rfl⟩
  obtain⟨e1,E1⟩:∃e1,Hid (rE x.1.1 (f*x.1.2)=e1):=⟨_,zh rfl⟩
  obtain⟨s0,S0⟩:∃s0,Hid ((zDm f pre).1=s0):=⟨_,zh rfl⟩
  obtain⟨s1,S1⟩:∃s1,Hid ((zDm f pre).2=s1):=⟨_,zh rfl⟩
  obtain⟨p2,P2⟩:∃p2,Hid (aN s0 s1 p1 q1=p2):=⟨_,zh rfl⟩
  obtain⟨q2,Q2⟩:∃q2,Hid (aD s0 s1 p1 q1=q2):=⟨_,zh rfl⟩
  obtain⟨e2,E2⟩:∃e2,Hid (aE s0 s1 p1 q1=e2):=⟨_,zh rfl⟩
  have FIN:Hid ((zDm f (pre++[x])).1=p2∧(zDm f (pre++[x])).2=q2):=zh (by rw[zFg];unfold add1;dsimp only;rw[P1.out,Q1.out,S0.out,S1.out,P2.out,Q2.out];exact⟨rfl,rfl⟩)
  have NW:=zh (fun v=>zN6 x.1.1 (f*x.1.2) p1 q1 e1 v zo zo zo zo ⟨P1.out,Q1.out,E1.out⟩)
  have AD:=zh (fun v=>radd_tot s0 s1 p1 q1 p2 q2 e2 v P2.out Q2.out E2.out)
  obtain⟨⟨h1,h2⟩,⟨h3,h4⟩,h5,⟨h6,h7⟩,⟨h8,h9⟩,h10⟩:=hP
  rw[S0.out] at h1
  rw[S1.out] at h2
  have G:=((((((((((Held.start W).add (f:=.cell S 0 _) h1).add (f:=.cell S 1 _) h2).add (f:=.free S 0) ⟨zA0 h1,h3⟩).add (f:=.free S 1) ⟨zA0 h1,h4⟩).add (f:=.cell w.heap.size 0 _) h5).add (f:=.cell (w+1) 0 _) h6).add (f:=.cell (w+1) 1 _) h7).add (f:=.free (w+1) 0) ⟨zA0 h6,h8⟩).add (f:=.free (w+1) 1) ⟨zA0 h6,h9⟩).add (f:=.cell (S+1+2) 0 _) h10
  clear h1 h2 h3 h4 h6 h7 h8 h9 h10 hx HH ST SH CO SI HS P1 Q1 E1 S0 S1 P2 Q2 E2
  gi_wp2_with fail
  refine⟨trivial,?_⟩
  refine (CallsIn.inRound l (callsIn_wide.2 (NW.out _))).mono ?_
  rintro e w3 ⟨rfl,hb⟩
  replace G:=G.below hb
  clear hb
  obtain⟨cs0,cs1⟩:=G.cells2 S
  have ls:=zA0 cs0
  gi_wp2_with fail
  clear cs0 cs1 ls
  replace G:=G.pair w3.heap.size (.int .i64 p1) (.int .i64 q1) 48 rfl
  refine⟨trivial,?_⟩
  refine (CallsIn.inRound l (callsIn_wide.2 (AD.out _))).mono ?_
  rintro e w4 ⟨rfl,hb⟩
  replace G:=G.below hb
  clear hb
  obtain⟨cs0,cs1⟩:=G.cells2 S
  obtain⟨fs0,fs1⟩:=G.frozens2 S
  gi_wp2_with fail
  have d0:S≠w.heap.size:=zo
  have d1:S≠w.heap.size+1:=zo
  have d2:S≠S+1+2:=zo
  have GO:=G.old
  refine⟨(((zFc GO).trans (KeepsOthers.setCell _ _ _)).trans (KeepsOthers.setCell _ _ _)).from _,fun k hk hkS=>?_,⟨⟨?_,?_⟩,⟨?_,?_⟩,?_,⟨?_,?_⟩,⟨?_,?_⟩,?_⟩,?_⟩
  ·rw[Below.heap_setCell _ _ _ _ (fun h=>hkS h),Below.heap_setCell _ _ _ _ (fun h=>hkS h)]
   exact GO.block k zo
  ·rw[FIN.out.1,World.cell?_setCell_other _ _ _ _ zs]
   exact World.cell?_setCell_same' _ _ _ (by rw[cs0];rfl)
  ·rw[FIN.out.2]
   exact World.cell?_setCell_same' _ _ _ (by rw[World.cell?_setCell_other _ _ _ _ zs,cs1];rfl)
  ·rw[World.frozen?_setCell,World.frozen?_setCell];exact fs0
  ·rw[World.frozen?_setCell,World.frozen?_setCell];exact fs1
  ·rw[World.cell?_setCell_far _ _ _ _ d0,World.cell?_setCell_far _ _ _ _ d0];exact G.cell _ _ _
  ·rw[World.cell?_setCell_far _ _ _ _ d1,World.cell?_setCell_far _ _ _ _ d1];exact G.cell _ _ _
  ·rw[World.cell?_setCell_far _ _ _ _ d1,World.cell?_setCell_far _ _ _ _ d1];exact G.cell _ _ _
  ·rw[World.frozen?_setCell,World.frozen?_setCell];exact G.frozen _ _
  ·rw[World.frozen?_setCell,World.frozen?_setCell];exact G.frozen _ _
  ·rw[World.cell?_setCell_far _ _ _ _ d2,World.cell?_setCell_far _ _ _ _ d2];exact G.cell _ _ _
  ·exact ((hB.trans (GO.mono hB.size)).setCell zx _).setCell zx _
 case done=>
  rintro D ys W hD rfl ⟨hP,hB⟩ hK
  rw[HS.out] at hP
  obtain⟨⟨h1,h2⟩,⟨h3,h4⟩,h5,⟨h6,h7⟩,⟨h8,h9⟩,h10⟩:=hP
  have l6:=zA0 h6
  gi_wp2
  have hK':=((KeepsOthers.setCell W ⟨w+1,0,none⟩ p).trans (KeepsOthers.setCell _ ⟨w+1,1,none⟩ q)).same D _ hK rfl
  refine⟨zs,.inl ⟨_,_,rfl,run_takeDeferred hK',?_⟩⟩
  have e6:((W.setCell ⟨w+1,0,none⟩ p).setCell ⟨w+1,1,none⟩ q).cell? ⟨w+1,0,none⟩=some (.int .i64 p):=by
   rw[World.cell?_setCell_other _ _ _ _ zs]
   exact World.cell?_setCell_same' _ _ _ (by rw[h6];rfl)
  have e7:((W.setCell ⟨w+1,0,none⟩ p).setCell ⟨w+1,1,none⟩ q).cell? ⟨w+1,1,none⟩=some (.int .i64 q):=
   World.cell?_setCell_same' _ _ _ (by rw[World.cell?_setCell_other _ _ _ _ zs,h7];rfl)
  have k6:=cell_kept e6 (grownBy_putObj' _ D (.deferred none)) (fun r e=>by cases e;exact⟨_,hK',rfl⟩)
  have k7:=cell_kept e7 (grownBy_putObj' _ D (.deferred none)) (fun r e=>by cases e;exact⟨_,hK',rfl⟩)
  refine⟨.tuple #[.agg #[p,q],(0:Int)],?_,rfl,((hB.setCell zs _).setCell zs _).trans (belowK_b (w:=w) (Nat.le_refl _) _ D _ _ zo hK' rfl rfl)⟩
  simp[results,Tryz.results160,go_sem,k6,k7]
 case stop=>
  rintro D c pre W _ _ h _
  exact h.elim
end Go.Proofs.YtpfgdfpaoldhcaaGreatDoor
namespace Go.Proofs.YtpfgdfpaoldhcaaGreatDoor
end Go.Proofs.YtpfgdfpaoldhcaaGreatDoor
namespace Go.Proofs.YtpfgdfpaoldhcaaGreatDoor
open Go.RowKit
theorem ipart_is (a b:Int) (ao:Option Addr) (n cap:Nat) (X:Nat→Int) (f p q c:Int) (w:World) (hF:Facts w) (hn:n≤100) (hR:RowAt w ao X n cap) (hI:IcIs X n f a b p q c) :
  Calls Tryz.prog 160 #[a,b,.slice ao n cap,f] w fun e w'=>e=.returned (.tuple #[.agg #[p,q],c])∧Below w w w':=by
 have hI0:=hI
 rcases hI with⟨h1,rfl,rfl,rfl⟩ | ⟨h1,h2,rfl,rfl,rfl⟩ | ⟨h1,h2,h3,rfl,rfl,rfl⟩ | ⟨h1,h2,⟨hm,h4,h5⟩,hp,hq,rfl⟩
 ·exact zLc a b ao n cap X f 0 0 3 w hF hn hR hI0 zd
 ·exact zLc a b ao n cap X f 0 0 4 w hF hn hR hI0 zd
 ·exact zLc a b ao n cap X f 0 0 5 w hF hn hR hI0 zd
 ·have h6:=hm.1
  obtain⟨B,off,rfl,hC⟩:=hR.2 zo
  obtain⟨m,rfl⟩:∃m,n=m+1:=⟨n-1,zo⟩
  rw[Nat.add_sub_cancel] at hp hq
  refine part_yes a b B off m cap X f p q w hF zo zo hR.1 hC hI0 hm.2.2.2.1 h1.1 h1.2 h2 hm.2.2.1 ?_
  rw[sum_is X f a b hm.2.2.1 h2 m hm.2.2.2.1 zo,hp,hq]
end Go.Proofs.YtpfgdfpaoldhcaaGreatDoor
