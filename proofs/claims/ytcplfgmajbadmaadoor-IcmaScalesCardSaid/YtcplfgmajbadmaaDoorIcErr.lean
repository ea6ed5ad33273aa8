/- What the errors of package icma, and errors.errorType, are while a call goes on; what errors.As tells of a refusal; the code of it. -/
import Derived.Test.YtcplfgmajbadmaaDoorProg
import Derived.Test.YtcplfgmajbadmaaDoorCBase
import Derived.Test.YtcplfgmajbadmaaDoorQuad
import Derived.LaidEql
import Derived.Stop.Asserts
import Derived.RowKitTokens
namespace Go.Proofs.YtcplfgmajbadmaaDoor
open Go.RowKit Go.Extern.Stop Go.Stop Go.Extern
set_option linter.unusedVariables false
set_option linter.unusedSimpArgs false

/-- All seven errors stand, and the handle of the type error. -/
def Errs (w : World) : Prop := w.cell? ⟨7, 0, none⟩ = some (.iface 127 (.agg #[.pointer (some ⟨11, 54, none⟩)])) ∧ ∃ (v0 v1 v2 v3 v4 v5 v6 : Value),
  w.cell? ⟨0, 0, none⟩ = some (.iface 148 v0) ∧ w.cell? ⟨1, 0, none⟩ = some (.iface 148 v1) ∧ w.cell? ⟨2, 0, none⟩ = some (.iface 148 v2) ∧ w.cell? ⟨3, 0, none⟩ = some (.iface 148 v3) ∧ w.cell? ⟨4, 0, none⟩ = some (.iface 148 v4) ∧ w.cell? ⟨5, 0, none⟩ = some (.iface 148 v5) ∧ w.cell? ⟨6, 0, none⟩ = some (.iface 148 v6)
theorem Errs.below {W W' : World} (h : Errs W) (hb : Below W.heap.size W W') : Errs W' := by
  obtain ⟨ht, v0, v1, v2, v3, v4, v5, v6, h0, h1, h2, h3, h4, h5, h6⟩ := h
  exact ⟨keep hb (cell_lt ht) ht, v0, v1, v2, v3, v4, v5, v6, keep hb (cell_lt h0) h0, keep hb (cell_lt h1) h1, keep hb (cell_lt h2) h2, keep hb (cell_lt h3) h3, keep hb (cell_lt h4) h4, keep hb (cell_lt h5) h5, keep hb (cell_lt h6) h6⟩
def errF : Fact := .that Errs (fun _ _ hb h => h.below hb)
/-- What stands in the memory, whatever is made: civil's table, and the errors. -/
def Facts (w : World) : Prop := Lens w ∧ Errs w
theorem Facts.below {W W' : World} (h : Facts W) (hb : Below W.heap.size W W') : Facts W' := ⟨h.1.below hb, h.2.below hb⟩
def factsF : Fact := .that Facts (fun _ _ hb h => h.below hb)
theorem Held.facts {w W : World} {fs : List Fact} (h : Held w fs W) (hm : factsF ∈ fs) : Facts W := h.all _ hm

/-- errors.As(nil, target). -/
theorem as_nil (t : Value) (w : World) :
    Calls Tryd.prog 30 #[.nilIface, t] w fun e w' => e = .returned (.bool false) ∧ w' = w := by
  go_enter Tryd.func30, Tryd.ntmps30
  go_wp2
  go_ret
  exact ⟨rfl, rfl⟩

/-! Closed facts on the model's entries, at this program's types. -/
theorem asValueOfP (t : Addr) (w : World) : (ReflectliteValue.unpack (.iface 76 (.pointer (some t)))).run Tryd.prog w
    = .ok (.agg #[.pointer (some ⟨11, 76, none⟩), .pointer (some ⟨w.heap.size, 0, none⟩), .int .u64 150]) (w.alloc (.cells #[.pointer (some t)] 76)) := by kernel_rfl
theorem asTypeP (a : Addr) (w : World) : (ReflectliteValue.methodAny (ReflectliteValue.valueError "reflectlite.Value.Type" 0) (fun t _ _ _ => ReflectliteType.toType t) #[.agg #[.pointer (some ⟨11, 76, none⟩), .pointer (some a), .int .u64 150]]).run Tryd.prog w
    = .ok (.iface 127 (.agg #[.pointer (some ⟨11, 76, none⟩)])) w := by kernel_rfl
theorem asMethodKind (h : Value) (w : World) : (Go.method 281 127 (.agg #[h]) "Kind").run Tryd.prog w = .ok (97, h) w := by kernel_rfl
theorem asKindP (w : World) : ((ReflectliteType.abiMethod fun t => (fun a : Nat => Value.int IntKind.u8 (a : Int)) <$> Rtype.kind t) #[.pointer (some ⟨11, 76, none⟩)]).run Tryd.prog w = .ok (.int .u8 22) w := by kernel_rfl
theorem asKindR (w : World) : ((ReflectliteType.abiMethod fun t => (fun a : Nat => Value.int IntKind.u8 (a : Int)) <$> Rtype.kind t) #[.pointer (some ⟨11, 74, none⟩)]).run Tryd.prog w = .ok (.int .u8 25) w := by kernel_rfl
theorem asRlm (z : Sem Value) (f : TypeId → Addr → Nat → Nat → Sem Value) (v : Value) :
    ReflectliteValue.method z f #[v] = (do match ← ReflectliteValue.parts v with | none => z | some (t, a, fl) => f t a fl (fl % 32)) := rfl
theorem asPartsP (a : Addr) (w : World) : (ReflectliteValue.parts (.agg #[.pointer (some ⟨11, 76, none⟩), .pointer (some a), .int .u64 150])).run Tryd.prog w = .ok (some (76, a, 150)) w := by kernel_rfl
theorem asIsNil (a p : Addr) (W : World) (ha : W.cell? a = some (.pointer (some p))) :
    (ReflectliteValue.method (ReflectliteValue.valueError "reflectlite.Value.IsNil" 0) ReflectliteValue.isNil #[.agg #[.pointer (some ⟨11, 76, none⟩), .pointer (some a), .int .u64 150]]).run Tryd.prog W = .ok (.bool false) W := by
  rw [asRlm]
  simp only [Sem.run_bind, asPartsP, Result.andThen]
  simp [ReflectliteValue.isNil, loadVar, isAgg, underlying, Tryd.underlying76, ha, Result.andThen]
theorem asMethodElem (h : Value) (w : World) : (Go.method 281 127 (.agg #[h]) "Elem").run Tryd.prog w = .ok (108, .agg #[h]) w := by kernel_rfl
theorem asMethodImplements (h : Value) (w : World) : (Go.method 281 127 (.agg #[h]) "Implements").run Tryd.prog w = .ok (109, .agg #[h]) w := by kernel_rfl
theorem asMethodAssignableTo (h : Value) (w : World) : (Go.method 281 127 (.agg #[h]) "AssignableTo").run Tryd.prog w = .ok (106, .agg #[h]) w := by kernel_rfl
theorem asElemP (w : World) : (ReflectliteType.method ReflectliteType.elem #[.agg #[.pointer (some ⟨11, 76, none⟩)]]).run Tryd.prog w = .ok (.iface 127 (.agg #[.pointer (some ⟨11, 74, none⟩)])) w := by kernel_rfl
theorem asImplementsR (w : World) : (ReflectliteType.relation "Implements" ReflectliteType.implements_ #[.agg #[.pointer (some ⟨11, 74, none⟩)], .iface 127 (.agg #[.pointer (some ⟨11, 54, none⟩)])]).run Tryd.prog w = .ok (.bool true) w := by kernel_rfl
theorem asTypeOfR (v : Value) (w : World) : (ReflectliteType.typeOf #[.iface 74 v]).run Tryd.prog w = .ok (.iface 127 (.agg #[.pointer (some ⟨11, 74, none⟩)])) w := by kernel_rfl
theorem asAssignableR (w : World) : (ReflectliteType.relation "AssignableTo" ReflectliteType.assignableTo #[.agg #[.pointer (some ⟨11, 74, none⟩)], .iface 127 (.agg #[.pointer (some ⟨11, 74, none⟩)])]).run Tryd.prog w = .ok (.bool true) w := by kernel_rfl
theorem asValueOfR (c : Int) (x : TypeId) (v : Value) (w : World) : (ReflectliteValue.unpack (.iface 74 (.agg #[.int .i64 c, .iface x v]))).run Tryd.prog w
    = .ok (.agg #[.pointer (some ⟨11, 74, none⟩), .pointer (some ⟨w.heap.size, 0, none⟩), .int .u64 153]) (w.alloc (.cells #[.int .i64 c, .iface x v] 74)) := by kernel_rfl
theorem asElemOfP (w : World) : (Rtype.elem? 76).run Tryd.prog w = .ok (some 74) w := by kernel_rfl
theorem asMkR (p : Addr) (w : World) : (ReflectliteValue.mk 74 p ReflectliteValue.flagAddr).run Tryd.prog w = .ok (.agg #[.pointer (some ⟨11, 74, none⟩), .pointer (some p), .int .u64 409]) w := by kernel_rfl
theorem asElemV (a p : Addr) (W : World) (ha : W.cell? a = some (.pointer (some p))) :
    (ReflectliteValue.method (ReflectliteValue.valueError "reflectlite.Value.Elem" 0) ReflectliteValue.elem #[.agg #[.pointer (some ⟨11, 76, none⟩), .pointer (some a), .int .u64 150]]).run Tryd.prog W
      = .ok (.agg #[.pointer (some ⟨11, 74, none⟩), .pointer (some p), .int .u64 409]) W := by
  rw [asRlm]
  simp only [Sem.run_bind, asPartsP, Result.andThen]
  simp [ReflectliteValue.elem, loadVar, isAgg, underlying, Tryd.underlying76, ha, Result.andThen, asElemOfP, asMkR]
theorem asRls (v x : Value) : ReflectliteValue.set #[v, x] = (do
    let (some (dst, a, fl), some (src, b, _)) := (← ReflectliteValue.parts v, ← ReflectliteValue.parts x)
      | unsupported (.noEntry "extern/(internal/reflectlite.Value).Set.zeroValue")
    if fl / ReflectliteValue.flagAddr % 2 == 0 then unsupported (.noEntry "extern/(internal/reflectlite.Value).Set.unaddressable")
    let val ← loadVar src b
    if ← Rtype.directlyAssignable dst src then storeVar dst a val
    else if ← Rtype.implements dst src then
      if (← Rtype.kind src) == 20 then
        match val with
        | .nilIface => unsupported (.noEntry "extern/reflectlite: a nil value of one interface type handed on as a value of another")
        | _ => storeVar dst a val
      else storeVar dst a (.iface src val)
    else panicString ("reflectlite.Set: value of type " ++ (← Rtype.spelt src) ++ " is not assignable to type " ++ (← Rtype.spelt dst))
    pure (.tuple #[])) := rfl
theorem asPartsRa (a : Addr) (w : World) : (ReflectliteValue.parts (.agg #[.pointer (some ⟨11, 74, none⟩), .pointer (some a), .int .u64 409])).run Tryd.prog w = .ok (some (74, a, 409)) w := by kernel_rfl
theorem asPartsR (a : Addr) (w : World) : (ReflectliteValue.parts (.agg #[.pointer (some ⟨11, 74, none⟩), .pointer (some a), .int .u64 153])).run Tryd.prog w = .ok (some (74, a, 153)) w := by kernel_rfl
theorem asDirectR (w : World) : (Rtype.directlyAssignable 74 74).run Tryd.prog w = .ok true w := by kernel_rfl
theorem asSizeR (w : World) : (sizeOf 74).run Tryd.prog w = .ok 2 w := by kernel_rfl
end Go.Proofs.YtcplfgmajbadmaaDoor
