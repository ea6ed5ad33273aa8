/- What the four errors of package terms, and errors.errorType, are while a call goes on; what errors.Is tells of one, wrapped by a refusal; what errors.As tells of a refusal. -/
import Derived.Test.YtjijgcgbnmobfaaGreatDoorProg
import Derived.Test.YtjijgcgbnmobfaaGreatDoorCBase
import Derived.LaidEql
import Derived.Stop.Asserts
import Derived.RowKitTokens
namespace Go.Proofs.YtjijgcgbnmobfaaGreatDoor
open Go.RowKit Go.Extern.Stop Go.Stop Go.Extern
set_option linter.unusedVariables false
set_option linter.unusedSimpArgs false

/-- All four errors stand, apart from each other, and the handle of the type error. -/
def ErrT (a0 a1 a2 a3 : Addr) (w : World) : Prop := w.cell? ⟨4, 0, none⟩ = some (.iface 123 (.agg #[.pointer (some ⟨19, 72, none⟩)])) ∧
  ∃ (c0 c1 c2 c3 : Array Value) (t0 t1 t2 t3 : TypeId),
  (w.cell? ⟨0, 0, none⟩ = some (.iface 210 (.pointer (some a0))) ∧ w.cell? ⟨1, 0, none⟩ = some (.iface 210 (.pointer (some a1))) ∧ w.cell? ⟨2, 0, none⟩ = some (.iface 210 (.pointer (some a2))) ∧ w.cell? ⟨3, 0, none⟩ = some (.iface 210 (.pointer (some a3)))) ∧
  (a0 ≠ a1 ∧ a0 ≠ a2 ∧ a0 ≠ a3 ∧ a1 ≠ a2 ∧ a1 ≠ a3 ∧ a2 ≠ a3) ∧
  w.heap[a0.block]? = some (.cells c0 t0 (0, 0)) ∧ w.heap[a1.block]? = some (.cells c1 t1 (0, 0)) ∧ w.heap[a2.block]? = some (.cells c2 t2 (0, 0)) ∧ w.heap[a3.block]? = some (.cells c3 t3 (0, 0))
theorem row_lt {W : World} {b : Nat} {o : Obj} (h : W.heap[b]? = some o) : b < W.heap.size := by
  rcases Nat.lt_or_ge b W.heap.size with k | k
  · exact k
  · rw [Array.getElem?_eq_none k] at h; cases h
theorem ErrT.below {a0 a1 a2 a3 : Addr} {W W' : World} (h : ErrT a0 a1 a2 a3 W) (hb : Below W.heap.size W W') : ErrT a0 a1 a2 a3 W' := by
  obtain ⟨hg, c0, c1, c2, c3, t0, t1, t2, t3, ⟨h0, h1, h2, h3⟩, hne, r0, r1, r2, r3⟩ := h
  exact ⟨keep hb (cell_lt hg) hg, c0, c1, c2, c3, t0, t1, t2, t3, ⟨keep hb (cell_lt h0) h0, keep hb (cell_lt h1) h1, keep hb (cell_lt h2) h2, keep hb (cell_lt h3) h3⟩, hne, (hb.block _ (row_lt r0)).trans r0, (hb.block _ (row_lt r1)).trans r1, (hb.block _ (row_lt r2)).trans r2, (hb.block _ (row_lt r3)).trans r3⟩
def ErrsT (w : World) : Prop := ∃ a0 a1 a2 a3, ErrT a0 a1 a2 a3 w
theorem ErrsT.below {W W' : World} (h : ErrsT W) (hb : Below W.heap.size W W') : ErrsT W' := by
  obtain ⟨a0, a1, a2, a3, h⟩ := h; exact ⟨a0, a1, a2, a3, h.below hb⟩
/-- The fact that they stand. -/
def errTF (a0 a1 a2 a3 : Addr) : Fact := .that (ErrT a0 a1 a2 a3) (fun _ _ hb h => h.below hb)
theorem Held.errT {w W : World} {fs : List Fact} {a0 a1 a2 a3 : Addr} (h : Held w fs W) (hm : errTF a0 a1 a2 a3 ∈ fs) : ErrT a0 a1 a2 a3 W := h.all _ hm

/-! What 'reflectlite.TypeOf(target).Comparable()' gives at such a target; what errors.is's assertions find. -/
theorem isTypeOf (v : Value) (w : World) : (Extern.ReflectliteType.typeOf #[.iface 210 v]).run Tryz.prog w = .ok (.iface 123 (.agg #[.pointer (some ⟨19, 210, none⟩)])) w := by kernel_rfl
theorem callComparable (w : World) : (callFunc 166 #[.agg #[.pointer (some ⟨19, 210, none⟩)]]).run Tryz.prog w = .ok (.value (.bool true)) w :=
  (run_callFunc_extern (e := Extern.ReflectliteType.method fun t => do Extern.Rtype.noPackHeld "Comparable" t; pure (Value.bool (← typeInfo t).comparable)) Tryz.func166 (by kernel_rfl) (by kernel_rfl) (by kernel_rfl) (by kernel_rfl) _ w).trans (by kernel_rfl)
theorem isMethodComparable (v : Value) (w : World) : (Go.method 342 123 v "Comparable").run Tryz.prog w = .ok (166, v) w := by kernel_rfl
theorem isComp : (Tryz.prog.info? 210).map (·.comparable) = some true := by kernel_rfl
theorem isSize : (Tryz.prog.info? 231).map (·.size) = some 1 := by kernel_rfl
theorem noIsE (v : Value) (xT : TypeId) (w : World) : (Instr.typeAssert (.iface 210 v) xT 140 true).run Tryz.prog w = .ok (.tuple #[.nilIface, .bool false]) w := run_typeAssert_lacksB Tryz.underlying140 (by kernel_rfl) (by kernel_rfl) v xT w
theorem noUnwrapE (v : Value) (xT : TypeId) (w : World) : (Instr.typeAssert (.iface 210 v) xT 131 true).run Tryz.prog w = .ok (.tuple #[.nilIface, .bool false]) w := run_typeAssert_lacksB Tryz.underlying131 (by kernel_rfl) (by kernel_rfl) v xT w
theorem noUnwrapsE (v : Value) (xT : TypeId) (w : World) : (Instr.typeAssert (.iface 210 v) xT 133 true).run Tryz.prog w = .ok (.tuple #[.nilIface, .bool false]) w := run_typeAssert_lacksB Tryz.underlying133 (by kernel_rfl) (by kernel_rfl) v xT w
theorem noIsR (v : Value) (xT : TypeId) (w : World) : (Instr.typeAssert (.iface 83 v) xT 140 true).run Tryz.prog w = .ok (.tuple #[.nilIface, .bool false]) w := run_typeAssert_lacksB Tryz.underlying140 (by kernel_rfl) (by kernel_rfl) v xT w
theorem hasUnwrapR (v : Value) (xT : TypeId) (w : World) : (Instr.typeAssert (.iface 83 v) xT 131 true).run Tryz.prog w = .ok (.tuple #[.iface 83 v, .bool true]) w := run_typeAssert_hasB Tryz.underlying131 (by kernel_rfl) v xT w
theorem methodUnwrapR (v : Value) (w : World) : (Go.method 342 83 v "Unwrap").run Tryz.prog w = .ok (160, v) w := by kernel_rfl

/-- The error behind a refusal. -/
theorem unwrap_any (s : ByteArray) (e : Value) (w : World) : Calls Tryz.prog 160 #[.agg #[.string s, e]] w fun r w' => r = .returned e ∧ Below w.heap.size w w' := by
  go_enter Tryz.func160, Tryz.ntmps160
  go_wp2
  go_ret
  exact ⟨rfl, (Below.refl _ _).alloc (Nat.le_refl _) _⟩


set_option maxHeartbeats 1000000 in
/-- The very error, wrapped. -/
theorem is_yes (s : ByteArray) (a b : Addr) (w : World) (h : a = b) : Calls Tryz.prog 64 #[.iface 83 (.agg #[.string s, .iface 210 (.pointer (some a))]), .iface 210 (.pointer (some b))] w fun e w' => e = .returned (.bool true) ∧ Below w.heap.size w w' := by
  obtain ⟨i, hi, hcmp⟩ := Option.map_eq_some_iff.1 isComp
  obtain ⟨j, hj, hjs⟩ := Option.map_eq_some_iff.1 isSize
  have hT := @run_callFunc_extern Tryz.prog 72 _ Extern.ReflectliteType.typeOf Tryz.func72 (by kernel_rfl) (by kernel_rfl) (by kernel_rfl) (by kernel_rfl)
  have hC := callComparable
  have tT := isTypeOf
  have mR := isMethodComparable
  have nE := noIsE
  have uE := noUnwrapE
  have vE := noUnwrapsE
  have nW := noIsR
  have uW := hasUnwrapR
  have mU := methodUnwrapR
  subst h
  have heq := fun v => run_eql_iface_ptr_same (P := Tryz.prog) v a Tryz.underlying72 Tryz.underlying210 hi hcmp hj
  have hty := fun v => run_eql_iface_types (P := Tryz.prog) 83 210 (.agg #[.string s, .iface 210 (.pointer (some a))]) (.pointer (some a)) Tryz.underlying72 (by decide) v
  go_enter Tryz.func64, Tryz.ntmps64
  go_wp2
  refine wp_loop_rounds 2 ?_
  rw [rounds_succ]
  go_wp2
  rw [rounds_succ]
  go_wp2
  go_ret
  exact ⟨rfl, (Below.refl _ _).alloc (Nat.le_refl _) _⟩

set_option maxHeartbeats 1000000 in
/-- Another error, wrapped. -/
theorem is_no (s : ByteArray) (a b : Addr) (w : World) (ca cb : Array Value) (ta tb : TypeId) (hne : a ≠ b) (ha : w.heap[a.block]? = some (.cells ca ta (0, 0))) (hb : w.heap[b.block]? = some (.cells cb tb (0, 0))) : Calls Tryz.prog 64 #[.iface 83 (.agg #[.string s, .iface 210 (.pointer (some a))]), .iface 210 (.pointer (some b))] w fun e w' => e = .returned (.bool false) ∧ Below w.heap.size w w' := by
  obtain ⟨i, hi, hcmp⟩ := Option.map_eq_some_iff.1 isComp
  obtain ⟨j, hj, hjs⟩ := Option.map_eq_some_iff.1 isSize
  have hT := @run_callFunc_extern Tryz.prog 72 _ Extern.ReflectliteType.typeOf Tryz.func72 (by kernel_rfl) (by kernel_rfl) (by kernel_rfl) (by kernel_rfl)
  have hC := callComparable
  have tT := isTypeOf
  have mR := isMethodComparable
  have nE := noIsE
  have uE := noUnwrapE
  have vE := noUnwrapsE
  have nW := noIsR
  have uW := hasUnwrapR
  have mU := methodUnwrapR
  have B : Below w.heap.size w (w.alloc (.cells #[.string s, .iface 210 (.pointer (some a))] 83)) := (Below.refl _ _).alloc (Nat.le_refl _) _
  have heq := run_eql_iface_ptr_other (P := Tryz.prog) (w.alloc (.cells #[.string s, .iface 210 (.pointer (some a))] 83)) Tryz.underlying72 Tryz.underlying210 hi hcmp hj (by rw [hjs]; decide) hne ((B.block _ (row_lt ha)).trans ha) ((B.block _ (row_lt hb)).trans hb)
  clear B
  have hty := fun v => run_eql_iface_types (P := Tryz.prog) 83 210 (.agg #[.string s, .iface 210 (.pointer (some a))]) (.pointer (some b)) Tryz.underlying72 (by decide) v
  go_enter Tryz.func64, Tryz.ntmps64
  go_wp2
  refine wp_loop_rounds 2 ?_
  rw [rounds_succ]
  go_wp2
  rw [rounds_succ]
  go_wp2
  go_ret
  exact ⟨rfl, (Below.refl _ _).alloc (Nat.le_refl _) _⟩
/-- errors.As(nil, target). -/
theorem as_nil (t : Value) (w : World) :
    Calls Tryz.prog 48 #[.nilIface, t] w fun e w' => e = .returned (.bool false) ∧ w' = w := by
  go_enter Tryz.func48, Tryz.ntmps48
  go_wp2
  go_ret
  exact ⟨rfl, rfl⟩

/-! Closed facts on the model's entries, at this program's types. -/
theorem asValueOfP (t : Addr) (w : World) : (ReflectliteValue.unpack (.iface 85 (.pointer (some t)))).run Tryz.prog w
    = .ok (.agg #[.pointer (some ⟨19, 85, none⟩), .pointer (some ⟨w.heap.size, 0, none⟩), .int .u64 150]) (w.alloc (.cells #[.pointer (some t)] 85)) := by kernel_rfl
theorem asTypeP (a : Addr) (w : World) : (ReflectliteValue.methodAny (ReflectliteValue.valueError "reflectlite.Value.Type" 0) (fun t _ _ _ => ReflectliteType.toType t) #[.agg #[.pointer (some ⟨19, 85, none⟩), .pointer (some a), .int .u64 150]]).run Tryz.prog w
    = .ok (.iface 123 (.agg #[.pointer (some ⟨19, 85, none⟩)])) w := by kernel_rfl
theorem asMethodKind (h : Value) (w : World) : (Go.method 342 123 (.agg #[h]) "Kind").run Tryz.prog w = .ok (156, h) w := by kernel_rfl
theorem asKindP (w : World) : ((ReflectliteType.abiMethod fun t => (fun a : Nat => Value.int IntKind.u8 (a : Int)) <$> Rtype.kind t) #[.pointer (some ⟨19, 85, none⟩)]).run Tryz.prog w = .ok (.int .u8 22) w := by kernel_rfl
theorem asKindR (w : World) : ((ReflectliteType.abiMethod fun t => (fun a : Nat => Value.int IntKind.u8 (a : Int)) <$> Rtype.kind t) #[.pointer (some ⟨19, 83, none⟩)]).run Tryz.prog w = .ok (.int .u8 25) w := by kernel_rfl
theorem asRlm (z : Sem Value) (f : TypeId → Addr → Nat → Nat → Sem Value) (v : Value) :
    ReflectliteValue.method z f #[v] = (do match ← ReflectliteValue.parts v with | none => z | some (t, a, fl) => f t a fl (fl % 32)) := rfl
theorem asPartsP (a : Addr) (w : World) : (ReflectliteValue.parts (.agg #[.pointer (some ⟨19, 85, none⟩), .pointer (some a), .int .u64 150])).run Tryz.prog w = .ok (some (85, a, 150)) w := by kernel_rfl
theorem asIsNil (a p : Addr) (W : World) (ha : W.cell? a = some (.pointer (some p))) :
    (ReflectliteValue.method (ReflectliteValue.valueError "reflectlite.Value.IsNil" 0) ReflectliteValue.isNil #[.agg #[.pointer (some ⟨19, 85, none⟩), .pointer (some a), .int .u64 150]]).run Tryz.prog W = .ok (.bool false) W := by
  rw [asRlm]
  simp only [Sem.run_bind, asPartsP, Result.andThen]
  simp [ReflectliteValue.isNil, loadVar, isAgg, underlying, Tryz.underlying85, ha, Result.andThen]
theorem asMethodElem (h : Value) (w : World) : (Go.method 342 123 (.agg #[h]) "Elem").run Tryz.prog w = .ok (167, .agg #[h]) w := by kernel_rfl
theorem asMethodImplements (h : Value) (w : World) : (Go.method 342 123 (.agg #[h]) "Implements").run Tryz.prog w = .ok (168, .agg #[h]) w := by kernel_rfl
theorem asMethodAssignableTo (h : Value) (w : World) : (Go.method 342 123 (.agg #[h]) "AssignableTo").run Tryz.prog w = .ok (165, .agg #[h]) w := by kernel_rfl
theorem asElemP (w : World) : (ReflectliteType.method ReflectliteType.elem #[.agg #[.pointer (some ⟨19, 85, none⟩)]]).run Tryz.prog w = .ok (.iface 123 (.agg #[.pointer (some ⟨19, 83, none⟩)])) w := by kernel_rfl
theorem asImplementsR (w : World) : (ReflectliteType.relation "Implements" ReflectliteType.implements_ #[.agg #[.pointer (some ⟨19, 83, none⟩)], .iface 123 (.agg #[.pointer (some ⟨19, 72, none⟩)])]).run Tryz.prog w = .ok (.bool true) w := by kernel_rfl
theorem asTypeOfR (v : Value) (w : World) : (ReflectliteType.typeOf #[.iface 83 v]).run Tryz.prog w = .ok (.iface 123 (.agg #[.pointer (some ⟨19, 83, none⟩)])) w := by kernel_rfl
theorem asAssignableR (w : World) : (ReflectliteType.relation "AssignableTo" ReflectliteType.assignableTo #[.agg #[.pointer (some ⟨19, 83, none⟩)], .iface 123 (.agg #[.pointer (some ⟨19, 83, none⟩)])]).run Tryz.prog w = .ok (.bool true) w := by kernel_rfl
theorem asValueOfR (c : ByteArray) (x : TypeId) (v : Value) (w : World) : (ReflectliteValue.unpack (.iface 83 (.agg #[.string c, .iface x v]))).run Tryz.prog w
    = .ok (.agg #[.pointer (some ⟨19, 83, none⟩), .pointer (some ⟨w.heap.size, 0, none⟩), .int .u64 153]) (w.alloc (.cells #[.string c, .iface x v] 83)) := by kernel_rfl
theorem asElemOfP (w : World) : (Rtype.elem? 85).run Tryz.prog w = .ok (some 83) w := by kernel_rfl
theorem asMkR (p : Addr) (w : World) : (ReflectliteValue.mk 83 p ReflectliteValue.flagAddr).run Tryz.prog w = .ok (.agg #[.pointer (some ⟨19, 83, none⟩), .pointer (some p), .int .u64 409]) w := by kernel_rfl
theorem asElemV (a p : Addr) (W : World) (ha : W.cell? a = some (.pointer (some p))) :
    (ReflectliteValue.method (ReflectliteValue.valueError "reflectlite.Value.Elem" 0) ReflectliteValue.elem #[.agg #[.pointer (some ⟨19, 85, none⟩), .pointer (some a), .int .u64 150]]).run Tryz.prog W
      = .ok (.agg #[.pointer (some ⟨19, 83, none⟩), .pointer (some p), .int .u64 409]) W := by
  rw [asRlm]
  simp only [Sem.run_bind, asPartsP, Result.andThen]
  simp [ReflectliteValue.elem, loadVar, isAgg, underlying, Tryz.underlying85, ha, Result.andThen, asElemOfP, asMkR]
theorem asRls (v x : Value) : ReflectliteValue.set #[v, x] = (do
    let (some (dst, a, fl), some (src, b, _)) := (← ReflectliteValue.parts v, ← ReflectliteValue.parts x)
      | unsupported (.noEntry "extern/(internal/reflectlite.Value).Set.zeroValue")
    if fl / ReflectliteValue.flagAddr % 2 == 0 then unsupported (.noEntry "extern/(internal/reflectlite.Value).Set.unaddressable")
    let val ← loadVar src b
    if ← Rtype.directlyAssignable dst src then storeVar dst a val
    else if ← Rtype.implements dst src then
      if (← Rtype.kind src) == 20 then
        match val with
        | .nilIface => unsupported (.noEntry "extern/reflectlite: a nil value of one interface type handed on as a value of another")
        | _ => storeVar dst a val
      else storeVar dst a (.iface src val)
    else panicString ("reflectlite.Set: value of type " ++ (← Rtype.spelt src) ++ " is not assignable to type " ++ (← Rtype.spelt dst))
    pure (.tuple #[])) := rfl
theorem asPartsRa (a : Addr) (w : World) : (ReflectliteValue.parts (.agg #[.pointer (some ⟨19, 83, none⟩), .pointer (some a), .int .u64 409])).run Tryz.prog w = .ok (some (83, a, 409)) w := by kernel_rfl
theorem asPartsR (a : Addr) (w : World) : (ReflectliteValue.parts (.agg #[.pointer (some ⟨19, 83, none⟩), .pointer (some a), .int .u64 153])).run Tryz.prog w = .ok (some (83, a, 153)) w := by kernel_rfl
theorem asDirectR (w : World) : (Rtype.directlyAssignable 83 83).run Tryz.prog w = .ok true w := by kernel_rfl
theorem asSizeR (w : World) : (sizeOf 83).run Tryz.prog w = .ok 2 w := by kernel_rfl
theorem asLoadR (b : Nat) (c : ByteArray) (y : Value) (W : World) (h0 : W.cell? ⟨b, 0, none⟩ = some (.string c)) (h1 : W.cell? ⟨b, 1, none⟩ = some y) : (loadVar 83 ⟨b, 0, none⟩).run Tryz.prog W = .ok (.agg #[.string c, y]) W := by
  have hl := run_loadCells_list (P := Tryz.prog) (w := W) ⟨b, 0, none⟩ [.string c, y] (fun j v hj => by
    match j, hj with
    | 0, hj => simp at hj; subst hj; simpa [Addr.add] using h0
    | 1, hj => simp at hj; subst hj; simpa [Addr.add] using h1)
  simp only [List.length_cons, List.length_nil, Nat.zero_add, Nat.reduceAdd] at hl
  simp [loadVar, isAgg, underlying, Tryz.underlying83, Result.andThen, asSizeR, hl]

theorem asStoreR (b : Nat) (c : ByteArray) (x : TypeId) (v o0 o1 : Value) (W : World) (h0 : W.cell? ⟨b, 0, none⟩ = some o0) (h1 : W.cell? ⟨b, 1, none⟩ = some o1) (f0 : W.frozen? ⟨b, 0, none⟩ = false) (f1 : W.frozen? ⟨b, 1, none⟩ = false) :
    (storeVar 83 ⟨b, 0, none⟩ (.agg #[.string c, .iface x v])).run Tryz.prog W = .ok () ((W.setCell ⟨b, 0, none⟩ (.string c)).setCell ⟨b, 1, none⟩ (.iface x v)) := by
  have hs := run_storeCells_cells (P := Tryz.prog) b 0 [.string c, .iface x v] 0 W (fun j hj => by
    match j, hj with
    | 0, _ => simp [h0]
    | 1, _ => simp [h1]
    | j + 2, hj => have k : j + 2 < 2 := hj; omega) (fun j hj => by
    match j, hj with
    | 0, _ => simpa using f0
    | 1, _ => simpa using f1
    | j + 2, hj => have k : j + 2 < 2 := hj; omega) (fun u hu => by simp at hu; rcases hu with rfl | rfl <;> rfl)
  simp [storeVar, Value.cells, asSizeR, Result.andThen]
  exact hs

theorem asSet (d b : Nat) (c : ByteArray) (x : TypeId) (v o0 o1 : Value) (W : World) (b0 : W.cell? ⟨b, 0, none⟩ = some (.string c)) (b1 : W.cell? ⟨b, 1, none⟩ = some (.iface x v))
    (h0 : W.cell? ⟨d, 0, none⟩ = some o0) (h1 : W.cell? ⟨d, 1, none⟩ = some o1) (f0 : W.frozen? ⟨d, 0, none⟩ = false) (f1 : W.frozen? ⟨d, 1, none⟩ = false) :
    (ReflectliteValue.set #[.agg #[.pointer (some ⟨19, 83, none⟩), .pointer (some ⟨d, 0, none⟩), .int .u64 409], .agg #[.pointer (some ⟨19, 83, none⟩), .pointer (some ⟨b, 0, none⟩), .int .u64 153]]).run Tryz.prog W
      = .ok (.tuple #[]) ((W.setCell ⟨d, 0, none⟩ (.string c)).setCell ⟨d, 1, none⟩ (.iface x v)) := by
  have hl := asLoadR b c _ W b0 b1
  have hs := asStoreR d c x v o0 o1 W h0 h1 f0 f1
  rw [asRls]
  simp only [Sem.run_bind, asPartsRa, asPartsR, Result.andThen]
  simp [ReflectliteValue.flagAddr, hl, Result.andThen, asDirectR, hs]

set_option maxHeartbeats 4000000 in
theorem as_hit (c : ByteArray) (x : TypeId) (v o0 o1 : Value) (d : Nat) (w : World) (hg : w.cell? ⟨4, 0, none⟩ = some (.iface 123 (.agg #[.pointer (some ⟨19, 72, none⟩)])))
    (h0 : w.cell? ⟨d, 0, none⟩ = some o0) (h1 : w.cell? ⟨d, 1, none⟩ = some o1) (f0 : w.frozen? ⟨d, 0, none⟩ = false) (f1 : w.frozen? ⟨d, 1, none⟩ = false) :
    Calls Tryz.prog 48 #[.iface 83 (.agg #[.string c, .iface x v]), .iface 85 (.pointer (some ⟨d, 0, none⟩))] w fun ev w' => ev = .returned (.bool true) ∧
      w' = (((((w.alloc (.cells #[.pointer (some ⟨d, 0, none⟩)] 85)).alloc (.cells #[.pointer (some ⟨19, 85, none⟩), .pointer (some ⟨w.heap.size, 0, none⟩), .int .u64 150] 95)).alloc (.cells #[.pointer (some ⟨19, 85, none⟩), .pointer (some ⟨w.heap.size, 0, none⟩), .int .u64 150] 95)).alloc (.cells #[.string c, .iface x v] 83)).setCell ⟨d, 0, none⟩ (.string c)).setCell ⟨d, 1, none⟩ (.iface x v) := by
  obtain ⟨t, ht⟩ : ∃ t : Addr, t = ⟨d, 0, none⟩ := ⟨_, rfl⟩
  have h6 := @run_callFunc_extern Tryz.prog 60 _ (fun args => ReflectliteValue.unpack (args.getD 0 (.tuple #[]))) Tryz.func60 (by kernel_rfl) (by kernel_rfl) (by kernel_rfl) (by kernel_rfl)
  have h7 := @run_callFunc_extern Tryz.prog 61 _ (ReflectliteValue.methodAny (ReflectliteValue.valueError "reflectlite.Value.Type" 0) (fun t _ _ _ => ReflectliteType.toType t)) Tryz.func61 (by kernel_rfl) (by kernel_rfl) (by kernel_rfl) (by kernel_rfl)
  have h8 := @run_callFunc_extern Tryz.prog 62 _ (ReflectliteValue.method (ReflectliteValue.valueError "reflectlite.Value.IsNil" 0) ReflectliteValue.isNil) Tryz.func62 (by kernel_rfl) (by kernel_rfl) (by kernel_rfl) (by kernel_rfl)
  have h27 := @run_callFunc_extern Tryz.prog 156 _ (ReflectliteType.abiMethod fun t => do pure (.int .u8 (← Rtype.kind t))) Tryz.func156 (by kernel_rfl) (by kernel_rfl) (by kernel_rfl) (by kernel_rfl)
  have h37 := @run_callFunc_extern Tryz.prog 167 _ (ReflectliteType.method ReflectliteType.elem) Tryz.func167 (by kernel_rfl) (by kernel_rfl) (by kernel_rfl) (by kernel_rfl)
  have h38 := @run_callFunc_extern Tryz.prog 168 _ (ReflectliteType.relation "Implements" ReflectliteType.implements_) Tryz.func168 (by kernel_rfl) (by kernel_rfl) (by kernel_rfl) (by kernel_rfl)
  have h10 := @run_callFunc_extern Tryz.prog 72 _ ReflectliteType.typeOf Tryz.func72 (by kernel_rfl) (by kernel_rfl) (by kernel_rfl) (by kernel_rfl)
  have h35 := @run_callFunc_extern Tryz.prog 165 _ (ReflectliteType.relation "AssignableTo" ReflectliteType.assignableTo) Tryz.func165 (by kernel_rfl) (by kernel_rfl) (by kernel_rfl) (by kernel_rfl)
  have h11 := @run_callFunc_extern Tryz.prog 73 _ (ReflectliteValue.method (ReflectliteValue.valueError "reflectlite.Value.Elem" 0) ReflectliteValue.elem) Tryz.func73 (by kernel_rfl) (by kernel_rfl) (by kernel_rfl) (by kernel_rfl)
  have h12 := @run_callFunc_extern Tryz.prog 74 _ ReflectliteValue.set Tryz.func74 (by kernel_rfl) (by kernel_rfl) (by kernel_rfl) (by kernel_rfl)
  have tO := asTypeOfR
  have mA := asMethodAssignableTo
  have a25 := asAssignableR
  have v25 := asValueOfR
  have f6 := asValueOfP
  have f7 := asTypeP
  have mK := asMethodKind
  have mE := asMethodElem
  have mI := asMethodImplements
  have k27 := asKindP
  have k25 := asKindR
  have e27 := asElemP
  have i25 := asImplementsR
  have hdl : d < w.heap.size := cell_lt h0
  have hgl := cell_lt hg
  have HH := (((((Held.start w).add (f := .cell d 0 o0) h0).add (f := .cell d 1 o1) h1).add (f := .free d 0) ⟨hdl, f0⟩).add (f := .free d 1) ⟨hdl, f1⟩).add (f := .cell 4 0 _) hg
  have H1 := HH.lone w.heap.size (.pointer (some t)) 85 rfl
  have H2 := H1.triple (w.heap.size + 1) (.pointer (some ⟨19, 85, none⟩)) (.pointer (some ⟨w.heap.size, 0, none⟩)) (.int .u64 150) 95 (by simp)
  have H3 := H2.triple (w.heap.size + 2) (.pointer (some ⟨19, 85, none⟩)) (.pointer (some ⟨w.heap.size, 0, none⟩)) (.int .u64 150) 95 (by simp)
  have H4 := H3.pair (w.heap.size + 3) (.string c) (.iface x v) 83 (by simp)
  have MM : True := trivial
  have n8 := asIsNil ⟨w.heap.size, 0, none⟩ t ((w.alloc (.cells #[.pointer (some t)] 85)).alloc (.cells #[.pointer (some ⟨19, 85, none⟩), .pointer (some ⟨w.heap.size, 0, none⟩), .int .u64 150] 95)) (H2.cell _ _ _ (by repeat (first | with_reducible exact List.mem_cons_self | with_reducible apply List.mem_cons_of_mem)))
  have hg2 := H2.cell 4 0 _ (by repeat (first | with_reducible exact List.mem_cons_self | with_reducible apply List.mem_cons_of_mem))
  have el := asElemV ⟨w.heap.size, 0, none⟩ t (((w.alloc (.cells #[.pointer (some t)] 85)).alloc (.cells #[.pointer (some ⟨19, 85, none⟩), .pointer (some ⟨w.heap.size, 0, none⟩), .int .u64 150] 95)).alloc (.cells #[.pointer (some ⟨19, 85, none⟩), .pointer (some ⟨w.heap.size, 0, none⟩), .int .u64 150] 95)) (H3.cell _ _ _ (by repeat (first | with_reducible exact List.mem_cons_self | with_reducible apply List.mem_cons_of_mem)))
  have st := asSet d (w.heap.size + 3) c x v o0 o1 ((((w.alloc (.cells #[.pointer (some t)] 85)).alloc (.cells #[.pointer (some ⟨19, 85, none⟩), .pointer (some ⟨w.heap.size, 0, none⟩), .int .u64 150] 95)).alloc (.cells #[.pointer (some ⟨19, 85, none⟩), .pointer (some ⟨w.heap.size, 0, none⟩), .int .u64 150] 95)).alloc (.cells #[.string c, .iface x v] 83)) (H4.cell _ _ _ (by repeat (first | with_reducible exact List.mem_cons_self | with_reducible apply List.mem_cons_of_mem))) (H4.cell _ _ _ (by repeat (first | with_reducible exact List.mem_cons_self | with_reducible apply List.mem_cons_of_mem)))
    (H4.cell _ _ _ (by repeat (first | with_reducible exact List.mem_cons_self | with_reducible apply List.mem_cons_of_mem))) (H4.cell _ _ _ (by repeat (first | with_reducible exact List.mem_cons_self | with_reducible apply List.mem_cons_of_mem)))
    (H4.frozen _ _ (by repeat (first | with_reducible exact List.mem_cons_self | with_reducible apply List.mem_cons_of_mem))) (H4.frozen _ _ (by repeat (first | with_reducible exact List.mem_cons_self | with_reducible apply List.mem_cons_of_mem)))
  subst ht
  clear HH H1 H2 H3 H4 MM h0 h1 f0 f1 hdl hgl
  go_enter Tryz.func48, Tryz.ntmps48
  go_wp2
  refine wp_loop_rounds 1 ?_
  rw [rounds_succ]
  go_wp2
  go_ret
  exact ⟨rfl, rfl⟩

end Go.Proofs.YtjijgcgbnmobfaaGreatDoor
