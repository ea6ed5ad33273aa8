/- Several texts in one: TeErr, TeFacts, RuRef, RuRefD, CaMem, CaRef, CaBox, RuShown, EaShown. -/
import Derived.Test.YtpfgdfpaoldhcaaGreatDoorSoAK
set_option maxHeartbeats 8000000
set_option maxRecDepth 100000
set_option linter.unusedVariables false
set_option linter.unusedSimpArgs false
namespace Go.Proofs.YtpfgdfpaoldhcaaGreatDoor
open Go.RowKit Go.Extern.Stop Go.Stop Go.Extern
def ErrT (a0 a1 a2 a3 : Addr) (w : World) : Prop := w.cell? ⟨4, 0, none⟩ = some (.iface 204 (.agg #[.pointer (some ⟨19, 141, none⟩)])) ∧
 ∃ (c0 c1 c2 c3 : Array Value) (t0 t1 t2 t3 : TypeId),
 (w.cell? ⟨0, 0, none⟩ = some (.iface 270 (.pointer (some a0))) ∧ w.cell? ⟨1, 0, none⟩ = some (.iface 270 (.pointer (some a1))) ∧ w.cell? ⟨2, 0, none⟩ = some (.iface 270 (.pointer (some a2))) ∧ w.cell? ⟨3, 0, none⟩ = some (.iface 270 (.pointer (some a3)))) ∧
 (a0 ≠ a1 ∧ a0 ≠ a2 ∧ a0 ≠ a3 ∧ a1 ≠ a2 ∧ a1 ≠ a3 ∧ a2 ≠ a3) ∧
 w.heap[a0.block]? = some (.cells c0 t0 (0, 0)) ∧ w.heap[a1.block]? = some (.cells c1 t1 (0, 0)) ∧ w.heap[a2.block]? = some (.cells c2 t2 (0, 0)) ∧ w.heap[a3.block]? = some (.cells c3 t3 (0, 0))
theorem zCa {W : World} {b : Nat} {o : Obj} (h : W.heap[b]? = some o) : b < W.heap.size := by
 rcases Nat.lt_or_ge b W.heap.size with k | k
 ·exact k
 ·rw [Array.getElem?_eq_none k] at h; cases h
theorem ErrT.below {a0 a1 a2 a3 : Addr} {W W' : World} (h : ErrT a0 a1 a2 a3 W) (hb : Below W.heap.size W W') : ErrT a0 a1 a2 a3 W' := by
 obtain ⟨hg, c0, c1, c2, c3, t0, t1, t2, t3, ⟨h0, h1, h2, h3⟩, hne, r0, r1, r2, r3⟩ := h
 exact ⟨keep hb (zA0 hg) hg, c0, c1, c2, c3, t0, t1, t2, t3, ⟨keep hb (zA0 h0) h0, keep hb (zA0 h1) h1, keep hb (zA0 h2) h2, keep hb (zA0 h3) h3⟩, hne, (hb.block _ (zCa r0)).trans r0, (hb.block _ (zCa r1)).trans r1, (hb.block _ (zCa r2)).trans r2, (hb.block _ (zCa r3)).trans r3⟩
def ErrsT (w : World) : Prop := ∃ a0 a1 a2 a3, ErrT a0 a1 a2 a3 w
theorem ErrsT.below {W W' : World} (h : ErrsT W) (hb : Below W.heap.size W W') : ErrsT W' := by
 obtain ⟨a0, a1, a2, a3, h⟩ := h; exact ⟨a0, a1, a2, a3, h.below hb⟩
def zB9 (a0 a1 a2 a3 : Addr) : Fact := .that (ErrT a0 a1 a2 a3) (fun _ _ hb h => h.below hb)
theorem Held.errT {w W : World} {fs : List Fact} {a0 a1 a2 a3 : Addr} (h : Held w fs W) (hm : zB9 a0 a1 a2 a3 ∈ fs := by repeat (first | with_reducible exact List.mem_cons_self | with_reducible apply List.mem_cons_of_mem)) : ErrT a0 a1 a2 a3 W := h.all _ hm
theorem zFc (v : Value) (w : World) : (Extern.ReflectliteType.typeOf #[.iface 270 v]).run Tryz.prog w = .ok (.iface 204 (.agg #[.pointer (some ⟨19, 270, none⟩)])) w := by kernel_rfl
theorem zC3 (w : World) : (callFunc 262 #[.agg #[.pointer (some ⟨19, 270, none⟩)]]).run Tryz.prog w = .ok (.value (.bool true)) w :=
 (run_callFunc_extern (e := Extern.ReflectliteType.method fun t => do Extern.Rtype.noPackHeld "Comparable" t; pure (Value.bool (← typeInfo t).comparable)) Tryz.func262 (by kernel_rfl) (by kernel_rfl) (by kernel_rfl) (by kernel_rfl) _ w).trans (by kernel_rfl)
theorem zBh (v : Value) (w : World) : (Go.method 403 204 v "Comparable").run Tryz.prog w = .ok (262, v) w := by kernel_rfl
theorem zHu : (Tryz.prog.info? 270).map (·.comparable) = some true := by kernel_rfl
theorem zHv : (Tryz.prog.info? 291).map (·.size) = some 1 := by kernel_rfl
theorem zLi (v : Value) (xT : TypeId) (w : World) : (Instr.typeAssert (.iface 270 v) xT 241 true).run Tryz.prog w = .ok (.tuple #[.nilIface, .bool false]) w := run_typeAssert_lacksB Tryz.underlying241 (by kernel_rfl) (by kernel_rfl) v xT w
theorem zEj (v : Value) (xT : TypeId) (w : World) : (Instr.typeAssert (.iface 270 v) xT 212 true).run Tryz.prog w = .ok (.tuple #[.nilIface, .bool false]) w := run_typeAssert_lacksB Tryz.underlying212 (by kernel_rfl) (by kernel_rfl) v xT w
theorem zDr (v : Value) (xT : TypeId) (w : World) : (Instr.typeAssert (.iface 270 v) xT 214 true).run Tryz.prog w = .ok (.tuple #[.nilIface, .bool false]) w := run_typeAssert_lacksB Tryz.underlying214 (by kernel_rfl) (by kernel_rfl) v xT w
theorem zLj (v : Value) (xT : TypeId) (w : World) : (Instr.typeAssert (.iface 152 v) xT 241 true).run Tryz.prog w = .ok (.tuple #[.nilIface, .bool false]) w := run_typeAssert_lacksB Tryz.underlying241 (by kernel_rfl) (by kernel_rfl) v xT w
theorem zDo (v : Value) (xT : TypeId) (w : World) : (Instr.typeAssert (.iface 152 v) xT 212 true).run Tryz.prog w = .ok (.tuple #[.iface 152 v, .bool true]) w := run_typeAssert_hasB Tryz.underlying212 (by kernel_rfl) v xT w
theorem zCl (v : Value) (w : World) : (Go.method 403 152 v "Unwrap").run Tryz.prog w = .ok (256, v) w := by kernel_rfl
theorem zFd (s : ByteArray) (a b : Addr) (w : World) (h : a = b) : Calls Tryz.prog 142 #[.iface 152 (.agg #[.string s, .iface 270 (.pointer (some a))]), .iface 270 (.pointer (some b))] w fun e w' => e = .returned (.bool true) ∧ Below w.heap.size w w' := by
 obtain ⟨i, hi, hcmp⟩ := Option.map_eq_some_iff.1 zHu
 obtain ⟨j, hj, hjs⟩ := Option.map_eq_some_iff.1 zHv
 have hT := @run_callFunc_extern Tryz.prog 168 _ Extern.ReflectliteType.typeOf Tryz.func168 (by kernel_rfl) (by kernel_rfl) (by kernel_rfl) (by kernel_rfl)
 have hC := zC3
 have tT := zFc
 have mR := zBh
 have nE := zLi
 have uE := zEj
 have vE := zDr
 have nW := zLj
 have uW := zDo
 have mU := zCl
 subst h
 have heq := fun v => run_eql_iface_ptr_same (P := Tryz.prog) v a Tryz.underlying141 Tryz.underlying270 hi hcmp hj
 have hty := fun v => run_eql_iface_types (P := Tryz.prog) 152 270 (.agg #[.string s, .iface 270 (.pointer (some a))]) (.pointer (some a)) Tryz.underlying141 (by decide) v
 go_enter Tryz.func142, Tryz.ntmps142
 go_wp2
 refine wp_loop_rounds 2 ?_
 rw [rounds_succ]
 go_wp2
 rw [rounds_succ]
 go_wp2
 go_ret
 exact ⟨rfl, (Below.refl _ _).alloc (Nat.le_refl _) _⟩
theorem zD3 (s : ByteArray) (a b : Addr) (w : World) (ca cb : Array Value) (ta tb : TypeId) (hne : a ≠ b) (ha : w.heap[a.block]? = some (.cells ca ta (0, 0))) (hb : w.heap[b.block]? = some (.cells cb tb (0, 0))) : Calls Tryz.prog 142 #[.iface 152 (.agg #[.string s, .iface 270 (.pointer (some a))]), .iface 270 (.pointer (some b))] w fun e w' => e = .returned (.bool false) ∧ Below w.heap.size w w' := by
 obtain ⟨i, hi, hcmp⟩ := Option.map_eq_some_iff.1 zHu
 obtain ⟨j, hj, hjs⟩ := Option.map_eq_some_iff.1 zHv
 have hT := @run_callFunc_extern Tryz.prog 168 _ Extern.ReflectliteType.typeOf Tryz.func168 (by kernel_rfl) (by kernel_rfl) (by kernel_rfl) (by kernel_rfl)
 have hC := zC3
 have tT := zFc
 have mR := zBh
 have nE := zLi
 have uE := zEj
 have vE := zDr
 have nW := zLj
 have uW := zDo
 have mU := zCl
 have B : Below w.heap.size w (w.alloc (.cells #[.string s, .iface 270 (.pointer (some a))] 152)) := (Below.refl _ _).alloc (Nat.le_refl _) _
 have heq := run_eql_iface_ptr_other (P := Tryz.prog) (w.alloc (.cells #[.string s, .iface 270 (.pointer (some a))] 152)) Tryz.underlying141 Tryz.underlying270 hi hcmp hj (by rw [hjs]; decide) hne ((B.block _ (zCa ha)).trans ha) ((B.block _ (zCa hb)).trans hb)
 clear B
 have hty := fun v => run_eql_iface_types (P := Tryz.prog) 152 270 (.agg #[.string s, .iface 270 (.pointer (some a))]) (.pointer (some b)) Tryz.underlying141 (by decide) v
 go_enter Tryz.func142, Tryz.ntmps142
 go_wp2
 refine wp_loop_rounds 2 ?_
 rw [rounds_succ]
 go_wp2
 rw [rounds_succ]
 go_wp2
 go_ret
 exact ⟨rfl, (Below.refl _ _).alloc (Nat.le_refl _) _⟩
theorem zNx (t : Value) (w : World) :
  Calls Tryz.prog 117 #[.nilIface, t] w fun e w' => e = .returned (.bool false) ∧ w' = w := by
 go_enter Tryz.func117, Tryz.ntmps117
 go_wp2
 go_ret
 exact ⟨rfl, rfl⟩
theorem zGg (t : Addr) (w : World) : (ReflectliteValue.unpack (.iface 154 (.pointer (some t)))).run Tryz.prog w
  = .ok (.agg #[.pointer (some ⟨19, 154, none⟩), .pointer (some ⟨w.heap.size, 0, none⟩), .int .u64 150]) (w.alloc (.cells #[.pointer (some t)] 154)) := by kernel_rfl
theorem zM3 (a : Addr) (w : World) : (ReflectliteValue.methodAny (ReflectliteValue.valueError "reflectlite.Value.Type" 0) (fun t _ _ _ => ReflectliteType.toType t) #[.agg #[.pointer (some ⟨19, 154, none⟩), .pointer (some a), .int .u64 150]]).run Tryz.prog w
  = .ok (.iface 204 (.agg #[.pointer (some ⟨19, 154, none⟩)])) w := by kernel_rfl
theorem zEw (h : Value) (w : World) : (Go.method 403 204 (.agg #[h]) "Kind").run Tryz.prog w = .ok (252, h) w := by kernel_rfl
theorem zM0 (w : World) : ((ReflectliteType.abiMethod fun t => (fun a : Nat => Value.int IntKind.u8 (a : Int)) <$> Rtype.kind t) #[.pointer (some ⟨19, 154, none⟩)]).run Tryz.prog w = .ok (.int .u8 22) w := by kernel_rfl
theorem zM1 (w : World) : ((ReflectliteType.abiMethod fun t => (fun a : Nat => Value.int IntKind.u8 (a : Int)) <$> Rtype.kind t) #[.pointer (some ⟨19, 152, none⟩)]).run Tryz.prog w = .ok (.int .u8 25) w := by kernel_rfl
theorem zKu (z : Sem Value) (f : TypeId → Addr → Nat → Nat → Sem Value) (v : Value) :
  ReflectliteValue.method z f #[v] = (do match ← ReflectliteValue.parts v with | none => z | some (t, a, fl) => f t a fl (fl % 32)) := rfl
theorem zEx (a : Addr) (w : World) : (ReflectliteValue.parts (.agg #[.pointer (some ⟨19, 154, none⟩), .pointer (some a), .int .u64 150])).run Tryz.prog w = .ok (some (154, a, 150)) w := by kernel_rfl
theorem zLz (a p : Addr) (W : World) (ha : W.cell? a = some (.pointer (some p))) :
  (ReflectliteValue.method (ReflectliteValue.valueError "reflectlite.Value.IsNil" 0) ReflectliteValue.isNil #[.agg #[.pointer (some ⟨19, 154, none⟩), .pointer (some a), .int .u64 150]]).run Tryz.prog W = .ok (.bool false) W := by
 rw [zKu]
 simp only [Sem.run_bind, zEx, Result.andThen]
 simp [ReflectliteValue.isNil, loadVar, isAgg, underlying, Tryz.underlying154, ha, Result.andThen]
theorem zEv (h : Value) (w : World) : (Go.method 403 204 (.agg #[h]) "Elem").run Tryz.prog w = .ok (263, .agg #[h]) w := by kernel_rfl
theorem zCm (h : Value) (w : World) : (Go.method 403 204 (.agg #[h]) "Implements").run Tryz.prog w = .ok (264, .agg #[h]) w := by kernel_rfl
theorem zCc (h : Value) (w : World) : (Go.method 403 204 (.agg #[h]) "AssignableTo").run Tryz.prog w = .ok (261, .agg #[h]) w := by kernel_rfl
theorem zLx (w : World) : (ReflectliteType.method ReflectliteType.elem #[.agg #[.pointer (some ⟨19, 154, none⟩)]]).run Tryz.prog w = .ok (.iface 204 (.agg #[.pointer (some ⟨19, 152, none⟩)])) w := by kernel_rfl
theorem zEm (w : World) : (ReflectliteType.relation "Implements" ReflectliteType.implements_ #[.agg #[.pointer (some ⟨19, 152, none⟩)], .iface 204 (.agg #[.pointer (some ⟨19, 141, none⟩)])]).run Tryz.prog w = .ok (.bool true) w := by kernel_rfl
theorem zHi (v : Value) (w : World) : (ReflectliteType.typeOf #[.iface 152 v]).run Tryz.prog w = .ok (.iface 204 (.agg #[.pointer (some ⟨19, 152, none⟩)])) w := by kernel_rfl
theorem zEl (w : World) : (ReflectliteType.relation "AssignableTo" ReflectliteType.assignableTo #[.agg #[.pointer (some ⟨19, 152, none⟩)], .iface 204 (.agg #[.pointer (some ⟨19, 152, none⟩)])]).run Tryz.prog w = .ok (.bool true) w := by kernel_rfl
theorem zGh (c : ByteArray) (x : TypeId) (v : Value) (w : World) : (ReflectliteValue.unpack (.iface 152 (.agg #[.string c, .iface x v]))).run Tryz.prog w
  = .ok (.agg #[.pointer (some ⟨19, 152, none⟩), .pointer (some ⟨w.heap.size, 0, none⟩), .int .u64 153]) (w.alloc (.cells #[.string c, .iface x v] 152)) := by kernel_rfl
theorem zHe (w : World) : (Rtype.elem? 154).run Tryz.prog w = .ok (some 152) w := by kernel_rfl
theorem asMkR_te (p : Addr) (w : World) : (ReflectliteValue.mk 152 p ReflectliteValue.flagAddr).run Tryz.prog w = .ok (.agg #[.pointer (some ⟨19, 152, none⟩), .pointer (some p), .int .u64 409]) w := by kernel_rfl
theorem zLy (a p : Addr) (W : World) (ha : W.cell? a = some (.pointer (some p))) :
  (ReflectliteValue.method (ReflectliteValue.valueError "reflectlite.Value.Elem" 0) ReflectliteValue.elem #[.agg #[.pointer (some ⟨19, 154, none⟩), .pointer (some a), .int .u64 150]]).run Tryz.prog W
   = .ok (.agg #[.pointer (some ⟨19, 152, none⟩), .pointer (some p), .int .u64 409]) W := by
 rw [zKu]
 simp only [Sem.run_bind, zEx, Result.andThen]
 simp [ReflectliteValue.elem, loadVar, isAgg, underlying, Tryz.underlying154, ha, Result.andThen, zHe, asMkR_te]
theorem asRls_te (v x : Value) : ReflectliteValue.set #[v, x] = (do
  let (some (dst, a, fl), some (src, b, _)) := (← ReflectliteValue.parts v, ← ReflectliteValue.parts x)
   | unsupported (.noEntry "extern/(internal/reflectlite.Value).Set.zeroValue")
  if fl / ReflectliteValue.flagAddr % 2 == 0 then unsupported (.noEntry "extern/(internal/reflectlite.Value).Set.unaddressable")
  let val ← loadVar src b
  if ← Rtype.directlyAssignable dst src then storeVar dst a val
  else if ← Rtype.implements dst src then
   if (← Rtype.kind src) == 20 then
    match val with
    | .nilIface => unsupported (.noEntry "extern/reflectlite: a nil value of one interface type handed on as a value of another")
    | _ => storeVar dst a val
   else storeVar dst a (.iface src val)
  else panicString ("reflectlite.Set: value of type " ++ (← Rtype.spelt src) ++ " is not assignable to type " ++ (← Rtype.spelt dst))
  pure (.tuple #[])) := rfl
theorem zHh (a : Addr) (w : World) : (ReflectliteValue.parts (.agg #[.pointer (some ⟨19, 152, none⟩), .pointer (some a), .int .u64 409])).run Tryz.prog w = .ok (some (152, a, 409)) w := by kernel_rfl
theorem zIu (a : Addr) (w : World) : (ReflectliteValue.parts (.agg #[.pointer (some ⟨19, 152, none⟩), .pointer (some a), .int .u64 153])).run Tryz.prog w = .ok (some (152, a, 153)) w := by kernel_rfl
theorem zHd (w : World) : (Rtype.directlyAssignable 152 152).run Tryz.prog w = .ok true w := by kernel_rfl
theorem zG0 (w : World) : (sizeOf 152).run Tryz.prog w = .ok 2 w := by kernel_rfl
theorem zM2 (b : Nat) (c : ByteArray) (y : Value) (W : World) (h0 : W.cell? ⟨b, 0, none⟩ = some (.string c)) (h1 : W.cell? ⟨b, 1, none⟩ = some y) : (loadVar 152 ⟨b, 0, none⟩).run Tryz.prog W = .ok (.agg #[.string c, y]) W := by
 have hl := run_loadCells_list (P := Tryz.prog) (w := W) ⟨b, 0, none⟩ [.string c, y] (fun j v hj => by
  match j, hj with
  | 0, hj => simp at hj; subst hj; simpa [Addr.add] using h0
  | 1, hj => simp at hj; subst hj; simpa [Addr.add] using h1)
 simp only [List.length_cons, List.length_nil, Nat.zero_add, Nat.reduceAdd] at hl
 simp [loadVar, isAgg, underlying, Tryz.underlying152, Result.andThen, zG0, hl]
theorem zIv (b : Nat) (c : ByteArray) (x : TypeId) (v o0 o1 : Value) (W : World) (h0 : W.cell? ⟨b, 0, none⟩ = some o0) (h1 : W.cell? ⟨b, 1, none⟩ = some o1) (f0 : W.frozen? ⟨b, 0, none⟩ = false) (f1 : W.frozen? ⟨b, 1, none⟩ = false) :
  (storeVar 152 ⟨b, 0, none⟩ (.agg #[.string c, .iface x v])).run Tryz.prog W = .ok () ((W.setCell ⟨b, 0, none⟩ (.string c)).setCell ⟨b, 1, none⟩ (.iface x v)) := by
 have hs := run_storeCells_cells (P := Tryz.prog) b 0 [.string c, .iface x v] 0 W (fun j hj => by
  match j, hj with
  | 0, _ => simp [h0]
  | 1, _ => simp [h1]
  | j + 2, hj => have k : j + 2 < 2 := hj; omega) (fun j hj => by
  match j, hj with
  | 0, _ => simpa using f0
  | 1, _ => simpa using f1
  | j + 2, hj => have k : j + 2 < 2 := hj; omega) (fun u hu => by simp at hu; rcases hu with rfl | rfl <;> rfl)
 simp [storeVar, Value.cells, zG0, Result.andThen]
 exact hs
theorem asSet_te (d b : Nat) (c : ByteArray) (x : TypeId) (v o0 o1 : Value) (W : World) (b0 : W.cell? ⟨b, 0, none⟩ = some (.string c)) (b1 : W.cell? ⟨b, 1, none⟩ = some (.iface x v))
  (h0 : W.cell? ⟨d, 0, none⟩ = some o0) (h1 : W.cell? ⟨d, 1, none⟩ = some o1) (f0 : W.frozen? ⟨d, 0, none⟩ = false) (f1 : W.frozen? ⟨d, 1, none⟩ = false) :
  (ReflectliteValue.set #[.agg #[.pointer (some ⟨19, 152, none⟩), .pointer (some ⟨d, 0, none⟩), .int .u64 409], .agg #[.pointer (some ⟨19, 152, none⟩), .pointer (some ⟨b, 0, none⟩), .int .u64 153]]).run Tryz.prog W
   = .ok (.tuple #[]) ((W.setCell ⟨d, 0, none⟩ (.string c)).setCell ⟨d, 1, none⟩ (.iface x v)) := by
 have hl := zM2 b c _ W b0 b1
 have hs := zIv d c x v o0 o1 W h0 h1 f0 f1
 rw [asRls_te]
 simp only [Sem.run_bind, zHh, zIu, Result.andThen]
 simp [ReflectliteValue.flagAddr, hl, Result.andThen, zHd, hs]
theorem zDk (c : ByteArray) (x : TypeId) (v o0 o1 : Value) (d : Nat) (w : World) (hg : w.cell? ⟨4, 0, none⟩ = some (.iface 204 (.agg #[.pointer (some ⟨19, 141, none⟩)])))
  (h0 : w.cell? ⟨d, 0, none⟩ = some o0) (h1 : w.cell? ⟨d, 1, none⟩ = some o1) (f0 : w.frozen? ⟨d, 0, none⟩ = false) (f1 : w.frozen? ⟨d, 1, none⟩ = false) :
  Calls Tryz.prog 117 #[.iface 152 (.agg #[.string c, .iface x v]), .iface 154 (.pointer (some ⟨d, 0, none⟩))] w fun ev w' => ev = .returned (.bool true) ∧
   w' = (((((w.alloc (.cells #[.pointer (some ⟨d, 0, none⟩)] 154)).alloc (.cells #[.pointer (some ⟨19, 154, none⟩), .pointer (some ⟨w.heap.size, 0, none⟩), .int .u64 150] 164)).alloc (.cells #[.pointer (some ⟨19, 154, none⟩), .pointer (some ⟨w.heap.size, 0, none⟩), .int .u64 150] 164)).alloc (.cells #[.string c, .iface x v] 152)).setCell ⟨d, 0, none⟩ (.string c)).setCell ⟨d, 1, none⟩ (.iface x v) := by
 obtain ⟨t, ht⟩ : ∃ t : Addr, t = ⟨d, 0, none⟩ := ⟨_, rfl⟩
 have h6 := @run_callFunc_extern Tryz.prog 138 _ (fun args => ReflectliteValue.unpack (args.getD 0 (.tuple #[]))) Tryz.func138 (by kernel_rfl) (by kernel_rfl) (by kernel_rfl) (by kernel_rfl)
 have h7 := @run_callFunc_extern Tryz.prog 139 _ (ReflectliteValue.methodAny (ReflectliteValue.valueError "reflectlite.Value.Type" 0) (fun t _ _ _ => ReflectliteType.toType t)) Tryz.func139 (by kernel_rfl) (by kernel_rfl) (by kernel_rfl) (by kernel_rfl)
 have h8 := @run_callFunc_extern Tryz.prog 140 _ (ReflectliteValue.method (ReflectliteValue.valueError "reflectlite.Value.IsNil" 0) ReflectliteValue.isNil) Tryz.func140 (by kernel_rfl) (by kernel_rfl) (by kernel_rfl) (by kernel_rfl)
 have h27 := @run_callFunc_extern Tryz.prog 252 _ (ReflectliteType.abiMethod fun t => do pure (.int .u8 (← Rtype.kind t))) Tryz.func252 (by kernel_rfl) (by kernel_rfl) (by kernel_rfl) (by kernel_rfl)
 have h37 := @run_callFunc_extern Tryz.prog 263 _ (ReflectliteType.method ReflectliteType.elem) Tryz.func263 (by kernel_rfl) (by kernel_rfl) (by kernel_rfl) (by kernel_rfl)
 have h38 := @run_callFunc_extern Tryz.prog 264 _ (ReflectliteType.relation "Implements" ReflectliteType.implements_) Tryz.func264 (by kernel_rfl) (by kernel_rfl) (by kernel_rfl) (by kernel_rfl)
 have h10 := @run_callFunc_extern Tryz.prog 168 _ ReflectliteType.typeOf Tryz.func168 (by kernel_rfl) (by kernel_rfl) (by kernel_rfl) (by kernel_rfl)
 have h35 := @run_callFunc_extern Tryz.prog 261 _ (ReflectliteType.relation "AssignableTo" ReflectliteType.assignableTo) Tryz.func261 (by kernel_rfl) (by kernel_rfl) (by kernel_rfl) (by kernel_rfl)
 have h11 := @run_callFunc_extern Tryz.prog 169 _ (ReflectliteValue.method (ReflectliteValue.valueError "reflectlite.Value.Elem" 0) ReflectliteValue.elem) Tryz.func169 (by kernel_rfl) (by kernel_rfl) (by kernel_rfl) (by kernel_rfl)
 have h12 := @run_callFunc_extern Tryz.prog 170 _ ReflectliteValue.set Tryz.func170 (by kernel_rfl) (by kernel_rfl) (by kernel_rfl) (by kernel_rfl)
 have tO := zHi
 have mA := zCc
 have a25 := zEl
 have v25 := zGh
 have f6 := zGg
 have f7 := zM3
 have mK := zEw
 have mE := zEv
 have mI := zCm
 have k27 := zM0
 have k25 := zM1
 have e27 := zLx
 have i25 := zEm
 have hdl : d < w.heap.size := zA0 h0
 have hgl := zA0 hg
 have HH := (((((Held.start w).add (f := .cell d 0 o0) h0).add (f := .cell d 1 o1) h1).add (f := .free d 0) ⟨hdl, f0⟩).add (f := .free d 1) ⟨hdl, f1⟩).add (f := .cell 4 0 _) hg
 have H1 := HH.lone w.heap.size (.pointer (some t)) 154 rfl
 have H2 := H1.triple (w.heap.size + 1) (.pointer (some ⟨19, 154, none⟩)) (.pointer (some ⟨w.heap.size, 0, none⟩)) (.int .u64 150) 164 (by simp)
 have H3 := H2.triple (w.heap.size + 2) (.pointer (some ⟨19, 154, none⟩)) (.pointer (some ⟨w.heap.size, 0, none⟩)) (.int .u64 150) 164 (by simp)
 have H4 := H3.pair (w.heap.size + 3) (.string c) (.iface x v) 152 (by simp)
 have MM : True := trivial
 have n8 := zLz ⟨w.heap.size, 0, none⟩ t ((w.alloc (.cells #[.pointer (some t)] 154)).alloc (.cells #[.pointer (some ⟨19, 154, none⟩), .pointer (some ⟨w.heap.size, 0, none⟩), .int .u64 150] 164)) (H2.cell _ _ _)
 have hg2 := H2.cell 4 0 _
 have el := zLy ⟨w.heap.size, 0, none⟩ t (((w.alloc (.cells #[.pointer (some t)] 154)).alloc (.cells #[.pointer (some ⟨19, 154, none⟩), .pointer (some ⟨w.heap.size, 0, none⟩), .int .u64 150] 164)).alloc (.cells #[.pointer (some ⟨19, 154, none⟩), .pointer (some ⟨w.heap.size, 0, none⟩), .int .u64 150] 164)) (H3.cell _ _ _)
 have st := asSet_te d (w.heap.size + 3) c x v o0 o1 ((((w.alloc (.cells #[.pointer (some t)] 154)).alloc (.cells #[.pointer (some ⟨19, 154, none⟩), .pointer (some ⟨w.heap.size, 0, none⟩), .int .u64 150] 164)).alloc (.cells #[.pointer (some ⟨19, 154, none⟩), .pointer (some ⟨w.heap.size, 0, none⟩), .int .u64 150] 164)).alloc (.cells #[.string c, .iface x v] 152)) (H4.cell _ _ _) (H4.cell _ _ _)
  (H4.cell _ _ _) (H4.cell _ _ _)
  (H4.frozen _ _) (H4.frozen _ _)
 subst ht
 clear HH H1 H2 H3 H4 MM h0 h1 f0 f1 hdl hgl
 go_enter Tryz.func117, Tryz.ntmps117
 go_wp2
 refine wp_loop_rounds 1 ?_
 rw [rounds_succ]
 go_wp2
 go_ret
 exact ⟨rfl, rfl⟩
end Go.Proofs.YtpfgdfpaoldhcaaGreatDoor
namespace Go.Proofs.YtpfgdfpaoldhcaaGreatDoor
open Go.RowKit
theorem zQq (k : Int) : (rn k).toList.isEmpty = decide (k < 0 ∨ 4 < k) := by
 by_cases h : k < 0 ∨ 4 < k
 ·rw [rn_out k h, decide_eq_true h]; decide +kernel
 ·rw [decide_eq_false h]
  rcases of5 k (by omega) with rfl | rfl | rfl | rfl | rfl <;> decide +kernel
def zNl (w : World) : Prop := ∀ i : Nat, i < 5 → w.cell? ⟨6, i, none⟩ = some (.string (rn i))
def zNm (w : World) : Prop := ∀ i : Nat, i < 3 → w.cell? ⟨5, i, none⟩ = some (.string (tn i))
def FactsT (w : World) : Prop := Lens w ∧ zNl w ∧ zNm w ∧ ErrsT w
theorem FactsT.below {W W' : World} (h : FactsT W) (hb : Below W.heap.size W W') : FactsT W' :=
 ⟨Lens.below h.1 hb, fun i hi => keep hb (zA0 (h.2.1 i hi)) (h.2.1 i hi), fun i hi => keep hb (zA0 (h.2.2.1 i hi)) (h.2.2.1 i hi), h.2.2.2.below hb⟩
def zAm : Fact := .that FactsT (fun _ _ hb h => h.below hb)
theorem Held.factsT {w W : World} {fs : List Fact} (h : Held w fs W) (hm : zAm ∈ fs := by repeat (first | with_reducible exact List.mem_cons_self | with_reducible apply List.mem_cons_of_mem)) : FactsT W := h.all _ hm
theorem Held.lensT {w W : World} {fs : List Fact} (h : Held w fs W) (hm : zAm ∈ fs := by repeat (first | with_reducible exact List.mem_cons_self | with_reducible apply List.mem_cons_of_mem)) : Lens W := (h.factsT hm).1
theorem Held.oct {w W : World} {fs : List Fact} (h : Held w fs W) (B : Nat) (x0 x1 x2 x3 x4 x5 x6 x7 : Value) (t : TypeId) (hB : W.heap.size = B) :
  Held w (.cell B 0 x0 :: .cell B 1 x1 :: .cell B 2 x2 :: .cell B 3 x3 :: .cell B 4 x4 :: .cell B 5 x5 :: .cell B 6 x6 :: .cell B 7 x7 :: .free B 0 :: .free B 1 :: .free B 2 :: .free B 3 :: .free B 4 :: .free B 5 :: .free B 6 :: .free B 7 :: fs) (W.alloc (.cells #[x0, x1, x2, x3, x4, x5, x6, x7] t)) := by
 subst hB
 exact ((((((((((((((((h.alloc _).add (f := .free W.heap.size 7) ⟨by simp, by simp [go_sem]⟩).add (f := .free W.heap.size 6) ⟨by simp, by simp [go_sem]⟩).add (f := .free W.heap.size 5) ⟨by simp, by simp [go_sem]⟩).add (f := .free W.heap.size 4) ⟨by simp, by simp [go_sem]⟩).add (f := .free W.heap.size 3) ⟨by simp, by simp [go_sem]⟩).add (f := .free W.heap.size 2) ⟨by simp, by simp [go_sem]⟩).add (f := .free W.heap.size 1) ⟨by simp, by simp [go_sem]⟩).add (f := .free W.heap.size 0) ⟨by simp, by simp [go_sem]⟩).add (f := .cell W.heap.size 7 x7) (by simp [Fact.at, World.cell?_alloc_new])).add (f := .cell W.heap.size 6 x6) (by simp [Fact.at, World.cell?_alloc_new])).add (f := .cell W.heap.size 5 x5) (by simp [Fact.at, World.cell?_alloc_new])).add (f := .cell W.heap.size 4 x4) (by simp [Fact.at, World.cell?_alloc_new])).add (f := .cell W.heap.size 3 x3) (by simp [Fact.at, World.cell?_alloc_new])).add (f := .cell W.heap.size 2 x2) (by simp [Fact.at, World.cell?_alloc_new])).add (f := .cell W.heap.size 1 x1) (by simp [Fact.at, World.cell?_alloc_new])).add (f := .cell W.heap.size 0 x0) (by simp [Fact.at, World.cell?_alloc_new])
theorem zQo (n lo hi : Int) (w : World) : Calls Tryz.prog 76 #[.int .i64 n, .int .i64 lo, .int .i64 hi] w fun e w' => e = .returned (.bool (decide (lo ≤ n ∧ n ≤ hi))) ∧ w = w' := by
 go_enter Tryz.func76, Tryz.ntmps76
 go_wp2
 all_goals (go_ret; refine ⟨retB ?_, rfl⟩; rw [Bool.eq_iff_iff]; (try simp only [ge_iff_le, Bool.and_eq_true, decide_eq_true_eq, Bool.false_eq_true, false_iff, true_iff]); omega)
theorem zQp (n lo hi : Int) (b : Bool) (w : World) (h : decide (lo ≤ n ∧ n ≤ hi) = b) : Calls Tryz.prog 76 #[.int .i64 n, .int .i64 lo, .int .i64 hi] w fun e w' => e = .returned (.bool b) ∧ Below w.heap.size w w' := by
 subst h; exact Calls.same (zQo n lo hi w)
theorem rin_eq (n lo hi : Int) (b : Bool) (w : World) (h : decide (lo ≤ n ∧ n ≤ hi) = b) : Calls Tryz.prog 76 #[.int .i64 n, .int .i64 lo, .int .i64 hi] w fun e w' => e = .returned (.bool b) ∧ w = w' := by
 subst h; exact zQo n lo hi w
theorem rlen_eq (y m l : Int) (w : World) (h : ln y m = l) : Calls Tryz.prog 75 #[.int .i64 y, .int .i64 m] w fun e w' => e = .returned (.int .i64 l) ∧ w = w' := by
 subst h; exact zDf y m w
theorem rumay_a (k m d q o s f t : Int) (b : Bool) (w : World) (h : ¬ ((0 ≤ k ∧ k ≤ 3) ∧ (0 ≤ s ∧ s ≤ 2) ∧ (1 ≤ f ∧ f ≤ t ∧ t ≤ 9999))) : Calls Tryz.prog 52 #[.agg #[.int .i64 k, .int .i64 m, .int .i64 d, .int .i64 q, .int .i64 o, .int .i64 s, .int .i64 f, .int .i64 t]] w fun e w' => e = .returned (.bool false) ∧ Below w.heap.size w w' := by
 have D : ∀ w : World, Below w.heap.size w (w.alloc (.cells #[.int .i64 k, .int .i64 m, .int .i64 d, .int .i64 q, .int .i64 o, .int .i64 s, .int .i64 f, .int .i64 t] 76)) := fun w => (Below.refl _ _).alloc (Nat.le_refl _) _
 go_enter Tryz.func52, Tryz.ntmps52
 go_wp2
 all_goals first | (exfalso; omega) | skip
 all_goals (go_ret; exact ⟨rfl, D _⟩)
theorem rumay_b (k m d q o s f t : Int) (b : Bool) (w : World) (h : (0 ≤ k ∧ k ≤ 3) ∧ (0 ≤ s ∧ s ≤ 2) ∧ (1 ≤ f ∧ f ≤ t ∧ t ≤ 9999)) (hk : k = 3) (hb : decide (-100 ≤ o ∧ o ≤ 250) = b) : Calls Tryz.prog 52 #[.agg #[.int .i64 k, .int .i64 m, .int .i64 d, .int .i64 q, .int .i64 o, .int .i64 s, .int .i64 f, .int .i64 t]] w fun e w' => e = .returned (.bool b) ∧ Below w.heap.size w w' := by
 have H := Held.start w
 have C := Lib.hid (fun v => zQp o (-100) 250 b v hb)
 obtain ⟨⟨a1, a2⟩, ⟨a3, a4⟩, a5, a6, a7⟩ := h
 subst hk
 clear hb
 go_enter Tryz.func52, Tryz.ntmps52
 replace H := H.oct (w.heap.size) (.int .i64 3) (.int .i64 m) (.int .i64 d) (.int .i64 q) (.int .i64 o) (.int .i64 s) (.int .i64 f) (.int .i64 t) 76 rfl
 go_wp2_with fail
 (with_reducible refine (C.out _).mono ?_)
 rintro e w1 ⟨rfl, hb1⟩
 replace H := H.below hb1
 clear hb1
 go_wp2
 go_ret
 exact ⟨rfl, H.old⟩
theorem rumay_c (k m d q o s f t : Int) (b : Bool) (w : World) (h : (0 ≤ k ∧ k ≤ 3) ∧ (0 ≤ s ∧ s ≤ 2) ∧ (1 ≤ f ∧ f ≤ t ∧ t ≤ 9999)) (hk : k ≠ 3) (hm : ¬ (1 ≤ m ∧ m ≤ 12)) : Calls Tryz.prog 52 #[.agg #[.int .i64 k, .int .i64 m, .int .i64 d, .int .i64 q, .int .i64 o, .int .i64 s, .int .i64 f, .int .i64 t]] w fun e w' => e = .returned (.bool false) ∧ Below w.heap.size w w' := by
 have D : ∀ w : World, Below w.heap.size w (w.alloc (.cells #[.int .i64 k, .int .i64 m, .int .i64 d, .int .i64 q, .int .i64 o, .int .i64 s, .int .i64 f, .int .i64 t] 76)) := fun w => (Below.refl _ _).alloc (Nat.le_refl _) _
 have hk2 : (k == 3) = false := by simpa using hk
 go_enter Tryz.func52, Tryz.ntmps52
 go_wp2
 all_goals first | (exfalso; omega) | skip
 all_goals (go_ret; exact ⟨rfl, D _⟩)
theorem rumay_d (k m d q o s f t : Int) (b : Bool) (w : World) (h : (0 ≤ k ∧ k ≤ 3) ∧ (0 ≤ s ∧ s ≤ 2) ∧ (1 ≤ f ∧ f ≤ t ∧ t ≤ 9999)) (hk : k = 0) (hm : 1 ≤ m ∧ m ≤ 12) (hb : decide (1 ≤ d ∧ d ≤ ln 2000 m) = b) : Calls Tryz.prog 52 #[.agg #[.int .i64 k, .int .i64 m, .int .i64 d, .int .i64 q, .int .i64 o, .int .i64 s, .int .i64 f, .int .i64 t]] w fun e w' => e = .returned (.bool b) ∧ Below w.heap.size w w' := by
 have H := Held.start w
 obtain ⟨l, HB⟩ : ∃ l, Hid (ln 2000 m = l) := ⟨_, Lib.hid rfl⟩
 rw [HB.out] at hb
 have C1 := Lib.hid (fun v => rlen_eq 2000 m l v HB.out)
 have C2 := Lib.hid (fun v => rin_eq d 1 l b v hb)
 obtain ⟨⟨a1, a2⟩, ⟨a3, a4⟩, a5, a6, a7⟩ := h
 obtain ⟨m1, m2⟩ := hm
 subst hk
 clear hb
 go_enter Tryz.func52, Tryz.ntmps52
 replace H := H.oct (w.heap.size) (.int .i64 0) (.int .i64 m) (.int .i64 d) (.int .i64 q) (.int .i64 o) (.int .i64 s) (.int .i64 f) (.int .i64 t) 76 rfl
 have c0 := H.cell (w.heap.size) 0 (.int .i64 0) i0_
 have c1 := H.cell (w.heap.size) 1 (.int .i64 m) i1_
 have c2 := H.cell (w.heap.size) 2 (.int .i64 d) i2_
 have c3 := H.cell (w.heap.size) 3 (.int .i64 q) i3_
 have c4 := H.cell (w.heap.size) 4 (.int .i64 o) i4_
 have c5 := H.cell (w.heap.size) 5 (.int .i64 s) i5_
 have c6 := H.cell (w.heap.size) 6 (.int .i64 f) i6_
 have c7 := H.cell (w.heap.size) 7 (.int .i64 t) i7_
 have lc := H.lt (w.heap.size) 0 (.int .i64 0) i0_
 have HK := H.old
 clear H
 go_wp2_with fail
 go_quiet (first | (go_at_call 75; with_reducible exact zAu (C1.out _)) | (go_at_call 76; with_reducible exact zAu (C2.out _)))
 go_wp2
 go_ret
 exact ⟨rfl, zAa HK _⟩
theorem rumay_e (k m d q o s f t : Int) (b : Bool) (w : World) (h : (0 ≤ k ∧ k ≤ 3) ∧ (0 ≤ s ∧ s ≤ 2) ∧ (1 ≤ f ∧ f ≤ t ∧ t ≤ 9999)) (hk : k = 1 ∨ k = 2) (hm : 1 ≤ m ∧ m ≤ 12) (d2 : Bool) (hd : decide (0 ≤ d ∧ d ≤ 6) = d2) (q2 : Bool) (hq : decide (1 ≤ q ∧ q ≤ 5) = q2) : Calls Tryz.prog 52 #[.agg #[.int .i64 k, .int .i64 m, .int .i64 d, .int .i64 q, .int .i64 o, .int .i64 s, .int .i64 f, .int .i64 t]] w fun e w' => e = .returned (.bool (d2 && (k == 2 || q2))) ∧ Below w.heap.size w w' := by
 have H := Held.start w
 have C1 := Lib.hid (fun v => zQp d 0 6 d2 v hd)
 have C2 := Lib.hid (fun v => zQp q 1 5 q2 v hq)
 obtain ⟨⟨a1, a2⟩, ⟨a3, a4⟩, a5, a6, a7⟩ := h
 obtain ⟨m1, m2⟩ := hm
 clear hd hq
 go_enter Tryz.func52, Tryz.ntmps52
 replace H := H.oct (w.heap.size) (.int .i64 k) (.int .i64 m) (.int .i64 d) (.int .i64 q) (.int .i64 o) (.int .i64 s) (.int .i64 f) (.int .i64 t) 76 rfl
 go_wp2_with fail
 (with_reducible refine (C1.out _).mono ?_)
 rintro e w1 ⟨rfl, hb1⟩
 replace H := H.below hb1
 clear hb1
 have c0 := H.cell (w.heap.size) 0 (.int .i64 k) i0_
 have c1 := H.cell (w.heap.size) 1 (.int .i64 m) i1_
 have c2 := H.cell (w.heap.size) 2 (.int .i64 d) i2_
 have c3 := H.cell (w.heap.size) 3 (.int .i64 q) i3_
 have c4 := H.cell (w.heap.size) 4 (.int .i64 o) i4_
 have c5 := H.cell (w.heap.size) 5 (.int .i64 s) i5_
 have c6 := H.cell (w.heap.size) 6 (.int .i64 f) i6_
 have c7 := H.cell (w.heap.size) 7 (.int .i64 t) i7_
 cases d2
 ·go_wp2
  go_ret
  exact ⟨rfl, H.old⟩
 ·rcases hk with rfl | rfl
  ·go_wp2_with fail
   (with_reducible refine (C2.out _).mono ?_)
   rintro e w2 ⟨rfl, hb1⟩
   replace H := H.below hb1
   clear hb1
   go_wp2
   go_ret
   exact ⟨rfl, H.old⟩
  ·go_wp2
   go_ret
   exact ⟨rfl, H.old⟩
theorem zQt (k m d q o s f t : Int) (b : Bool) (w : World) (hb : Ru.mb ⟨k, m, d, q, o, s, f, t⟩ = b) : Calls Tryz.prog 52 #[.agg #[.int .i64 k, .int .i64 m, .int .i64 d, .int .i64 q, .int .i64 o, .int .i64 s, .int .i64 f, .int .i64 t]] w fun e w' => e = .returned (.bool b) ∧ Below w.heap.size w w' := by
 by_cases h : (0 ≤ k ∧ k ≤ 3) ∧ (0 ≤ s ∧ s ≤ 2) ∧ (1 ≤ f ∧ f ≤ t ∧ t ≤ 9999)
 ·by_cases h3 : k = 3
  ·have e : decide (-100 ≤ o ∧ o ≤ 250) = b := by
    rw [← hb]; unfold Ru.mb; rw [decide_eq_decide]
    refine ⟨fun a => ⟨h.1, h.2.1, h.2.2, fun _ => a, fun c => absurd h3 c, fun c => ?_, fun c => ?_, fun c => ?_⟩, fun a => a.2.2.2.1 h3⟩ <;> (simp only at c; omega)
   exact rumay_b _ _ _ _ _ _ _ _ _ w h h3 e
  ·by_cases hm : 1 ≤ m ∧ m ≤ 12
   ·by_cases h0 : k = 0
    ·have e : decide (1 ≤ d ∧ d ≤ ln 2000 m) = b := by
      rw [← hb]; unfold Ru.mb; rw [decide_eq_decide]
      refine ⟨fun a => ⟨h.1, h.2.1, h.2.2, fun c => absurd c h3, fun _ => hm, fun _ => a, fun c => ?_, fun c => ?_⟩, fun a => a.2.2.2.2.2.1 h0⟩ <;> (simp only at c; omega)
     exact rumay_d _ _ _ _ _ _ _ _ _ w h h0 hm e
    ·have h12 : k = 1 ∨ k = 2 := by omega
     have e : (decide (0 ≤ d ∧ d ≤ 6) && (k == 2 || decide (1 ≤ q ∧ q ≤ 5))) = b := by
      rw [← hb, Bool.eq_iff_iff]
      unfold Ru.mb
      simp only [Bool.and_eq_true, Bool.or_eq_true, decide_eq_true_eq, beq_iff_eq]
      refine ⟨fun a => ⟨h.1, h.2.1, h.2.2, fun c => absurd c h3, fun _ => hm, fun c => absurd c h0, fun _ => a.1, fun c => ?_⟩, fun a => ⟨a.2.2.2.2.2.2.1 h12, ?_⟩⟩
      ·simp only at c; rcases a.2 with x | x
       ·omega
       ·exact x
      ·rcases h12 with x | x
       ·exact Or.inr (a.2.2.2.2.2.2.2 x)
       ·exact Or.inl x
     rw [← e]
     exact rumay_e _ _ _ _ _ _ _ _ true w h h12 hm _ rfl _ rfl
   ·have e : Ru.mb ⟨k, m, d, q, o, s, f, t⟩ = false := ru_no (fun a => hm (a.2.2.2.2.1 h3))
    rw [← hb, e]
    exact rumay_c _ _ _ _ _ _ _ _ true w h h3 hm
 ·have e : Ru.mb ⟨k, m, d, q, o, s, f, t⟩ = false := ru_no (fun a => h ⟨a.1, a.2.1, a.2.2.1⟩)
  rw [← hb, e]
  exact rumay_a _ _ _ _ _ _ _ _ true w h
theorem ru_is_bd {r : Ru} {n : Int} (h : r.Is n) : 1 ≤ n ∧ n ≤ 3652059 := by
 obtain ⟨h0, y, hy⟩ := h
 have := inn_bd (r := r) y
 omega
theorem Held.box_9 {w W : World} {fs : List Fact} (h : Held w fs W) (B : Nat) (x0 x1 x2 x3 x4 x5 x6 x7 x8 : Value) (t : TypeId) (hB : W.heap.size = B) :
  Held w (.cell B 0 x0 :: .cell B 1 x1 :: .cell B 2 x2 :: .cell B 3 x3 :: .cell B 4 x4 :: .cell B 5 x5 :: .cell B 6 x6 :: .cell B 7 x7 :: .cell B 8 x8 :: .free B 0 :: .free B 1 :: .free B 2 :: .free B 3 :: .free B 4 :: .free B 5 :: .free B 6 :: .free B 7 :: .free B 8 :: fs) (W.alloc (.cells #[x0, x1, x2, x3, x4, x5, x6, x7, x8] t)) := by
 subst hB
 exact ((((((((((((((((((h.alloc _).add (f := .free W.heap.size 8) ⟨by simp, by simp [go_sem]⟩).add (f := .free W.heap.size 7) ⟨by simp, by simp [go_sem]⟩).add (f := .free W.heap.size 6) ⟨by simp, by simp [go_sem]⟩).add (f := .free W.heap.size 5) ⟨by simp, by simp [go_sem]⟩).add (f := .free W.heap.size 4) ⟨by simp, by simp [go_sem]⟩).add (f := .free W.heap.size 3) ⟨by simp, by simp [go_sem]⟩).add (f := .free W.heap.size 2) ⟨by simp, by simp [go_sem]⟩).add (f := .free W.heap.size 1) ⟨by simp, by simp [go_sem]⟩).add (f := .free W.heap.size 0) ⟨by simp, by simp [go_sem]⟩).add (f := .cell W.heap.size 8 x8) (by simp [Fact.at, World.cell?_alloc_new])).add (f := .cell W.heap.size 7 x7) (by simp [Fact.at, World.cell?_alloc_new])).add (f := .cell W.heap.size 6 x6) (by simp [Fact.at, World.cell?_alloc_new])).add (f := .cell W.heap.size 5 x5) (by simp [Fact.at, World.cell?_alloc_new])).add (f := .cell W.heap.size 4 x4) (by simp [Fact.at, World.cell?_alloc_new])).add (f := .cell W.heap.size 3 x3) (by simp [Fact.at, World.cell?_alloc_new])).add (f := .cell W.heap.size 2 x2) (by simp [Fact.at, World.cell?_alloc_new])).add (f := .cell W.heap.size 1 x1) (by simp [Fact.at, World.cell?_alloc_new])).add (f := .cell W.heap.size 0 x0) (by simp [Fact.at, World.cell?_alloc_new])
def DCells (W : World) (b off : Nat) (X : Nat → Int) (n : Nat) : Prop := ∀ j, j < n → W.cell? ⟨b, off + j, none⟩ = some (.int .i64 (X j))
theorem DCells.below {W W' : World} {b off n : Nat} {X : Nat → Int} (h : DCells W b off X n) (hb : Below W.heap.size W W') : DCells W' b off X n := fun j hj => keep hb (zA0 (h j hj)) (h j hj)
def DaysAt (W : World) (ao : Option Addr) (X : Nat → Int) (n cap : Nat) : Prop := n ≤ cap ∧ (0 < n → ∃ b off, ao = some ⟨b, off, none⟩ ∧ DCells W b off X n)
theorem DaysAt.below {W W' : World} {ao : Option Addr} {n cap : Nat} {X : Nat → Int} (h : DaysAt W ao X n cap) (hb : Below W.heap.size W W') : DaysAt W' ao X n cap :=
 ⟨h.1, fun hn => by obtain ⟨b, off, e, hc⟩ := h.2 hn; exact ⟨b, off, e, hc.below hb⟩⟩
structure RCell (W : World) (b off : Nat) (r : Ru) : Prop where
 c0 : W.cell? ⟨b, off, none⟩ = some (.int .i64 r.k)
 c1 : W.cell? ⟨b, off + 1, none⟩ = some (.int .i64 r.m)
 c2 : W.cell? ⟨b, off + 2, none⟩ = some (.int .i64 r.d)
 c3 : W.cell? ⟨b, off + 3, none⟩ = some (.int .i64 r.q)
 c4 : W.cell? ⟨b, off + 4, none⟩ = some (.int .i64 r.o)
 c5 : W.cell? ⟨b, off + 5, none⟩ = some (.int .i64 r.s)
 c6 : W.cell? ⟨b, off + 6, none⟩ = some (.int .i64 r.f)
 c7 : W.cell? ⟨b, off + 7, none⟩ = some (.int .i64 r.t)
theorem RCell.below {W W' : World} {b off : Nat} {r : Ru} (h : RCell W b off r) (hb : Below W.heap.size W W') : RCell W' b off r :=
 ⟨keep hb (zA0 h.c0) h.c0, keep hb (zA0 h.c1) h.c1, keep hb (zA0 h.c2) h.c2, keep hb (zA0 h.c3) h.c3, keep hb (zA0 h.c4) h.c4, keep hb (zA0 h.c5) h.c5, keep hb (zA0 h.c6) h.c6, keep hb (zA0 h.c7) h.c7⟩
def RCells (W : World) (b off : Nat) (R : Nat → Ru) (n : Nat) : Prop := ∀ j, j < n → RCell W b (off + j * 8) (R j)
theorem RCells.below {W W' : World} {b off n : Nat} {R : Nat → Ru} (h : RCells W b off R n) (hb : Below W.heap.size W W') : RCells W' b off R n := fun j hj => (h j hj).below hb
def RulesAt (W : World) (ao : Option Addr) (R : Nat → Ru) (n cap : Nat) : Prop := n ≤ cap ∧ (0 < n → ∃ b off, ao = some ⟨b, off, none⟩ ∧ RCells W b off R n)
theorem RulesAt.below {W W' : World} {ao : Option Addr} {n cap : Nat} {R : Nat → Ru} (h : RulesAt W ao R n cap) (hb : Below W.heap.size W W') : RulesAt W' ao R n cap :=
 ⟨h.1, fun hn => by obtain ⟨b, off, e, hc⟩ := h.2 hn; exact ⟨b, off, e, hc.below hb⟩⟩
def CalAt (W : World) (c : Ca) (aR : Option Addr) (cR : Nat) (aD : Option Addr) (cD : Nat) : Prop := RulesAt W aR c.R c.nr cR ∧ DaysAt W aD c.X c.nd cD
theorem CalAt.below {W W' : World} {c : Ca} {aR : Option Addr} {cR : Nat} {aD : Option Addr} {cD : Nat} (h : CalAt W c aR cR aD cD) (hb : Below W.heap.size W W') : CalAt W' c aR cR aD cD := ⟨h.1.below hb, h.2.below hb⟩
def calF (c : Ca) (aR : Option Addr) (cR : Nat) (aD : Option Addr) (cD : Nat) : Fact := .that (fun W => CalAt W c aR cR aD cD) (fun _ _ hb h => h.below hb)
theorem Held.cal {w W : World} {fs : List Fact} {c : Ca} {aR : Option Addr} {cR : Nat} {aD : Option Addr} {cD : Nat} (h : Held w fs W) (hm : calF c aR cR aD cD ∈ fs := by repeat (first | with_reducible exact List.mem_cons_self | with_reducible apply List.mem_cons_of_mem)) : CalAt W c aR cR aD cD := h.all _ hm
theorem off_at {W : World} {B v : Nat} {o : Nat → Bool} (v7 : v < 7) (h0 : W.cell? ⟨B, 0, none⟩ = some (.bool (o 0))) (h1 : W.cell? ⟨B, 1, none⟩ = some (.bool (o 1))) (h2 : W.cell? ⟨B, 2, none⟩ = some (.bool (o 2))) (h3 : W.cell? ⟨B, 3, none⟩ = some (.bool (o 3))) (h4 : W.cell? ⟨B, 4, none⟩ = some (.bool (o 4))) (h5 : W.cell? ⟨B, 5, none⟩ = some (.bool (o 5))) (h6 : W.cell? ⟨B, 6, none⟩ = some (.bool (o 6))) : W.cell? ⟨B, v, none⟩ = some (.bool (o v)) := by
 match v, v7 with
 | 0, _ => exact h0
 | 1, _ => exact h1
 | 2, _ => exact h2
 | 3, _ => exact h3
 | 4, _ => exact h4
 | 5, _ => exact h5
 | 6, _ => exact h6
theorem zA7 (b off j : Nat) : (⟨b, off, none⟩ : Addr).add j = ⟨b, off + j, none⟩ := by
 unfold Addr.add
 split
 ·next h => subst h; rfl
 ·rfl
theorem zQg (n : Int) (b : Bool) (w : World) (h : decide (1 ≤ n ∧ n ≤ 3652059) = b) : Calls Tryz.prog 31 #[.int .i64 n] w fun e w' => e = .returned (.bool b) ∧ w = w' := by
 have HB := Lib.hid h
 clear h
 go_enter Tryz.func31, Tryz.ntmps31
 go_wp2
 all_goals (go_ret; refine ⟨retB ?_, rfl⟩; rw [← HB.out]; rw [Bool.eq_iff_iff]; (try simp only [ge_iff_le, Bool.and_eq_true, decide_eq_true_eq, Bool.false_eq_true, false_iff, true_iff]); omega)
theorem zJg (c : Ca) (aR : Option Addr) (cR : Nat) (aD : Option Addr) (cD : Nat) (b : Bool) (w : World) (h : decide (c.nr ≤ 12 ∧ c.nd ≤ 60) = b) : Calls Tryz.prog 23 #[.agg #[.bool (c.o 0), .bool (c.o 1), .bool (c.o 2), .bool (c.o 3), .bool (c.o 4), .bool (c.o 5), .bool (c.o 6), .slice aR c.nr cR, .slice aD c.nd cD]] w fun e w' => e = .returned (.bool b) ∧ Below w.heap.size w w' := by
 have H := Held.start w
 have HB := Lib.hid h
 clear h
 go_enter Tryz.func23, Tryz.ntmps23
 replace H := H.box_9 (w.heap.size) (.bool (c.o 0)) (.bool (c.o 1)) (.bool (c.o 2)) (.bool (c.o 3)) (.bool (c.o 4)) (.bool (c.o 5)) (.bool (c.o 6)) (.slice aR c.nr cR) (.slice aD c.nd cD) 28 rfl
 go_wp2_with fail
 all_goals (go_ret; refine ⟨retB ?_, H.old⟩; rw [← HB.out, Bool.eq_iff_iff]; (try simp only [decide_eq_true_eq, Bool.false_eq_true, false_iff, true_iff]); omega)
theorem Held.box_7 {w W : World} {fs : List Fact} (h : Held w fs W) (B : Nat) (x0 x1 x2 x3 x4 x5 x6 : Value) (t : TypeId) (hB : W.heap.size = B) :
  Held w (.cell B 0 x0 :: .cell B 1 x1 :: .cell B 2 x2 :: .cell B 3 x3 :: .cell B 4 x4 :: .cell B 5 x5 :: .cell B 6 x6 :: .free B 0 :: .free B 1 :: .free B 2 :: .free B 3 :: .free B 4 :: .free B 5 :: .free B 6 :: fs) (W.alloc (.cells #[x0, x1, x2, x3, x4, x5, x6] t)) := by
 subst hB
 exact ((((((((((((((h.alloc _).add (f := .free W.heap.size 6) ⟨by simp, by simp [go_sem]⟩).add (f := .free W.heap.size 5) ⟨by simp, by simp [go_sem]⟩).add (f := .free W.heap.size 4) ⟨by simp, by simp [go_sem]⟩).add (f := .free W.heap.size 3) ⟨by simp, by simp [go_sem]⟩).add (f := .free W.heap.size 2) ⟨by simp, by simp [go_sem]⟩).add (f := .free W.heap.size 1) ⟨by simp, by simp [go_sem]⟩).add (f := .free W.heap.size 0) ⟨by simp, by simp [go_sem]⟩).add (f := .cell W.heap.size 6 x6) (by simp [Fact.at, World.cell?_alloc_new])).add (f := .cell W.heap.size 5 x5) (by simp [Fact.at, World.cell?_alloc_new])).add (f := .cell W.heap.size 4 x4) (by simp [Fact.at, World.cell?_alloc_new])).add (f := .cell W.heap.size 3 x3) (by simp [Fact.at, World.cell?_alloc_new])).add (f := .cell W.heap.size 2 x2) (by simp [Fact.at, World.cell?_alloc_new])).add (f := .cell W.heap.size 1 x1) (by simp [Fact.at, World.cell?_alloc_new])).add (f := .cell W.heap.size 0 x0) (by simp [Fact.at, World.cell?_alloc_new])
def FactsU (w : World) : Prop := Lens w
theorem FactsU.below {W W' : World} (h : FactsU W) (hb : Below W.heap.size W W') : FactsU W' := Lens.below h hb
def FactsE (w : World) : Prop := Lens w
theorem FactsE.below {W W' : World} (h : FactsE W) (hb : Below W.heap.size W W') : FactsE W' := Lens.below h hb
end Go.Proofs.YtpfgdfpaoldhcaaGreatDoor
