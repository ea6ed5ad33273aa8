/- What the two errors of package actual are while a call goes on; what errors.Is tells of one, wrapped by a refusal or not there at all; the code of it. -/
import Derived.Test.YtobdimekjhdefaaDoorProg
import Derived.Test.YtobdimekjhdefaaDoorCBase
import Derived.LaidEql
import Derived.Stop.Asserts
import Derived.RowKitTokens
namespace Go.Proofs.YtobdimekjhdefaaDoor
open Go.RowKit Go.Extern.Stop Go.Stop Go.Extern
set_option linter.unusedVariables false
set_option linter.unusedSimpArgs false

/-- Both errors stand, apart from each other. -/
def ErrAt (a0 a1 : Addr) (w : World) : Prop := ∃ (c0 c1 : Array Value) (t0 t1 : TypeId),
  w.cell? ⟨0, 0, none⟩ = some (.iface 127 (.pointer (some a0))) ∧ w.cell? ⟨1, 0, none⟩ = some (.iface 127 (.pointer (some a1))) ∧ a0 ≠ a1 ∧
  w.heap[a0.block]? = some (.cells c0 t0 (0, 0)) ∧ w.heap[a1.block]? = some (.cells c1 t1 (0, 0))
theorem row_lt {W : World} {b : Nat} {o : Obj} (h : W.heap[b]? = some o) : b < W.heap.size := by
  rcases Nat.lt_or_ge b W.heap.size with k | k
  · exact k
  · rw [Array.getElem?_eq_none k] at h; cases h
theorem ErrAt.below {a0 a1 : Addr} {W W' : World} (h : ErrAt a0 a1 W) (hb : Below W.heap.size W W') : ErrAt a0 a1 W' := by
  obtain ⟨c0, c1, t0, t1, h0, h1, hne, r0, r1⟩ := h
  exact ⟨c0, c1, t0, t1, keep hb (cell_lt h0) h0, keep hb (cell_lt h1) h1, hne, (hb.block _ (row_lt r0)).trans r0, (hb.block _ (row_lt r1)).trans r1⟩
def Errs (w : World) : Prop := ∃ a0 a1, ErrAt a0 a1 w
theorem Errs.below {W W' : World} (h : Errs W) (hb : Below W.heap.size W W') : Errs W' := by
  obtain ⟨a0, a1, h⟩ := h; exact ⟨a0, a1, h.below hb⟩
/-- The fact that they stand. -/
def errF (a0 a1 : Addr) : Fact := .that (ErrAt a0 a1) (fun _ _ hb h => h.below hb)

/-! What 'reflectlite.TypeOf(target).Comparable()' gives at such a target; what errors.is's assertions find. -/
theorem isTypeOf (v : Value) (w : World) : (Extern.ReflectliteType.typeOf #[.iface 127 v]).run Tryd.prog w = .ok (.iface 111 (.agg #[.pointer (some ⟨5, 127, none⟩)])) w := by kernel_rfl
theorem callComparable (w : World) : (callFunc 103 #[.agg #[.pointer (some ⟨5, 127, none⟩)]]).run Tryd.prog w = .ok (.value (.bool true)) w :=
  (run_callFunc_extern (e := Extern.ReflectliteType.method fun t => do Extern.Rtype.noPackHeld "Comparable" t; pure (Value.bool (← typeInfo t).comparable)) Tryd.func103 (by kernel_rfl) (by kernel_rfl) (by kernel_rfl) (by kernel_rfl) _ w).trans (by kernel_rfl)
theorem isMethodComparable (v : Value) (w : World) : (Go.method 264 111 v "Comparable").run Tryd.prog w = .ok (103, v) w := by kernel_rfl
theorem isComp : (Tryd.prog.info? 127).map (·.comparable) = some true := by kernel_rfl
theorem isSize : (Tryd.prog.info? 153).map (·.size) = some 1 := by kernel_rfl
theorem noIsE (v : Value) (xT : TypeId) (w : World) : (Instr.typeAssert (.iface 127 v) xT 113 true).run Tryd.prog w = .ok (.tuple #[.nilIface, .bool false]) w := run_typeAssert_lacksB Tryd.underlying113 (by kernel_rfl) (by kernel_rfl) v xT w
theorem noUnwrapE (v : Value) (xT : TypeId) (w : World) : (Instr.typeAssert (.iface 127 v) xT 116 true).run Tryd.prog w = .ok (.tuple #[.nilIface, .bool false]) w := run_typeAssert_lacksB Tryd.underlying116 (by kernel_rfl) (by kernel_rfl) v xT w
theorem noUnwrapsE (v : Value) (xT : TypeId) (w : World) : (Instr.typeAssert (.iface 127 v) xT 118 true).run Tryd.prog w = .ok (.tuple #[.nilIface, .bool false]) w := run_typeAssert_lacksB Tryd.underlying118 (by kernel_rfl) (by kernel_rfl) v xT w
theorem noIsR (v : Value) (xT : TypeId) (w : World) : (Instr.typeAssert (.iface 70 v) xT 113 true).run Tryd.prog w = .ok (.tuple #[.nilIface, .bool false]) w := run_typeAssert_lacksB Tryd.underlying113 (by kernel_rfl) (by kernel_rfl) v xT w
theorem hasUnwrapR (v : Value) (xT : TypeId) (w : World) : (Instr.typeAssert (.iface 70 v) xT 116 true).run Tryd.prog w = .ok (.tuple #[.iface 70 v, .bool true]) w := run_typeAssert_hasB Tryd.underlying116 (by kernel_rfl) v xT w
theorem methodUnwrapR (v : Value) (w : World) : (Go.method 264 70 v "Unwrap").run Tryd.prog w = .ok (99, v) w := by kernel_rfl

/-- The error behind a refusal. -/
theorem unwrap_any (s : ByteArray) (e : Value) (w : World) : Calls Tryd.prog 99 #[.agg #[.string s, e]] w fun r w' => r = .returned e ∧ Below w.heap.size w w' := by
  go_enter Tryd.func99, Tryd.ntmps99
  go_wp2
  go_ret
  exact ⟨rfl, (Below.refl _ _).alloc (Nat.le_refl _) _⟩

/-- No error at all. -/
theorem is_nil (b : Addr) (w : World) : Calls Tryd.prog 40 #[.nilIface, .iface 127 (.pointer (some b))] w fun e w' => e = .returned (.bool false) ∧ Below w.heap.size w w' := by
  have hn := run_eql_iface_nil_left (P := Tryd.prog) w 127 (.pointer (some b)) Tryd.underlying49
  go_enter Tryd.func40, Tryd.ntmps40
  go_wp2
  go_ret
  exact ⟨rfl, Below.refl _ _⟩

set_option maxHeartbeats 1000000 in
/-- The very error, wrapped. -/
theorem is_yes (s : ByteArray) (a b : Addr) (w : World) (h : a = b) : Calls Tryd.prog 40 #[.iface 70 (.agg #[.string s, .iface 127 (.pointer (some a))]), .iface 127 (.pointer (some b))] w fun e w' => e = .returned (.bool true) ∧ Below w.heap.size w w' := by
  obtain ⟨i, hi, hcmp⟩ := Option.map_eq_some_iff.1 isComp
  obtain ⟨j, hj, hjs⟩ := Option.map_eq_some_iff.1 isSize
  have hT := @run_callFunc_extern Tryd.prog 61 _ Extern.ReflectliteType.typeOf Tryd.func61 (by kernel_rfl) (by kernel_rfl) (by kernel_rfl) (by kernel_rfl)
  have hC := callComparable
  have tT := isTypeOf
  have mR := isMethodComparable
  have nE := noIsE
  have uE := noUnwrapE
  have vE := noUnwrapsE
  have nW := noIsR
  have uW := hasUnwrapR
  have mU := methodUnwrapR
  subst h
  have heq := fun v => run_eql_iface_ptr_same (P := Tryd.prog) v a Tryd.underlying49 Tryd.underlying127 hi hcmp hj
  have hty := fun v => run_eql_iface_types (P := Tryd.prog) 70 127 (.agg #[.string s, .iface 127 (.pointer (some a))]) (.pointer (some a)) Tryd.underlying49 (by decide) v
  go_enter Tryd.func40, Tryd.ntmps40
  go_wp2
  refine wp_loop_rounds 2 ?_
  rw [rounds_succ]
  go_wp2
  rw [rounds_succ]
  go_wp2
  go_ret
  exact ⟨rfl, (Below.refl _ _).alloc (Nat.le_refl _) _⟩

set_option maxHeartbeats 1000000 in
/-- Another error, wrapped. -/
theorem is_no (s : ByteArray) (a b : Addr) (w : World) (ca cb : Array Value) (ta tb : TypeId) (hne : a ≠ b) (ha : w.heap[a.block]? = some (.cells ca ta (0, 0))) (hb : w.heap[b.block]? = some (.cells cb tb (0, 0))) : Calls Tryd.prog 40 #[.iface 70 (.agg #[.string s, .iface 127 (.pointer (some a))]), .iface 127 (.pointer (some b))] w fun e w' => e = .returned (.bool false) ∧ Below w.heap.size w w' := by
  obtain ⟨i, hi, hcmp⟩ := Option.map_eq_some_iff.1 isComp
  obtain ⟨j, hj, hjs⟩ := Option.map_eq_some_iff.1 isSize
  have hT := @run_callFunc_extern Tryd.prog 61 _ Extern.ReflectliteType.typeOf Tryd.func61 (by kernel_rfl) (by kernel_rfl) (by kernel_rfl) (by kernel_rfl)
  have hC := callComparable
  have tT := isTypeOf
  have mR := isMethodComparable
  have nE := noIsE
  have uE := noUnwrapE
  have vE := noUnwrapsE
  have nW := noIsR
  have uW := hasUnwrapR
  have mU := methodUnwrapR
  have B : Below w.heap.size w (w.alloc (.cells #[.string s, .iface 127 (.pointer (some a))] 70)) := (Below.refl _ _).alloc (Nat.le_refl _) _
  have heq := run_eql_iface_ptr_other (P := Tryd.prog) (w.alloc (.cells #[.string s, .iface 127 (.pointer (some a))] 70)) Tryd.underlying49 Tryd.underlying127 hi hcmp hj (by rw [hjs]; decide) hne ((B.block _ (row_lt ha)).trans ha) ((B.block _ (row_lt hb)).trans hb)
  clear B
  have hty := fun v => run_eql_iface_types (P := Tryd.prog) 70 127 (.agg #[.string s, .iface 127 (.pointer (some a))]) (.pointer (some b)) Tryd.underlying49 (by decide) v
  go_enter Tryd.func40, Tryd.ntmps40
  go_wp2
  refine wp_loop_rounds 2 ?_
  rw [rounds_succ]
  go_wp2
  rw [rounds_succ]
  go_wp2
  go_ret
  exact ⟨rfl, (Below.refl _ _).alloc (Nat.le_refl _) _⟩

/-- None. -/
theorem code_nil (a0 a1 : Addr) (w : World) (h : ErrAt a0 a1 w) : Calls Tryd.prog 25 #[.nilIface] w fun e w' => e = .returned (.int .i64 0) ∧ Below w.heap.size w w' := by
  have H := (Held.start w).add (f := errF a0 a1) h
  clear h
  go_enter Tryd.func25, Tryd.ntmps25
  obtain ⟨c0, c1, t0, t1, h0, h1, hne, r0, r1⟩ := (show ErrAt a0 a1 w from H.all _ (List.Mem.head _))
  go_wp2_with fail
  (with_reducible refine (is_nil a0 _).mono ?_)
  rintro e w1 ⟨rfl, hb⟩
  replace H := H.below hb
  clear hb
  obtain ⟨d0, d1, s0, s1, g0, g1, -, q0, q1⟩ := (show ErrAt a0 a1 w1 from H.all _ (List.Mem.head _))
  go_wp2_with fail
  (with_reducible refine (is_nil a1 _).mono ?_)
  rintro e w2 ⟨rfl, hb⟩
  replace H := H.below hb
  clear hb
  go_wp2_with fail
  go_ret
  exact ⟨rfl, H.old⟩

/-- A day that is none. -/
theorem code_day (s : ByteArray) (a0 a1 : Addr) (w : World) (h : ErrAt a0 a1 w) : Calls Tryd.prog 25 #[.iface 70 (.agg #[.string s, .iface 127 (.pointer (some a0))])] w fun e w' => e = .returned (.int .i64 3) ∧ Below w.heap.size w w' := by
  have H := (Held.start w).add (f := errF a0 a1) h
  clear h
  go_enter Tryd.func25, Tryd.ntmps25
  obtain ⟨c0, c1, t0, t1, h0, h1, hne, r0, r1⟩ := (show ErrAt a0 a1 w from H.all _ (List.Mem.head _))
  go_wp2_with fail
  (with_reducible refine (is_yes s a0 a0 _ rfl).mono ?_)
  rintro e w1 ⟨rfl, hb⟩
  replace H := H.below hb
  clear hb
  go_wp2_with fail
  go_ret
  exact ⟨rfl, H.old⟩

/-- The wrong way round. -/
theorem code_order (s : ByteArray) (a0 a1 : Addr) (w : World) (h : ErrAt a0 a1 w) : Calls Tryd.prog 25 #[.iface 70 (.agg #[.string s, .iface 127 (.pointer (some a1))])] w fun e w' => e = .returned (.int .i64 4) ∧ Below w.heap.size w w' := by
  have H := (Held.start w).add (f := errF a0 a1) h
  clear h
  go_enter Tryd.func25, Tryd.ntmps25
  obtain ⟨c0, c1, t0, t1, h0, h1, hne, r0, r1⟩ := (show ErrAt a0 a1 w from H.all _ (List.Mem.head _))
  go_wp2_with fail
  (with_reducible refine (is_no s a1 a0 _ c1 c0 t1 t0 (Ne.symm hne) r1 r0).mono ?_)
  rintro e w1 ⟨rfl, hb⟩
  replace H := H.below hb
  clear hb
  obtain ⟨d0, d1, s0, s1, g0, g1, -, q0, q1⟩ := (show ErrAt a0 a1 w1 from H.all _ (List.Mem.head _))
  go_wp2_with fail
  (with_reducible refine (is_yes s a1 a1 _ rfl).mono ?_)
  rintro e w2 ⟨rfl, hb⟩
  replace H := H.below hb
  clear hb
  go_wp2_with fail
  go_ret
  exact ⟨rfl, H.old⟩
end Go.Proofs.YtobdimekjhdefaaDoor
