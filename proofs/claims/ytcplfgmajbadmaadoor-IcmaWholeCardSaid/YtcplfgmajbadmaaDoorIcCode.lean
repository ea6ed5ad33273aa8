/- errors.As at a refusal; the code of it. -/
import Derived.Test.YtcplfgmajbadmaaDoorIcErr
namespace Go.Proofs.YtcplfgmajbadmaaDoor
open Go.RowKit Go.Extern.Stop Go.Stop Go.Extern
set_option linter.unusedVariables false
set_option linter.unusedSimpArgs false

theorem asLoadR (b : Nat) (c : Int) (y : Value) (W : World) (h0 : W.cell? ⟨b, 0, none⟩ = some (.int .i64 c)) (h1 : W.cell? ⟨b, 1, none⟩ = some y) : (loadVar 74 ⟨b, 0, none⟩).run Tryd.prog W = .ok (.agg #[.int .i64 c, y]) W := by
  have hl := run_loadCells_list (P := Tryd.prog) (w := W) ⟨b, 0, none⟩ [.int .i64 c, y] (fun j v hj => by
    match j, hj with
    | 0, hj => simp at hj; subst hj; simpa [Addr.add] using h0
    | 1, hj => simp at hj; subst hj; simpa [Addr.add] using h1)
  simp only [List.length_cons, List.length_nil, Nat.zero_add, Nat.reduceAdd] at hl
  simp [loadVar, isAgg, underlying, Tryd.underlying74, Result.andThen, asSizeR, hl]

theorem asStoreR (b : Nat) (c : Int) (x : TypeId) (v o0 o1 : Value) (W : World) (h0 : W.cell? ⟨b, 0, none⟩ = some o0) (h1 : W.cell? ⟨b, 1, none⟩ = some o1) (f0 : W.frozen? ⟨b, 0, none⟩ = false) (f1 : W.frozen? ⟨b, 1, none⟩ = false) :
    (storeVar 74 ⟨b, 0, none⟩ (.agg #[.int .i64 c, .iface x v])).run Tryd.prog W = .ok () ((W.setCell ⟨b, 0, none⟩ (.int .i64 c)).setCell ⟨b, 1, none⟩ (.iface x v)) := by
  have hs := run_storeCells_cells (P := Tryd.prog) b 0 [.int .i64 c, .iface x v] 0 W (fun j hj => by
    match j, hj with
    | 0, _ => simp [h0]
    | 1, _ => simp [h1]
    | j + 2, hj => have k : j + 2 < 2 := hj; omega) (fun j hj => by
    match j, hj with
    | 0, _ => simpa using f0
    | 1, _ => simpa using f1
    | j + 2, hj => have k : j + 2 < 2 := hj; omega) (fun u hu => by simp at hu; rcases hu with rfl | rfl <;> rfl)
  simp [storeVar, Value.cells, asSizeR, Result.andThen]
  exact hs

theorem asSet (d b : Nat) (c : Int) (x : TypeId) (v o0 o1 : Value) (W : World) (b0 : W.cell? ⟨b, 0, none⟩ = some (.int .i64 c)) (b1 : W.cell? ⟨b, 1, none⟩ = some (.iface x v))
    (h0 : W.cell? ⟨d, 0, none⟩ = some o0) (h1 : W.cell? ⟨d, 1, none⟩ = some o1) (f0 : W.frozen? ⟨d, 0, none⟩ = false) (f1 : W.frozen? ⟨d, 1, none⟩ = false) :
    (ReflectliteValue.set #[.agg #[.pointer (some ⟨11, 74, none⟩), .pointer (some ⟨d, 0, none⟩), .int .u64 409], .agg #[.pointer (some ⟨11, 74, none⟩), .pointer (some ⟨b, 0, none⟩), .int .u64 153]]).run Tryd.prog W
      = .ok (.tuple #[]) ((W.setCell ⟨d, 0, none⟩ (.int .i64 c)).setCell ⟨d, 1, none⟩ (.iface x v)) := by
  have hl := asLoadR b c _ W b0 b1
  have hs := asStoreR d c x v o0 o1 W h0 h1 f0 f1
  rw [asRls]
  simp only [Sem.run_bind, asPartsRa, asPartsR, Result.andThen]
  simp [ReflectliteValue.flagAddr, hl, Result.andThen, asDirectR, hs]

set_option maxHeartbeats 4000000 in
theorem as_hit (c : Int) (x : TypeId) (v o0 o1 : Value) (d : Nat) (w : World) (hg : w.cell? ⟨7, 0, none⟩ = some (.iface 127 (.agg #[.pointer (some ⟨11, 54, none⟩)])))
    (h0 : w.cell? ⟨d, 0, none⟩ = some o0) (h1 : w.cell? ⟨d, 1, none⟩ = some o1) (f0 : w.frozen? ⟨d, 0, none⟩ = false) (f1 : w.frozen? ⟨d, 1, none⟩ = false) :
    Calls Tryd.prog 30 #[.iface 74 (.agg #[.int .i64 c, .iface x v]), .iface 76 (.pointer (some ⟨d, 0, none⟩))] w fun ev w' => ev = .returned (.bool true) ∧
      w' = (((((w.alloc (.cells #[.pointer (some ⟨d, 0, none⟩)] 76)).alloc (.cells #[.pointer (some ⟨11, 76, none⟩), .pointer (some ⟨w.heap.size, 0, none⟩), .int .u64 150] 105)).alloc (.cells #[.pointer (some ⟨11, 76, none⟩), .pointer (some ⟨w.heap.size, 0, none⟩), .int .u64 150] 105)).alloc (.cells #[.int .i64 c, .iface x v] 74)).setCell ⟨d, 0, none⟩ (.int .i64 c)).setCell ⟨d, 1, none⟩ (.iface x v) := by
  obtain ⟨t, ht⟩ : ∃ t : Addr, t = ⟨d, 0, none⟩ := ⟨_, rfl⟩
  have h6 := @run_callFunc_extern Tryd.prog 52 _ (fun args => ReflectliteValue.unpack (args.getD 0 (.tuple #[]))) Tryd.func52 (by kernel_rfl) (by kernel_rfl) (by kernel_rfl) (by kernel_rfl)
  have h7 := @run_callFunc_extern Tryd.prog 53 _ (ReflectliteValue.methodAny (ReflectliteValue.valueError "reflectlite.Value.Type" 0) (fun t _ _ _ => ReflectliteType.toType t)) Tryd.func53 (by kernel_rfl) (by kernel_rfl) (by kernel_rfl) (by kernel_rfl)
  have h8 := @run_callFunc_extern Tryd.prog 54 _ (ReflectliteValue.method (ReflectliteValue.valueError "reflectlite.Value.IsNil" 0) ReflectliteValue.isNil) Tryd.func54 (by kernel_rfl) (by kernel_rfl) (by kernel_rfl) (by kernel_rfl)
  have h27 := @run_callFunc_extern Tryd.prog 97 _ (ReflectliteType.abiMethod fun t => do pure (.int .u8 (← Rtype.kind t))) Tryd.func97 (by kernel_rfl) (by kernel_rfl) (by kernel_rfl) (by kernel_rfl)
  have h37 := @run_callFunc_extern Tryd.prog 108 _ (ReflectliteType.method ReflectliteType.elem) Tryd.func108 (by kernel_rfl) (by kernel_rfl) (by kernel_rfl) (by kernel_rfl)
  have h38 := @run_callFunc_extern Tryd.prog 109 _ (ReflectliteType.relation "Implements" ReflectliteType.implements_) Tryd.func109 (by kernel_rfl) (by kernel_rfl) (by kernel_rfl) (by kernel_rfl)
  have h10 := @run_callFunc_extern Tryd.prog 71 _ ReflectliteType.typeOf Tryd.func71 (by kernel_rfl) (by kernel_rfl) (by kernel_rfl) (by kernel_rfl)
  have h35 := @run_callFunc_extern Tryd.prog 106 _ (ReflectliteType.relation "AssignableTo" ReflectliteType.assignableTo) Tryd.func106 (by kernel_rfl) (by kernel_rfl) (by kernel_rfl) (by kernel_rfl)
  have h11 := @run_callFunc_extern Tryd.prog 72 _ (ReflectliteValue.method (ReflectliteValue.valueError "reflectlite.Value.Elem" 0) ReflectliteValue.elem) Tryd.func72 (by kernel_rfl) (by kernel_rfl) (by kernel_rfl) (by kernel_rfl)
  have h12 := @run_callFunc_extern Tryd.prog 73 _ ReflectliteValue.set Tryd.func73 (by kernel_rfl) (by kernel_rfl) (by kernel_rfl) (by kernel_rfl)
  have tO := asTypeOfR
  have mA := asMethodAssignableTo
  have a25 := asAssignableR
  have v25 := asValueOfR
  have f6 := asValueOfP
  have f7 := asTypeP
  have mK := asMethodKind
  have mE := asMethodElem
  have mI := asMethodImplements
  have k27 := asKindP
  have k25 := asKindR
  have e27 := asElemP
  have i25 := asImplementsR
  have hdl : d < w.heap.size := cell_lt h0
  have hgl := cell_lt hg
  have HH := (((((Held.start w).add (f := .cell d 0 o0) h0).add (f := .cell d 1 o1) h1).add (f := .free d 0) ⟨hdl, f0⟩).add (f := .free d 1) ⟨hdl, f1⟩).add (f := .cell 7 0 _) hg
  have H1 := HH.lone w.heap.size (.pointer (some t)) 76 rfl
  have H2 := H1.triple (w.heap.size + 1) (.pointer (some ⟨11, 76, none⟩)) (.pointer (some ⟨w.heap.size, 0, none⟩)) (.int .u64 150) 105 (by simp)
  have H3 := H2.triple (w.heap.size + 2) (.pointer (some ⟨11, 76, none⟩)) (.pointer (some ⟨w.heap.size, 0, none⟩)) (.int .u64 150) 105 (by simp)
  have H4 := H3.pair (w.heap.size + 3) (.int .i64 c) (.iface x v) 74 (by simp)
  have MM : True := trivial
  have n8 := asIsNil ⟨w.heap.size, 0, none⟩ t ((w.alloc (.cells #[.pointer (some t)] 76)).alloc (.cells #[.pointer (some ⟨11, 76, none⟩), .pointer (some ⟨w.heap.size, 0, none⟩), .int .u64 150] 105)) (H2.cell _ _ _ (by repeat (first | with_reducible exact List.mem_cons_self | with_reducible apply List.mem_cons_of_mem)))
  have hg2 := H2.cell 7 0 _ (by repeat (first | with_reducible exact List.mem_cons_self | with_reducible apply List.mem_cons_of_mem))
  have el := asElemV ⟨w.heap.size, 0, none⟩ t (((w.alloc (.cells #[.pointer (some t)] 76)).alloc (.cells #[.pointer (some ⟨11, 76, none⟩), .pointer (some ⟨w.heap.size, 0, none⟩), .int .u64 150] 105)).alloc (.cells #[.pointer (some ⟨11, 76, none⟩), .pointer (some ⟨w.heap.size, 0, none⟩), .int .u64 150] 105)) (H3.cell _ _ _ (by repeat (first | with_reducible exact List.mem_cons_self | with_reducible apply List.mem_cons_of_mem)))
  have st := asSet d (w.heap.size + 3) c x v o0 o1 ((((w.alloc (.cells #[.pointer (some t)] 76)).alloc (.cells #[.pointer (some ⟨11, 76, none⟩), .pointer (some ⟨w.heap.size, 0, none⟩), .int .u64 150] 105)).alloc (.cells #[.pointer (some ⟨11, 76, none⟩), .pointer (some ⟨w.heap.size, 0, none⟩), .int .u64 150] 105)).alloc (.cells #[.int .i64 c, .iface x v] 74)) (H4.cell _ _ _ (by repeat (first | with_reducible exact List.mem_cons_self | with_reducible apply List.mem_cons_of_mem))) (H4.cell _ _ _ (by repeat (first | with_reducible exact List.mem_cons_self | with_reducible apply List.mem_cons_of_mem)))
    (H4.cell _ _ _ (by repeat (first | with_reducible exact List.mem_cons_self | with_reducible apply List.mem_cons_of_mem))) (H4.cell _ _ _ (by repeat (first | with_reducible exact List.mem_cons_self | with_reducible apply List.mem_cons_of_mem)))
    (H4.frozen _ _ (by repeat (first | with_reducible exact List.mem_cons_self | with_reducible apply List.mem_cons_of_mem))) (H4.frozen _ _ (by repeat (first | with_reducible exact List.mem_cons_self | with_reducible apply List.mem_cons_of_mem)))
  subst ht
  clear HH H1 H2 H3 H4 MM h0 h1 f0 f1 hdl hgl
  go_enter Tryd.func30, Tryd.ntmps30
  go_wp2
  refine wp_loop_rounds 1 ?_
  rw [rounds_succ]
  go_wp2
  go_ret
  exact ⟨rfl, rfl⟩

/-- None. -/
theorem code_nil (w : World) : Calls Tryd.prog 18 #[.nilIface] w fun e w' => e = .returned (.int .i64 0) ∧ Below w.heap.size w w' := by
  have H := Held.start w
  go_enter Tryd.func18, Tryd.ntmps18
  go_wp2_with fail
  replace H := H.pair (w.heap.size) (.int .i64 0) .nilIface 74 rfl
  (with_reducible refine (as_nil _ _).mono ?_)
  rintro e w1 ⟨rfl, rfl⟩
  go_wp2_with fail
  go_ret
  exact ⟨rfl, H.old⟩

set_option maxHeartbeats 1000000 in
/-- A refusal's. -/
theorem code_any (c : Int) (x : TypeId) (v : Value) (w : World) (hE : Facts w) : Calls Tryd.prog 18 #[.iface 74 (.agg #[.int .i64 c, .iface x v])] w fun e w' => e = .returned (.int .i64 c) ∧ Below w.heap.size w w' := by
  have H := (Held.start w).add (f := .cell 7 0 _) hE.2.1
  clear hE
  go_enter Tryd.func18, Tryd.ntmps18
  go_wp2_with fail
  replace H := H.pair (w.heap.size) (.int .i64 0) .nilIface 74 rfl
  (with_reducible refine (as_hit c x v (.int .i64 0) .nilIface w.heap.size _ (H.cell _ _ _ (by repeat (first | with_reducible exact List.mem_cons_self | with_reducible apply List.mem_cons_of_mem))) (H.cell _ _ _ (by repeat (first | with_reducible exact List.mem_cons_self | with_reducible apply List.mem_cons_of_mem))) (H.cell _ _ _ (by repeat (first | with_reducible exact List.mem_cons_self | with_reducible apply List.mem_cons_of_mem))) (H.frozen _ _ (by repeat (first | with_reducible exact List.mem_cons_self | with_reducible apply List.mem_cons_of_mem))) (H.frozen _ _ (by repeat (first | with_reducible exact List.mem_cons_self | with_reducible apply List.mem_cons_of_mem)))).mono ?_)
  rintro e w1 ⟨rfl, hw⟩
  have B0 := H.old
  have c0 := H.cell (w.heap.size) 0 _ (List.Mem.head _)
  obtain ⟨W0, hW0⟩ : ∃ W0, w.alloc (.cells #[.int .i64 0, .nilIface] 74) = W0 := ⟨_, rfl⟩
  rw [hW0] at hw H c0 B0
  have l0 := cell_lt c0
  have B1 : Below w.heap.size w w1 := by
    rw [hw]
    repeat (first | exact B0 | refine Below.setCell ?_ (by simp) _ | refine Below.alloc ?_ (by first | omega | (simp; omega)) _)
  have c1 : w1.cell? ⟨w.heap.size, 0, none⟩ = some (.int .i64 c) := by
    rw [hw]
    rw [World.cell?_setCell_other _ _ _ _ (by simp)]
    refine World.cell?_setCell_same' _ _ _ ?_
    rw [World.cell?_alloc_lt _ _ _ (by simp; omega), World.cell?_alloc_lt _ _ _ (by simp; omega), World.cell?_alloc_lt _ _ _ (by simp; omega), World.cell?_alloc_lt _ _ _ l0, c0]
    rfl
  clear hw H B0 c0 l0 hW0
  go_wp2_with fail
  go_ret
  exact ⟨rfl, B1⟩
end Go.Proofs.YtcplfgmajbadmaaDoor
