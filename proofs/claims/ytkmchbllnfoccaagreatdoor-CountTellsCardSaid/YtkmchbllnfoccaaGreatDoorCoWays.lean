/- Package count: what each teller tells, and Part by each way: what the walks ask (CWay). -/
import Derived.Test.YtkmchbllnfoccaaGreatDoorCoShown
import Derived.Test.YtkmchbllnfoccaaGreatDoorCoTab
import Derived.Test.YtkmchbllnfoccaaGreatDoorGTy
import Derived.Test.YtkmchbllnfoccaaGreatDoorGAc
import Derived.Test.YtkmchbllnfoccaaGreatDoorGIc
namespace Go.Proofs.YtkmchbllnfoccaaGreatDoor
open Go.RowKit
set_option linter.unusedVariables false
set_option linter.unusedSimpArgs false

theorem FactsC.lens {W : World} (h : FactsC W) : Lens W := h.1
theorem FactsC.facts_ac {W : World} (h : FactsC W) : Facts_ac W := ⟨h.1, h.2.1⟩
theorem FactsC.facts {W : World} (h : FactsC W) : Facts W := ⟨h.1, h.2.2⟩
set_option maxHeartbeats 4000000 in
set_option maxRecDepth 100000 in
theorem tell_0 (a b : Int) (t : Bool) (en f : Int) (ao : Option Addr) (n cap : Nat) (X : Nat → Int) (p q c : Int) (w : World) (hF : FactsC w) (h : PartIs (uX t) a b p q c) : Calls Tryz.prog 44 #[.int .i64 a, .int .i64 b, .agg #[.bool t, .int .i64 en, .int .i64 f, .slice ao n cap]] w fun e w' => e = .returned (.tuple #[.agg #[.int .i64 p, .int .i64 q], .int .i64 c]) ∧ Below w.heap.size w w' := by
  have C := Lib.hid (fun (v : World) (hv : Lens v) => ways_ty.us a b p q c t v hv h)
  have H := (Held.start w).add (f := factsCF) hF
  clear hF h
  go_enter Tryz.func44, Tryz.ntmps44
  go_wp2_with fail
  replace H := H.quad (w.heap.size) (.bool t) (.int .i64 en) (.int .i64 f) (.slice ao n cap) 24 rfl
  replace H := H.pair (w.heap.size + 1) (.int .i64 0) (.int .i64 0) 29 (by simp)
  (with_reducible refine (C.out _ (H.factsC (by repeat (first | with_reducible exact List.mem_cons_self | with_reducible apply List.mem_cons_of_mem))).lens).mono ?_)
  rintro e w1 ⟨rfl, hb⟩
  replace H := H.below hb
  clear hb
  have cz0 := H.cell (w.heap.size + 1) 0 (.int .i64 0) (by repeat (first | with_reducible exact List.mem_cons_self | with_reducible apply List.mem_cons_of_mem))
  have cz1 := H.cell (w.heap.size + 1) 1 (.int .i64 0) (by repeat (first | with_reducible exact List.mem_cons_self | with_reducible apply List.mem_cons_of_mem))
  have lz := cell_lt cz0
  have fz0 := H.frozen (w.heap.size + 1) 0 (by repeat (first | with_reducible exact List.mem_cons_self | with_reducible apply List.mem_cons_of_mem))
  have fz1 := H.frozen (w.heap.size + 1) 1 (by repeat (first | with_reducible exact List.mem_cons_self | with_reducible apply List.mem_cons_of_mem))
  have HK := H.old
  clear H
  go_wp2_with fail
  exact bodyPost_ret (v := .tuple #[.agg #[.int .i64 p, .int .i64 q], .int .i64 c]) (by simp [results, Tryz.results44, go_sem, cz0, cz1, lz]) rfl ⟨rfl, by repeat (first | exact HK | refine Below.drew ?_ | refine Below.setCell ?_ (by simp <;> omega) _ | refine Below.alloc ?_ (by simp <;> omega) _)⟩
set_option maxHeartbeats 4000000 in
set_option maxRecDepth 100000 in
theorem tell_1 (B : Nat) (a b : Int) (t : Bool) (en f : Int) (ao : Option Addr) (n cap : Nat) (X : Nat → Int) (p q c : Int) (w : World) (hF : FactsC w) (hB : w.cell? ⟨B, 0, none⟩ = some (.func (.func 46) #[] #[])) (h : PartIs eX a b p q c) : Calls Tryz.prog 65 #[.int .i64 a, .int .i64 b, .agg #[.bool t, .int .i64 en, .int .i64 f, .slice ao n cap], .pointer (some ⟨B, 0, none⟩)] w fun e w' => e = .returned (.tuple #[.agg #[.int .i64 p, .int .i64 q], .int .i64 c]) ∧ Below w.heap.size w w' := by
  have C := Lib.hid (fun (v : World) (hv : Lens v) => ways_ty.e a b p q c v hv h)
  have H := ((Held.start w).add (f := factsCF) hF).add (f := .cell B 0 (.func (.func 46) #[] #[])) hB
  clear hF h
  have lB := cell_lt hB
  go_enter Tryz.func65, Tryz.ntmps65
  go_wp2_with fail
  replace H := H.quad (w.heap.size) (.bool t) (.int .i64 en) (.int .i64 f) (.slice ao n cap) 24 rfl
  replace H := H.pair (w.heap.size + 1) (.int .i64 0) (.int .i64 0) 29 (by simp)
  clear hB lB
  (with_reducible refine (C.out _ (H.factsC (by repeat (first | with_reducible exact List.mem_cons_self | with_reducible apply List.mem_cons_of_mem))).lens).mono ?_)
  rintro e w1 ⟨rfl, hb⟩
  replace H := H.below hb
  clear hb
  have cz0 := H.cell (w.heap.size + 1) 0 (.int .i64 0) (by repeat (first | with_reducible exact List.mem_cons_self | with_reducible apply List.mem_cons_of_mem))
  have cz1 := H.cell (w.heap.size + 1) 1 (.int .i64 0) (by repeat (first | with_reducible exact List.mem_cons_self | with_reducible apply List.mem_cons_of_mem))
  have lz := cell_lt cz0
  have fz0 := H.frozen (w.heap.size + 1) 0 (by repeat (first | with_reducible exact List.mem_cons_self | with_reducible apply List.mem_cons_of_mem))
  have fz1 := H.frozen (w.heap.size + 1) 1 (by repeat (first | with_reducible exact List.mem_cons_self | with_reducible apply List.mem_cons_of_mem))
  have HK := H.old
  clear H
  go_wp2_with fail
  exact bodyPost_ret (v := .tuple #[.agg #[.int .i64 p, .int .i64 q], .int .i64 c]) (by simp [results, Tryz.results65, go_sem, cz0, cz1, lz]) rfl ⟨rfl, by repeat (first | exact HK | refine Below.drew ?_ | refine Below.setCell ?_ (by simp <;> omega) _ | refine Below.alloc ?_ (by simp <;> omega) _)⟩
set_option maxHeartbeats 4000000 in
set_option maxRecDepth 100000 in
theorem tell_2 (a b : Int) (t : Bool) (en f : Int) (ao : Option Addr) (n cap : Nat) (X : Nat → Int) (p q c : Int) (w : World) (hF : FactsC w) (h : PartIs (iX (decide (b = en))) a b p q c) : Calls Tryz.prog 47 #[.int .i64 a, .int .i64 b, .agg #[.bool t, .int .i64 en, .int .i64 f, .slice ao n cap]] w fun e w' => e = .returned (.tuple #[.agg #[.int .i64 p, .int .i64 q], .int .i64 c]) ∧ Below w.heap.size w w' := by
  have C := Lib.hid (fun (v : World) (hv : Lens v) => ways_ty.isda a b en p q c v hv h)
  have H := (Held.start w).add (f := factsCF) hF
  clear hF h
  go_enter Tryz.func47, Tryz.ntmps47
  go_wp2_with fail
  replace H := H.quad (w.heap.size) (.bool t) (.int .i64 en) (.int .i64 f) (.slice ao n cap) 24 rfl
  replace H := H.pair (w.heap.size + 1) (.int .i64 0) (.int .i64 0) 29 (by simp)
  (with_reducible refine (C.out _ (H.factsC (by repeat (first | with_reducible exact List.mem_cons_self | with_reducible apply List.mem_cons_of_mem))).lens).mono ?_)
  rintro e w1 ⟨rfl, hb⟩
  replace H := H.below hb
  clear hb
  have cz0 := H.cell (w.heap.size + 1) 0 (.int .i64 0) (by repeat (first | with_reducible exact List.mem_cons_self | with_reducible apply List.mem_cons_of_mem))
  have cz1 := H.cell (w.heap.size + 1) 1 (.int .i64 0) (by repeat (first | with_reducible exact List.mem_cons_self | with_reducible apply List.mem_cons_of_mem))
  have lz := cell_lt cz0
  have fz0 := H.frozen (w.heap.size + 1) 0 (by repeat (first | with_reducible exact List.mem_cons_self | with_reducible apply List.mem_cons_of_mem))
  have fz1 := H.frozen (w.heap.size + 1) 1 (by repeat (first | with_reducible exact List.mem_cons_self | with_reducible apply List.mem_cons_of_mem))
  have HK := H.old
  clear H
  go_wp2_with fail
  exact bodyPost_ret (v := .tuple #[.agg #[.int .i64 p, .int .i64 q], .int .i64 c]) (by simp [results, Tryz.results47, go_sem, cz0, cz1, lz]) rfl ⟨rfl, by repeat (first | exact HK | refine Below.drew ?_ | refine Below.setCell ?_ (by simp <;> omega) _ | refine Below.alloc ?_ (by simp <;> omega) _)⟩
set_option maxHeartbeats 4000000 in
set_option maxRecDepth 100000 in
theorem tell_3 (B : Nat) (a b : Int) (t : Bool) (en f : Int) (ao : Option Addr) (n cap : Nat) (X : Nat → Int) (p q c : Int) (w : World) (hF : FactsC w) (hB : w.cell? ⟨B, 0, none⟩ = some (.func (.func 48) #[] #[])) (h : AcIs aX 360 a b p q c) : Calls Tryz.prog 65 #[.int .i64 a, .int .i64 b, .agg #[.bool t, .int .i64 en, .int .i64 f, .slice ao n cap], .pointer (some ⟨B, 0, none⟩)] w fun e w' => e = .returned (.tuple #[.agg #[.int .i64 p, .int .i64 q], .int .i64 c]) ∧ Below w.heap.size w w' := by
  have C := Lib.hid (fun (v : World) (hv : Facts_ac v) => ways_ac.by360 a b p q c v hv h)
  have H := ((Held.start w).add (f := factsCF) hF).add (f := .cell B 0 (.func (.func 48) #[] #[])) hB
  clear hF h
  have lB := cell_lt hB
  go_enter Tryz.func65, Tryz.ntmps65
  go_wp2_with fail
  replace H := H.quad (w.heap.size) (.bool t) (.int .i64 en) (.int .i64 f) (.slice ao n cap) 24 rfl
  replace H := H.pair (w.heap.size + 1) (.int .i64 0) (.int .i64 0) 29 (by simp)
  clear hB lB
  (with_reducible refine (C.out _ (H.factsC (by repeat (first | with_reducible exact List.mem_cons_self | with_reducible apply List.mem_cons_of_mem))).facts_ac).mono ?_)
  rintro e w1 ⟨rfl, hb⟩
  replace H := H.below hb
  clear hb
  have cz0 := H.cell (w.heap.size + 1) 0 (.int .i64 0) (by repeat (first | with_reducible exact List.mem_cons_self | with_reducible apply List.mem_cons_of_mem))
  have cz1 := H.cell (w.heap.size + 1) 1 (.int .i64 0) (by repeat (first | with_reducible exact List.mem_cons_self | with_reducible apply List.mem_cons_of_mem))
  have lz := cell_lt cz0
  have fz0 := H.frozen (w.heap.size + 1) 0 (by repeat (first | with_reducible exact List.mem_cons_self | with_reducible apply List.mem_cons_of_mem))
  have fz1 := H.frozen (w.heap.size + 1) 1 (by repeat (first | with_reducible exact List.mem_cons_self | with_reducible apply List.mem_cons_of_mem))
  have HK := H.old
  clear H
  go_wp2_with fail
  exact bodyPost_ret (v := .tuple #[.agg #[.int .i64 p, .int .i64 q], .int .i64 c]) (by simp [results, Tryz.results65, go_sem, cz0, cz1, lz]) rfl ⟨rfl, by repeat (first | exact HK | refine Below.drew ?_ | refine Below.setCell ?_ (by simp <;> omega) _ | refine Below.alloc ?_ (by simp <;> omega) _)⟩
set_option maxHeartbeats 4000000 in
set_option maxRecDepth 100000 in
theorem tell_4 (B : Nat) (a b : Int) (t : Bool) (en f : Int) (ao : Option Addr) (n cap : Nat) (X : Nat → Int) (p q c : Int) (w : World) (hF : FactsC w) (hB : w.cell? ⟨B, 0, none⟩ = some (.func (.func 49) #[] #[])) (h : AcIs aX 365 a b p q c) : Calls Tryz.prog 65 #[.int .i64 a, .int .i64 b, .agg #[.bool t, .int .i64 en, .int .i64 f, .slice ao n cap], .pointer (some ⟨B, 0, none⟩)] w fun e w' => e = .returned (.tuple #[.agg #[.int .i64 p, .int .i64 q], .int .i64 c]) ∧ Below w.heap.size w w' := by
  have C := Lib.hid (fun (v : World) (hv : Facts_ac v) => ways_ac.by365 a b p q c v hv h)
  have H := ((Held.start w).add (f := factsCF) hF).add (f := .cell B 0 (.func (.func 49) #[] #[])) hB
  clear hF h
  have lB := cell_lt hB
  go_enter Tryz.func65, Tryz.ntmps65
  go_wp2_with fail
  replace H := H.quad (w.heap.size) (.bool t) (.int .i64 en) (.int .i64 f) (.slice ao n cap) 24 rfl
  replace H := H.pair (w.heap.size + 1) (.int .i64 0) (.int .i64 0) 29 (by simp)
  clear hB lB
  (with_reducible refine (C.out _ (H.factsC (by repeat (first | with_reducible exact List.mem_cons_self | with_reducible apply List.mem_cons_of_mem))).facts_ac).mono ?_)
  rintro e w1 ⟨rfl, hb⟩
  replace H := H.below hb
  clear hb
  have cz0 := H.cell (w.heap.size + 1) 0 (.int .i64 0) (by repeat (first | with_reducible exact List.mem_cons_self | with_reducible apply List.mem_cons_of_mem))
  have cz1 := H.cell (w.heap.size + 1) 1 (.int .i64 0) (by repeat (first | with_reducible exact List.mem_cons_self | with_reducible apply List.mem_cons_of_mem))
  have lz := cell_lt cz0
  have fz0 := H.frozen (w.heap.size + 1) 0 (by repeat (first | with_reducible exact List.mem_cons_self | with_reducible apply List.mem_cons_of_mem))
  have fz1 := H.frozen (w.heap.size + 1) 1 (by repeat (first | with_reducible exact List.mem_cons_self | with_reducible apply List.mem_cons_of_mem))
  have HK := H.old
  clear H
  go_wp2_with fail
  exact bodyPost_ret (v := .tuple #[.agg #[.int .i64 p, .int .i64 q], .int .i64 c]) (by simp [results, Tryz.results65, go_sem, cz0, cz1, lz]) rfl ⟨rfl, by repeat (first | exact HK | refine Below.drew ?_ | refine Below.setCell ?_ (by simp <;> omega) _ | refine Below.alloc ?_ (by simp <;> omega) _)⟩
set_option maxHeartbeats 4000000 in
set_option maxRecDepth 100000 in
theorem tell_5 (B : Nat) (a b : Int) (t : Bool) (en f : Int) (ao : Option Addr) (n cap : Nat) (X : Nat → Int) (p q c : Int) (w : World) (hF : FactsC w) (hB : w.cell? ⟨B, 0, none⟩ = some (.func (.func 50) #[] #[])) (h : AcIs yX 133590 a b p q c) : Calls Tryz.prog 65 #[.int .i64 a, .int .i64 b, .agg #[.bool t, .int .i64 en, .int .i64 f, .slice ao n cap], .pointer (some ⟨B, 0, none⟩)] w fun e w' => e = .returned (.tuple #[.agg #[.int .i64 p, .int .i64 q], .int .i64 c]) ∧ Below w.heap.size w w' := by
  have C := Lib.hid (fun (v : World) (hv : Facts_ac v) => ways_ac.byyears a b p q c v hv h)
  have H := ((Held.start w).add (f := factsCF) hF).add (f := .cell B 0 (.func (.func 50) #[] #[])) hB
  clear hF h
  have lB := cell_lt hB
  go_enter Tryz.func65, Tryz.ntmps65
  go_wp2_with fail
  replace H := H.quad (w.heap.size) (.bool t) (.int .i64 en) (.int .i64 f) (.slice ao n cap) 24 rfl
  replace H := H.pair (w.heap.size + 1) (.int .i64 0) (.int .i64 0) 29 (by simp)
  clear hB lB
  (with_reducible refine (C.out _ (H.factsC (by repeat (first | with_reducible exact List.mem_cons_self | with_reducible apply List.mem_cons_of_mem))).facts_ac).mono ?_)
  rintro e w1 ⟨rfl, hb⟩
  replace H := H.below hb
  clear hb
  have cz0 := H.cell (w.heap.size + 1) 0 (.int .i64 0) (by repeat (first | with_reducible exact List.mem_cons_self | with_reducible apply List.mem_cons_of_mem))
  have cz1 := H.cell (w.heap.size + 1) 1 (.int .i64 0) (by repeat (first | with_reducible exact List.mem_cons_self | with_reducible apply List.mem_cons_of_mem))
  have lz := cell_lt cz0
  have fz0 := H.frozen (w.heap.size + 1) 0 (by repeat (first | with_reducible exact List.mem_cons_self | with_reducible apply List.mem_cons_of_mem))
  have fz1 := H.frozen (w.heap.size + 1) 1 (by repeat (first | with_reducible exact List.mem_cons_self | with_reducible apply List.mem_cons_of_mem))
  have HK := H.old
  clear H
  go_wp2_with fail
  exact bodyPost_ret (v := .tuple #[.agg #[.int .i64 p, .int .i64 q], .int .i64 c]) (by simp [results, Tryz.results65, go_sem, cz0, cz1, lz]) rfl ⟨rfl, by repeat (first | exact HK | refine Below.drew ?_ | refine Below.setCell ?_ (by simp <;> omega) _ | refine Below.alloc ?_ (by simp <;> omega) _)⟩
set_option maxHeartbeats 4000000 in
set_option maxRecDepth 100000 in
theorem tell_6 (a b : Int) (t : Bool) (en f : Int) (ao : Option Addr) (n cap : Nat) (X : Nat → Int) (p q c : Int) (w : World) (hF : FactsC w) (hn : n ≤ 100) (hR : RowAt w ao X n cap) (h : IcIs X n f a b p q c) : Calls Tryz.prog 51 #[.int .i64 a, .int .i64 b, .agg #[.bool t, .int .i64 en, .int .i64 f, .slice ao n cap]] w fun e w' => e = .returned (.tuple #[.agg #[.int .i64 p, .int .i64 q], .int .i64 c]) ∧ Below w.heap.size w w' := by
  have C := Lib.hid (fun v hv hr => ipart_is a b ao n cap X f p q c v hv hn hr h)
  have H := ((Held.start w).add (f := factsCF) hF).add (f := rowF ao X n cap) hR
  clear hF hR h
  go_enter Tryz.func51, Tryz.ntmps51
  go_wp2_with fail
  replace H := H.quad (w.heap.size) (.bool t) (.int .i64 en) (.int .i64 f) (.slice ao n cap) 24 rfl
  replace H := H.pair (w.heap.size + 1) (.int .i64 0) (.int .i64 0) 29 (by simp)
  (with_reducible refine (C.out _ (H.factsC (by repeat (first | with_reducible exact List.mem_cons_self | with_reducible apply List.mem_cons_of_mem))).facts (H.row (ao := ao) (X := X) (n := n) (cap := cap) (by repeat (first | with_reducible exact List.mem_cons_self | with_reducible apply List.mem_cons_of_mem)))).mono ?_)
  rintro e w1 ⟨rfl, hb⟩
  replace H := H.below hb
  clear hb
  have cz0 := H.cell (w.heap.size + 1) 0 (.int .i64 0) (by repeat (first | with_reducible exact List.mem_cons_self | with_reducible apply List.mem_cons_of_mem))
  have cz1 := H.cell (w.heap.size + 1) 1 (.int .i64 0) (by repeat (first | with_reducible exact List.mem_cons_self | with_reducible apply List.mem_cons_of_mem))
  have lz := cell_lt cz0
  have fz0 := H.frozen (w.heap.size + 1) 0 (by repeat (first | with_reducible exact List.mem_cons_self | with_reducible apply List.mem_cons_of_mem))
  have fz1 := H.frozen (w.heap.size + 1) 1 (by repeat (first | with_reducible exact List.mem_cons_self | with_reducible apply List.mem_cons_of_mem))
  have HK := H.old
  clear H
  go_wp2_with fail
  exact bodyPost_ret (v := .tuple #[.agg #[.int .i64 p, .int .i64 q], .int .i64 c]) (by simp [results, Tryz.results51, go_sem, cz0, cz1, lz]) rfl ⟨rfl, by repeat (first | exact HK | refine Below.drew ?_ | refine Below.setCell ?_ (by simp <;> omega) _ | refine Below.alloc ?_ (by simp <;> omega) _)⟩
set_option maxHeartbeats 4000000 in
set_option maxRecDepth 100000 in
theorem cpart_0 (a b : Int) (t : Bool) (en f : Int) (ao : Option Addr) (n cap : Nat) (X : Nat → Int) (p q c : Int) (w : World) (hF : FactsC w) (h : PartIs (uX t) a b p q c) : Calls Tryz.prog 10 #[.int .i64 0, .int .i64 a, .int .i64 b, .agg #[.bool t, .int .i64 en, .int .i64 f, .slice ao n cap]] w fun e w' => e = .returned (.tuple #[.agg #[.int .i64 p, .int .i64 q], .int .i64 c]) ∧ Below w.heap.size w w' := by
  have sf : ∀ (a : Addr) (f : FuncId) (s cs : Array Value) (W : World), (store a (.func (.func f) s cs)).run Tryz.prog W = stored Tryz.prog W a (.func (.func f) s cs) .plain := fun a f s cs W => run_store _ W a _ _ rfl
  have H := (Held.start w).add (f := factsCF) hF
  clear hF
  go_enter Tryz.func10, Tryz.ntmps10
  go_wp2_with fail
  replace H := H.quad (w.heap.size) (.bool t) (.int .i64 en) (.int .i64 f) (.slice ao n cap) 24 rfl
  replace H := H.pair (w.heap.size + 1) (.int .i64 0) (.int .i64 0) 29 (by simp)
  (with_reducible refine (find_0 _).mono ?_)
  rintro e w1 ⟨rfl, hb⟩
  replace H := H.below hb
  clear hb
  have cs0 := H.cell (w.heap.size) 0 (.bool t) (by repeat (first | with_reducible exact List.mem_cons_self | with_reducible apply List.mem_cons_of_mem))
  have cs1 := H.cell (w.heap.size) 1 (.int .i64 en) (by repeat (first | with_reducible exact List.mem_cons_self | with_reducible apply List.mem_cons_of_mem))
  have cs2 := H.cell (w.heap.size) 2 (.int .i64 f) (by repeat (first | with_reducible exact List.mem_cons_self | with_reducible apply List.mem_cons_of_mem))
  have cs3 := H.cell (w.heap.size) 3 (.slice ao n cap) (by repeat (first | with_reducible exact List.mem_cons_self | with_reducible apply List.mem_cons_of_mem))
  have ls := cell_lt cs0
  go_wp2_with fail
  clear cs0 cs1 cs2 cs3 ls
  replace H := H.alloc (.cells #[.string (nm 0), .func (.func 44) #[] #[]] 59)
  (with_reducible refine (tell_0 a b t en f ao n cap X p q c _ (H.factsC (by repeat (first | with_reducible exact List.mem_cons_self | with_reducible apply List.mem_cons_of_mem))) h).mono ?_)
  rintro e w2 ⟨rfl, hb⟩
  replace H := H.below hb
  clear hb
  have cz0 := H.cell (w.heap.size + 1) 0 (.int .i64 0) (by repeat (first | with_reducible exact List.mem_cons_self | with_reducible apply List.mem_cons_of_mem))
  have cz1 := H.cell (w.heap.size + 1) 1 (.int .i64 0) (by repeat (first | with_reducible exact List.mem_cons_self | with_reducible apply List.mem_cons_of_mem))
  have lz := cell_lt cz0
  have fz0 := H.frozen (w.heap.size + 1) 0 (by repeat (first | with_reducible exact List.mem_cons_self | with_reducible apply List.mem_cons_of_mem))
  have fz1 := H.frozen (w.heap.size + 1) 1 (by repeat (first | with_reducible exact List.mem_cons_self | with_reducible apply List.mem_cons_of_mem))
  have HK := H.old
  clear H
  go_wp2_with fail
  exact bodyPost_ret (v := .tuple #[.agg #[.int .i64 p, .int .i64 q], .int .i64 c]) (by simp [results, Tryz.results10, go_sem, cz0, cz1, lz]) rfl ⟨rfl, by repeat (first | exact HK | refine Below.drew ?_ | refine Below.setCell ?_ (by simp <;> omega) _ | refine Below.alloc ?_ (by simp <;> omega) _)⟩
set_option maxHeartbeats 4000000 in
set_option maxRecDepth 100000 in
theorem cpart_1 (a b : Int) (t : Bool) (en f : Int) (ao : Option Addr) (n cap : Nat) (X : Nat → Int) (p q c : Int) (w : World) (hF : FactsC w) (h : PartIs eX a b p q c) : Calls Tryz.prog 10 #[.int .i64 1, .int .i64 a, .int .i64 b, .agg #[.bool t, .int .i64 en, .int .i64 f, .slice ao n cap]] w fun e w' => e = .returned (.tuple #[.agg #[.int .i64 p, .int .i64 q], .int .i64 c]) ∧ Below w.heap.size w w' := by
  have sf : ∀ (a : Addr) (f : FuncId) (s cs : Array Value) (W : World), (store a (.func (.func f) s cs)).run Tryz.prog W = stored Tryz.prog W a (.func (.func f) s cs) .plain := fun a f s cs W => run_store _ W a _ _ rfl
  have H := (Held.start w).add (f := factsCF) hF
  clear hF
  go_enter Tryz.func10, Tryz.ntmps10
  go_wp2_with fail
  replace H := H.quad (w.heap.size) (.bool t) (.int .i64 en) (.int .i64 f) (.slice ao n cap) 24 rfl
  replace H := H.pair (w.heap.size + 1) (.int .i64 0) (.int .i64 0) 29 (by simp)
  (with_reducible refine (find_1 _).mono ?_)
  rintro e w1 ⟨B, rfl, hc, hb⟩
  replace H := (H.below hb).add (f := .cell B 0 (.func (.func 46) #[] #[])) hc
  clear hc hb
  have cs0 := H.cell (w.heap.size) 0 (.bool t) (by repeat (first | with_reducible exact List.mem_cons_self | with_reducible apply List.mem_cons_of_mem))
  have cs1 := H.cell (w.heap.size) 1 (.int .i64 en) (by repeat (first | with_reducible exact List.mem_cons_self | with_reducible apply List.mem_cons_of_mem))
  have cs2 := H.cell (w.heap.size) 2 (.int .i64 f) (by repeat (first | with_reducible exact List.mem_cons_self | with_reducible apply List.mem_cons_of_mem))
  have cs3 := H.cell (w.heap.size) 3 (.slice ao n cap) (by repeat (first | with_reducible exact List.mem_cons_self | with_reducible apply List.mem_cons_of_mem))
  have ls := cell_lt cs0
  go_wp2_with fail
  clear cs0 cs1 cs2 cs3 ls
  replace H := H.alloc (.cells #[.string (nm 1), .func (.func 65) #[] #[.pointer (some ⟨B, 0, none⟩)]] 59)
  (with_reducible refine (tell_1 B a b t en f ao n cap X p q c _ (H.factsC (by repeat (first | with_reducible exact List.mem_cons_self | with_reducible apply List.mem_cons_of_mem))) (H.cell B 0 _ (by repeat (first | with_reducible exact List.mem_cons_self | with_reducible apply List.mem_cons_of_mem))) h).mono ?_)
  rintro e w2 ⟨rfl, hb⟩
  replace H := H.below hb
  clear hb
  have cz0 := H.cell (w.heap.size + 1) 0 (.int .i64 0) (by repeat (first | with_reducible exact List.mem_cons_self | with_reducible apply List.mem_cons_of_mem))
  have cz1 := H.cell (w.heap.size + 1) 1 (.int .i64 0) (by repeat (first | with_reducible exact List.mem_cons_self | with_reducible apply List.mem_cons_of_mem))
  have lz := cell_lt cz0
  have fz0 := H.frozen (w.heap.size + 1) 0 (by repeat (first | with_reducible exact List.mem_cons_self | with_reducible apply List.mem_cons_of_mem))
  have fz1 := H.frozen (w.heap.size + 1) 1 (by repeat (first | with_reducible exact List.mem_cons_self | with_reducible apply List.mem_cons_of_mem))
  have HK := H.old
  clear H
  go_wp2_with fail
  exact bodyPost_ret (v := .tuple #[.agg #[.int .i64 p, .int .i64 q], .int .i64 c]) (by simp [results, Tryz.results10, go_sem, cz0, cz1, lz]) rfl ⟨rfl, by repeat (first | exact HK | refine Below.drew ?_ | refine Below.setCell ?_ (by simp <;> omega) _ | refine Below.alloc ?_ (by simp <;> omega) _)⟩
set_option maxHeartbeats 4000000 in
set_option maxRecDepth 100000 in
theorem cpart_2 (a b : Int) (t : Bool) (en f : Int) (ao : Option Addr) (n cap : Nat) (X : Nat → Int) (p q c : Int) (w : World) (hF : FactsC w) (h : PartIs (iX (decide (b = en))) a b p q c) : Calls Tryz.prog 10 #[.int .i64 2, .int .i64 a, .int .i64 b, .agg #[.bool t, .int .i64 en, .int .i64 f, .slice ao n cap]] w fun e w' => e = .returned (.tuple #[.agg #[.int .i64 p, .int .i64 q], .int .i64 c]) ∧ Below w.heap.size w w' := by
  have sf : ∀ (a : Addr) (f : FuncId) (s cs : Array Value) (W : World), (store a (.func (.func f) s cs)).run Tryz.prog W = stored Tryz.prog W a (.func (.func f) s cs) .plain := fun a f s cs W => run_store _ W a _ _ rfl
  have H := (Held.start w).add (f := factsCF) hF
  clear hF
  go_enter Tryz.func10, Tryz.ntmps10
  go_wp2_with fail
  replace H := H.quad (w.heap.size) (.bool t) (.int .i64 en) (.int .i64 f) (.slice ao n cap) 24 rfl
  replace H := H.pair (w.heap.size + 1) (.int .i64 0) (.int .i64 0) 29 (by simp)
  (with_reducible refine (find_2 _).mono ?_)
  rintro e w1 ⟨rfl, hb⟩
  replace H := H.below hb
  clear hb
  have cs0 := H.cell (w.heap.size) 0 (.bool t) (by repeat (first | with_reducible exact List.mem_cons_self | with_reducible apply List.mem_cons_of_mem))
  have cs1 := H.cell (w.heap.size) 1 (.int .i64 en) (by repeat (first | with_reducible exact List.mem_cons_self | with_reducible apply List.mem_cons_of_mem))
  have cs2 := H.cell (w.heap.size) 2 (.int .i64 f) (by repeat (first | with_reducible exact List.mem_cons_self | with_reducible apply List.mem_cons_of_mem))
  have cs3 := H.cell (w.heap.size) 3 (.slice ao n cap) (by repeat (first | with_reducible exact List.mem_cons_self | with_reducible apply List.mem_cons_of_mem))
  have ls := cell_lt cs0
  go_wp2_with fail
  clear cs0 cs1 cs2 cs3 ls
  replace H := H.alloc (.cells #[.string (nm 2), .func (.func 47) #[] #[]] 59)
  (with_reducible refine (tell_2 a b t en f ao n cap X p q c _ (H.factsC (by repeat (first | with_reducible exact List.mem_cons_self | with_reducible apply List.mem_cons_of_mem))) h).mono ?_)
  rintro e w2 ⟨rfl, hb⟩
  replace H := H.below hb
  clear hb
  have cz0 := H.cell (w.heap.size + 1) 0 (.int .i64 0) (by repeat (first | with_reducible exact List.mem_cons_self | with_reducible apply List.mem_cons_of_mem))
  have cz1 := H.cell (w.heap.size + 1) 1 (.int .i64 0) (by repeat (first | with_reducible exact List.mem_cons_self | with_reducible apply List.mem_cons_of_mem))
  have lz := cell_lt cz0
  have fz0 := H.frozen (w.heap.size + 1) 0 (by repeat (first | with_reducible exact List.mem_cons_self | with_reducible apply List.mem_cons_of_mem))
  have fz1 := H.frozen (w.heap.size + 1) 1 (by repeat (first | with_reducible exact List.mem_cons_self | with_reducible apply List.mem_cons_of_mem))
  have HK := H.old
  clear H
  go_wp2_with fail
  exact bodyPost_ret (v := .tuple #[.agg #[.int .i64 p, .int .i64 q], .int .i64 c]) (by simp [results, Tryz.results10, go_sem, cz0, cz1, lz]) rfl ⟨rfl, by repeat (first | exact HK | refine Below.drew ?_ | refine Below.setCell ?_ (by simp <;> omega) _ | refine Below.alloc ?_ (by simp <;> omega) _)⟩
set_option maxHeartbeats 4000000 in
set_option maxRecDepth 100000 in
theorem cpart_3 (a b : Int) (t : Bool) (en f : Int) (ao : Option Addr) (n cap : Nat) (X : Nat → Int) (p q c : Int) (w : World) (hF : FactsC w) (h : AcIs aX 360 a b p q c) : Calls Tryz.prog 10 #[.int .i64 3, .int .i64 a, .int .i64 b, .agg #[.bool t, .int .i64 en, .int .i64 f, .slice ao n cap]] w fun e w' => e = .returned (.tuple #[.agg #[.int .i64 p, .int .i64 q], .int .i64 c]) ∧ Below w.heap.size w w' := by
  have sf : ∀ (a : Addr) (f : FuncId) (s cs : Array Value) (W : World), (store a (.func (.func f) s cs)).run Tryz.prog W = stored Tryz.prog W a (.func (.func f) s cs) .plain := fun a f s cs W => run_store _ W a _ _ rfl
  have H := (Held.start w).add (f := factsCF) hF
  clear hF
  go_enter Tryz.func10, Tryz.ntmps10
  go_wp2_with fail
  replace H := H.quad (w.heap.size) (.bool t) (.int .i64 en) (.int .i64 f) (.slice ao n cap) 24 rfl
  replace H := H.pair (w.heap.size + 1) (.int .i64 0) (.int .i64 0) 29 (by simp)
  (with_reducible refine (find_3 _).mono ?_)
  rintro e w1 ⟨B, rfl, hc, hb⟩
  replace H := (H.below hb).add (f := .cell B 0 (.func (.func 48) #[] #[])) hc
  clear hc hb
  have cs0 := H.cell (w.heap.size) 0 (.bool t) (by repeat (first | with_reducible exact List.mem_cons_self | with_reducible apply List.mem_cons_of_mem))
  have cs1 := H.cell (w.heap.size) 1 (.int .i64 en) (by repeat (first | with_reducible exact List.mem_cons_self | with_reducible apply List.mem_cons_of_mem))
  have cs2 := H.cell (w.heap.size) 2 (.int .i64 f) (by repeat (first | with_reducible exact List.mem_cons_self | with_reducible apply List.mem_cons_of_mem))
  have cs3 := H.cell (w.heap.size) 3 (.slice ao n cap) (by repeat (first | with_reducible exact List.mem_cons_self | with_reducible apply List.mem_cons_of_mem))
  have ls := cell_lt cs0
  go_wp2_with fail
  clear cs0 cs1 cs2 cs3 ls
  replace H := H.alloc (.cells #[.string (nm 3), .func (.func 65) #[] #[.pointer (some ⟨B, 0, none⟩)]] 59)
  (with_reducible refine (tell_3 B a b t en f ao n cap X p q c _ (H.factsC (by repeat (first | with_reducible exact List.mem_cons_self | with_reducible apply List.mem_cons_of_mem))) (H.cell B 0 _ (by repeat (first | with_reducible exact List.mem_cons_self | with_reducible apply List.mem_cons_of_mem))) h).mono ?_)
  rintro e w2 ⟨rfl, hb⟩
  replace H := H.below hb
  clear hb
  have cz0 := H.cell (w.heap.size + 1) 0 (.int .i64 0) (by repeat (first | with_reducible exact List.mem_cons_self | with_reducible apply List.mem_cons_of_mem))
  have cz1 := H.cell (w.heap.size + 1) 1 (.int .i64 0) (by repeat (first | with_reducible exact List.mem_cons_self | with_reducible apply List.mem_cons_of_mem))
  have lz := cell_lt cz0
  have fz0 := H.frozen (w.heap.size + 1) 0 (by repeat (first | with_reducible exact List.mem_cons_self | with_reducible apply List.mem_cons_of_mem))
  have fz1 := H.frozen (w.heap.size + 1) 1 (by repeat (first | with_reducible exact List.mem_cons_self | with_reducible apply List.mem_cons_of_mem))
  have HK := H.old
  clear H
  go_wp2_with fail
  exact bodyPost_ret (v := .tuple #[.agg #[.int .i64 p, .int .i64 q], .int .i64 c]) (by simp [results, Tryz.results10, go_sem, cz0, cz1, lz]) rfl ⟨rfl, by repeat (first | exact HK | refine Below.drew ?_ | refine Below.setCell ?_ (by simp <;> omega) _ | refine Below.alloc ?_ (by simp <;> omega) _)⟩
set_option maxHeartbeats 4000000 in
set_option maxRecDepth 100000 in
theorem cpart_4 (a b : Int) (t : Bool) (en f : Int) (ao : Option Addr) (n cap : Nat) (X : Nat → Int) (p q c : Int) (w : World) (hF : FactsC w) (h : AcIs aX 365 a b p q c) : Calls Tryz.prog 10 #[.int .i64 4, .int .i64 a, .int .i64 b, .agg #[.bool t, .int .i64 en, .int .i64 f, .slice ao n cap]] w fun e w' => e = .returned (.tuple #[.agg #[.int .i64 p, .int .i64 q], .int .i64 c]) ∧ Below w.heap.size w w' := by
  have sf : ∀ (a : Addr) (f : FuncId) (s cs : Array Value) (W : World), (store a (.func (.func f) s cs)).run Tryz.prog W = stored Tryz.prog W a (.func (.func f) s cs) .plain := fun a f s cs W => run_store _ W a _ _ rfl
  have H := (Held.start w).add (f := factsCF) hF
  clear hF
  go_enter Tryz.func10, Tryz.ntmps10
  go_wp2_with fail
  replace H := H.quad (w.heap.size) (.bool t) (.int .i64 en) (.int .i64 f) (.slice ao n cap) 24 rfl
  replace H := H.pair (w.heap.size + 1) (.int .i64 0) (.int .i64 0) 29 (by simp)
  (with_reducible refine (find_4 _).mono ?_)
  rintro e w1 ⟨B, rfl, hc, hb⟩
  replace H := (H.below hb).add (f := .cell B 0 (.func (.func 49) #[] #[])) hc
  clear hc hb
  have cs0 := H.cell (w.heap.size) 0 (.bool t) (by repeat (first | with_reducible exact List.mem_cons_self | with_reducible apply List.mem_cons_of_mem))
  have cs1 := H.cell (w.heap.size) 1 (.int .i64 en) (by repeat (first | with_reducible exact List.mem_cons_self | with_reducible apply List.mem_cons_of_mem))
  have cs2 := H.cell (w.heap.size) 2 (.int .i64 f) (by repeat (first | with_reducible exact List.mem_cons_self | with_reducible apply List.mem_cons_of_mem))
  have cs3 := H.cell (w.heap.size) 3 (.slice ao n cap) (by repeat (first | with_reducible exact List.mem_cons_self | with_reducible apply List.mem_cons_of_mem))
  have ls := cell_lt cs0
  go_wp2_with fail
  clear cs0 cs1 cs2 cs3 ls
  replace H := H.alloc (.cells #[.string (nm 4), .func (.func 65) #[] #[.pointer (some ⟨B, 0, none⟩)]] 59)
  (with_reducible refine (tell_4 B a b t en f ao n cap X p q c _ (H.factsC (by repeat (first | with_reducible exact List.mem_cons_self | with_reducible apply List.mem_cons_of_mem))) (H.cell B 0 _ (by repeat (first | with_reducible exact List.mem_cons_self | with_reducible apply List.mem_cons_of_mem))) h).mono ?_)
  rintro e w2 ⟨rfl, hb⟩
  replace H := H.below hb
  clear hb
  have cz0 := H.cell (w.heap.size + 1) 0 (.int .i64 0) (by repeat (first | with_reducible exact List.mem_cons_self | with_reducible apply List.mem_cons_of_mem))
  have cz1 := H.cell (w.heap.size + 1) 1 (.int .i64 0) (by repeat (first | with_reducible exact List.mem_cons_self | with_reducible apply List.mem_cons_of_mem))
  have lz := cell_lt cz0
  have fz0 := H.frozen (w.heap.size + 1) 0 (by repeat (first | with_reducible exact List.mem_cons_self | with_reducible apply List.mem_cons_of_mem))
  have fz1 := H.frozen (w.heap.size + 1) 1 (by repeat (first | with_reducible exact List.mem_cons_self | with_reducible apply List.mem_cons_of_mem))
  have HK := H.old
  clear H
  go_wp2_with fail
  exact bodyPost_ret (v := .tuple #[.agg #[.int .i64 p, .int .i64 q], .int .i64 c]) (by simp [results, Tryz.results10, go_sem, cz0, cz1, lz]) rfl ⟨rfl, by repeat (first | exact HK | refine Below.drew ?_ | refine Below.setCell ?_ (by simp <;> omega) _ | refine Below.alloc ?_ (by simp <;> omega) _)⟩
set_option maxHeartbeats 4000000 in
set_option maxRecDepth 100000 in
theorem cpart_5 (a b : Int) (t : Bool) (en f : Int) (ao : Option Addr) (n cap : Nat) (X : Nat → Int) (p q c : Int) (w : World) (hF : FactsC w) (h : AcIs yX 133590 a b p q c) : Calls Tryz.prog 10 #[.int .i64 5, .int .i64 a, .int .i64 b, .agg #[.bool t, .int .i64 en, .int .i64 f, .slice ao n cap]] w fun e w' => e = .returned (.tuple #[.agg #[.int .i64 p, .int .i64 q], .int .i64 c]) ∧ Below w.heap.size w w' := by
  have sf : ∀ (a : Addr) (f : FuncId) (s cs : Array Value) (W : World), (store a (.func (.func f) s cs)).run Tryz.prog W = stored Tryz.prog W a (.func (.func f) s cs) .plain := fun a f s cs W => run_store _ W a _ _ rfl
  have H := (Held.start w).add (f := factsCF) hF
  clear hF
  go_enter Tryz.func10, Tryz.ntmps10
  go_wp2_with fail
  replace H := H.quad (w.heap.size) (.bool t) (.int .i64 en) (.int .i64 f) (.slice ao n cap) 24 rfl
  replace H := H.pair (w.heap.size + 1) (.int .i64 0) (.int .i64 0) 29 (by simp)
  (with_reducible refine (find_5 _).mono ?_)
  rintro e w1 ⟨B, rfl, hc, hb⟩
  replace H := (H.below hb).add (f := .cell B 0 (.func (.func 50) #[] #[])) hc
  clear hc hb
  have cs0 := H.cell (w.heap.size) 0 (.bool t) (by repeat (first | with_reducible exact List.mem_cons_self | with_reducible apply List.mem_cons_of_mem))
  have cs1 := H.cell (w.heap.size) 1 (.int .i64 en) (by repeat (first | with_reducible exact List.mem_cons_self | with_reducible apply List.mem_cons_of_mem))
  have cs2 := H.cell (w.heap.size) 2 (.int .i64 f) (by repeat (first | with_reducible exact List.mem_cons_self | with_reducible apply List.mem_cons_of_mem))
  have cs3 := H.cell (w.heap.size) 3 (.slice ao n cap) (by repeat (first | with_reducible exact List.mem_cons_self | with_reducible apply List.mem_cons_of_mem))
  have ls := cell_lt cs0
  go_wp2_with fail
  clear cs0 cs1 cs2 cs3 ls
  replace H := H.alloc (.cells #[.string (nm 5), .func (.func 65) #[] #[.pointer (some ⟨B, 0, none⟩)]] 59)
  (with_reducible refine (tell_5 B a b t en f ao n cap X p q c _ (H.factsC (by repeat (first | with_reducible exact List.mem_cons_self | with_reducible apply List.mem_cons_of_mem))) (H.cell B 0 _ (by repeat (first | with_reducible exact List.mem_cons_self | with_reducible apply List.mem_cons_of_mem))) h).mono ?_)
  rintro e w2 ⟨rfl, hb⟩
  replace H := H.below hb
  clear hb
  have cz0 := H.cell (w.heap.size + 1) 0 (.int .i64 0) (by repeat (first | with_reducible exact List.mem_cons_self | with_reducible apply List.mem_cons_of_mem))
  have cz1 := H.cell (w.heap.size + 1) 1 (.int .i64 0) (by repeat (first | with_reducible exact List.mem_cons_self | with_reducible apply List.mem_cons_of_mem))
  have lz := cell_lt cz0
  have fz0 := H.frozen (w.heap.size + 1) 0 (by repeat (first | with_reducible exact List.mem_cons_self | with_reducible apply List.mem_cons_of_mem))
  have fz1 := H.frozen (w.heap.size + 1) 1 (by repeat (first | with_reducible exact List.mem_cons_self | with_reducible apply List.mem_cons_of_mem))
  have HK := H.old
  clear H
  go_wp2_with fail
  exact bodyPost_ret (v := .tuple #[.agg #[.int .i64 p, .int .i64 q], .int .i64 c]) (by simp [results, Tryz.results10, go_sem, cz0, cz1, lz]) rfl ⟨rfl, by repeat (first | exact HK | refine Below.drew ?_ | refine Below.setCell ?_ (by simp <;> omega) _ | refine Below.alloc ?_ (by simp <;> omega) _)⟩
set_option maxHeartbeats 4000000 in
set_option maxRecDepth 100000 in
theorem cpart_6 (a b : Int) (t : Bool) (en f : Int) (ao : Option Addr) (n cap : Nat) (X : Nat → Int) (p q c : Int) (w : World) (hF : FactsC w) (hn : n ≤ 100) (hR : RowAt w ao X n cap) (h : IcIs X n f a b p q c) : Calls Tryz.prog 10 #[.int .i64 6, .int .i64 a, .int .i64 b, .agg #[.bool t, .int .i64 en, .int .i64 f, .slice ao n cap]] w fun e w' => e = .returned (.tuple #[.agg #[.int .i64 p, .int .i64 q], .int .i64 c]) ∧ Below w.heap.size w w' := by
  have sf : ∀ (a : Addr) (f : FuncId) (s cs : Array Value) (W : World), (store a (.func (.func f) s cs)).run Tryz.prog W = stored Tryz.prog W a (.func (.func f) s cs) .plain := fun a f s cs W => run_store _ W a _ _ rfl
  have H := ((Held.start w).add (f := factsCF) hF).add (f := rowF ao X n cap) hR
  clear hF hR
  go_enter Tryz.func10, Tryz.ntmps10
  go_wp2_with fail
  replace H := H.quad (w.heap.size) (.bool t) (.int .i64 en) (.int .i64 f) (.slice ao n cap) 24 rfl
  replace H := H.pair (w.heap.size + 1) (.int .i64 0) (.int .i64 0) 29 (by simp)
  (with_reducible refine (find_6 _).mono ?_)
  rintro e w1 ⟨rfl, hb⟩
  replace H := H.below hb
  clear hb
  have cs0 := H.cell (w.heap.size) 0 (.bool t) (by repeat (first | with_reducible exact List.mem_cons_self | with_reducible apply List.mem_cons_of_mem))
  have cs1 := H.cell (w.heap.size) 1 (.int .i64 en) (by repeat (first | with_reducible exact List.mem_cons_self | with_reducible apply List.mem_cons_of_mem))
  have cs2 := H.cell (w.heap.size) 2 (.int .i64 f) (by repeat (first | with_reducible exact List.mem_cons_self | with_reducible apply List.mem_cons_of_mem))
  have cs3 := H.cell (w.heap.size) 3 (.slice ao n cap) (by repeat (first | with_reducible exact List.mem_cons_self | with_reducible apply List.mem_cons_of_mem))
  have ls := cell_lt cs0
  go_wp2_with fail
  clear cs0 cs1 cs2 cs3 ls
  replace H := H.alloc (.cells #[.string (nm 6), .func (.func 51) #[] #[]] 59)
  (with_reducible refine (tell_6 a b t en f ao n cap X p q c _ (H.factsC (by repeat (first | with_reducible exact List.mem_cons_self | with_reducible apply List.mem_cons_of_mem))) hn (H.row (ao := ao) (X := X) (n := n) (cap := cap) (by repeat (first | with_reducible exact List.mem_cons_self | with_reducible apply List.mem_cons_of_mem))) h).mono ?_)
  rintro e w2 ⟨rfl, hb⟩
  replace H := H.below hb
  clear hb
  have cz0 := H.cell (w.heap.size + 1) 0 (.int .i64 0) (by repeat (first | with_reducible exact List.mem_cons_self | with_reducible apply List.mem_cons_of_mem))
  have cz1 := H.cell (w.heap.size + 1) 1 (.int .i64 0) (by repeat (first | with_reducible exact List.mem_cons_self | with_reducible apply List.mem_cons_of_mem))
  have lz := cell_lt cz0
  have fz0 := H.frozen (w.heap.size + 1) 0 (by repeat (first | with_reducible exact List.mem_cons_self | with_reducible apply List.mem_cons_of_mem))
  have fz1 := H.frozen (w.heap.size + 1) 1 (by repeat (first | with_reducible exact List.mem_cons_self | with_reducible apply List.mem_cons_of_mem))
  have HK := H.old
  clear H
  go_wp2_with fail
  exact bodyPost_ret (v := .tuple #[.agg #[.int .i64 p, .int .i64 q], .int .i64 c]) (by simp [results, Tryz.results10, go_sem, cz0, cz1, lz]) rfl ⟨rfl, by repeat (first | exact HK | refine Below.drew ?_ | refine Below.setCell ?_ (by simp <;> omega) _ | refine Below.alloc ?_ (by simp <;> omega) _)⟩
set_option maxHeartbeats 4000000 in
set_option maxRecDepth 100000 in
theorem cpart_out (k a b : Int) (t : Bool) (en f : Int) (ao : Option Addr) (n cap : Nat) (w : World) (hk : k < 0 ∨ 6 < k) : Calls Tryz.prog 10 #[.int .i64 k, .int .i64 a, .int .i64 b, .agg #[.bool t, .int .i64 en, .int .i64 f, .slice ao n cap]] w fun e w' => e = .returned (.tuple #[.agg #[.int .i64 0, .int .i64 0], .int .i64 1]) ∧ Below w.heap.size w w' := by
  have sf : ∀ (a : Addr) (W : World), (store a .nilFunc).run Tryz.prog W = stored Tryz.prog W a .nilFunc .plain := fun a W => run_store _ W a _ _ rfl
  have H := Held.start w
  go_enter Tryz.func10, Tryz.ntmps10
  go_wp2_with fail
  replace H := H.quad (w.heap.size) (.bool t) (.int .i64 en) (.int .i64 f) (.slice ao n cap) 24 rfl
  replace H := H.pair (w.heap.size + 1) (.int .i64 0) (.int .i64 0) 29 (by simp)
  (with_reducible refine (find_out k _ hk).mono ?_)
  rintro e w1 ⟨rfl, hb⟩
  replace H := H.below hb
  clear hb
  have cz0 := H.cell (w.heap.size + 1) 0 (.int .i64 0) (by repeat (first | with_reducible exact List.mem_cons_self | with_reducible apply List.mem_cons_of_mem))
  have cz1 := H.cell (w.heap.size + 1) 1 (.int .i64 0) (by repeat (first | with_reducible exact List.mem_cons_self | with_reducible apply List.mem_cons_of_mem))
  have lz := cell_lt cz0
  have fz0 := H.frozen (w.heap.size + 1) 0 (by repeat (first | with_reducible exact List.mem_cons_self | with_reducible apply List.mem_cons_of_mem))
  have fz1 := H.frozen (w.heap.size + 1) 1 (by repeat (first | with_reducible exact List.mem_cons_self | with_reducible apply List.mem_cons_of_mem))
  have HK := H.old
  clear H
  go_wp2_with fail
  exact bodyPost_ret (v := .tuple #[.agg #[.int .i64 0, .int .i64 0], .int .i64 1]) (by simp [results, Tryz.results10, go_sem, cz0, cz1, lz]) rfl ⟨rfl, by repeat (first | exact HK | refine Below.drew ?_ | refine Below.setCell ?_ (by simp <;> omega) _ | refine Below.alloc ?_ (by simp <;> omega) _)⟩
/-- What the package's three calls answer. -/
theorem cway : CWay where
  name k s w hF hk hs := by
    subst hs
    exact cname_any k w
  kind s k c w hF hk := by
    have := ckind_any s w
    rw [hk] at this
    exact this
  part k a b t en f ao n cap X p q c w hF hk hn hR h := by
    rcases h with ⟨rfl, h⟩ | ⟨rfl, h⟩ | ⟨rfl, h⟩ | ⟨rfl, h⟩ | ⟨rfl, h⟩ | ⟨rfl, h⟩ | ⟨rfl, h⟩ | ⟨h, rfl, rfl, rfl⟩
    · exact cpart_0 a b t en f ao n cap X p q c w hF h
    · exact cpart_1 a b t en f ao n cap X p q c w hF h
    · exact cpart_2 a b t en f ao n cap X p q c w hF h
    · exact cpart_3 a b t en f ao n cap X p q c w hF h
    · exact cpart_4 a b t en f ao n cap X p q c w hF h
    · exact cpart_5 a b t en f ao n cap X p q c w hF h
    · exact cpart_6 a b t en f ao n cap X p q c w hF hn hR h
    · exact cpart_out k a b t en f ao n cap w h
end Go.Proofs.YtkmchbllnfoccaaGreatDoor
