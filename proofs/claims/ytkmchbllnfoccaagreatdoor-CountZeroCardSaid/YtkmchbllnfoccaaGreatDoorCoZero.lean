/- CountZero: the walk. -/
import Derived.Test.YtkmchbllnfoccaaGreatDoorCoShown
namespace Go.Proofs.YtkmchbllnfoccaaGreatDoor
open Go.RowKit
set_option linter.unusedVariables false
set_option linter.unusedSimpArgs false

/-- The periods' days: the first one of all, and the last one. -/
def zX (i : Nat) : Int := if i = 0 then 1 else 3652059
theorem zx_may : MayX zX 2 2 := ⟨by decide, by decide, by decide, ⟨fun i hi => by unfold zX; split <;> omega, fun i hi => by unfold zX; split <;> split <;> omega⟩, by decide⟩
/-- Two fields of the side are stored into. -/
theorem put_side {w W : World} (S : Nat) (x0 x1 x2 x3 y2 y3 : Value) (h : Below w.heap.size w W) (hS : w.heap.size ≤ S)
    (c0 : W.cell? ⟨S, 0, none⟩ = some x0) (c1 : W.cell? ⟨S, 1, none⟩ = some x1) (c2 : W.cell? ⟨S, 2, none⟩ = some x2) (c3 : W.cell? ⟨S, 3, none⟩ = some x3) :
    Held w [.cell S 0 x0, .cell S 1 x1, .cell S 2 y2, .cell S 3 y3] ((W.setCell ⟨S, 3, none⟩ y3).setCell ⟨S, 2, none⟩ y2) := by
  have h0 : Held w [] W := ⟨h, fun f hf => by cases hf⟩
  have off : ∀ f ∈ ([] : List Fact), f.off S := fun f hf => by cases hf
  have hh := (h0.set S 3 y3 hS off).set S 2 y2 hS off
  exact (((hh.add (f := .cell S 3 y3) (by simp [Fact.at, go_sem, c0, c1, c2, c3])).add (f := .cell S 2 y2) (by simp [Fact.at, go_sem, c0, c1, c2, c3])).add (f := .cell S 1 x1) (by simp [Fact.at, go_sem, c0, c1, c2, c3])).add (f := .cell S 0 x0) (by simp [Fact.at, go_sem, c0, c1, c2, c3])

set_option maxHeartbeats 4000000 in
set_option maxRecDepth 100000 in
theorem czero_a (K : CWay) (kd0 a b : Int) (t : Bool) (en f : Int) (ao : Option Addr) (n cap : Nat) (k : Int) (w : World) (hL : FactsC w) (bk : 0 ≤ kd0 ∧ kd0 < 256) (hk : kd0 % 7 = k) (h : ¬ (1 ≤ a ∧ a ≤ 3652059)) :
    Calls Tryz.prog 6 #[.agg #[.int .u8 kd0, .int .i64 a, .int .i64 b, .bool t, .int .i64 en, .int .i64 f, .slice ao n cap]] w fun e w' => e = .returned (.bool true) ∧ Below w.heap.size w w' := by
  have H := (Held.start w).add (f := factsCF) hL
  have Da : Hid (decide (1 ≤ a ∧ a ≤ 3652059) = false) := Lib.hid (by rw [decide_eq_false_iff_not]; omega)
  have P1 := Lib.hid (fun v hf A hR => K.part k a a t en 2 (some ⟨A, 0, none⟩) 2 2 zX 0 0 3 v hf (by unfold i64B; omega) (by decide) hR (co_no (show 0 ≤ k ∧ k ≤ 6 by omega) (by omega)))
  have P2 := Lib.hid (fun v hf A hR => K.part k a b t en 2 (some ⟨A, 0, none⟩) 2 2 zX 0 0 3 v hf (by unfold i64B; omega) (by decide) hR (co_no (show 0 ≤ k ∧ k ≤ 6 by omega) (by omega)))
  go_enter Tryz.func6, Tryz.ntmps6
  go_wp2_with fail
  replace H := (H.alloc (.cells #[.int .u8 kd0, .int .i64 a, .int .i64 b, .bool t, .int .i64 en, .int .i64 f, .slice ao n cap] 46)).quad (w.heap.size + 1) (.bool t) (.int .i64 en) (.int .i64 f) (.slice ao n cap) 24 (by simp)
  (with_reducible refine (coshown_any K _ (H.factsC (by repeat (first | with_reducible exact List.mem_cons_self | with_reducible apply List.mem_cons_of_mem)))).mono ?_)
  rintro e w1 ⟨rfl, hb⟩
  replace H := H.below hb
  clear hb
  have cs0 := H.cell (w.heap.size + 1) 0 (.bool t) (by repeat (first | with_reducible exact List.mem_cons_self | with_reducible apply List.mem_cons_of_mem))
  have cs1 := H.cell (w.heap.size + 1) 1 (.int .i64 en) (by repeat (first | with_reducible exact List.mem_cons_self | with_reducible apply List.mem_cons_of_mem))
  have cs2 := H.cell (w.heap.size + 1) 2 (.int .i64 f) (by repeat (first | with_reducible exact List.mem_cons_self | with_reducible apply List.mem_cons_of_mem))
  have cs3 := H.cell (w.heap.size + 1) 3 (.slice ao n cap) (by repeat (first | with_reducible exact List.mem_cons_self | with_reducible apply List.mem_cons_of_mem))
  have ls := cell_lt cs0
  have fs0 := H.frozen (w.heap.size + 1) 0 (by repeat (first | with_reducible exact List.mem_cons_self | with_reducible apply List.mem_cons_of_mem))
  have fs1 := H.frozen (w.heap.size + 1) 1 (by repeat (first | with_reducible exact List.mem_cons_self | with_reducible apply List.mem_cons_of_mem))
  have fs2 := H.frozen (w.heap.size + 1) 2 (by repeat (first | with_reducible exact List.mem_cons_self | with_reducible apply List.mem_cons_of_mem))
  have fs3 := H.frozen (w.heap.size + 1) 3 (by repeat (first | with_reducible exact List.mem_cons_self | with_reducible apply List.mem_cons_of_mem))
  go_wp2_with fail
  clear fs0 fs1 fs2 fs3
  replace H := put_side (w.heap.size + 1) _ _ _ _ (.int .i64 2) (.slice (some ⟨w1.heap.size, 0, none⟩) 2 2) H.old (by omega)
    (H.cell (w.heap.size + 1) 0 (.bool t) (by repeat (first | with_reducible exact List.mem_cons_self | with_reducible apply List.mem_cons_of_mem))) (H.cell (w.heap.size + 1) 1 (.int .i64 en) (by repeat (first | with_reducible exact List.mem_cons_self | with_reducible apply List.mem_cons_of_mem))) (H.cell (w.heap.size + 1) 2 (.int .i64 f) (by repeat (first | with_reducible exact List.mem_cons_self | with_reducible apply List.mem_cons_of_mem))) (H.cell (w.heap.size + 1) 3 (.slice ao n cap) (by repeat (first | with_reducible exact List.mem_cons_self | with_reducible apply List.mem_cons_of_mem)))
  replace H := H.pair (w1.heap.size) (.int .i64 1) (.int .i64 3652059) 3 (by simp)
  have hR : RowAt _ (some ⟨w1.heap.size, 0, none⟩) zX 2 2 := ⟨Nat.le_refl _, fun _ => ⟨w1.heap.size, 0, rfl, fun j hj => by
    have : j = 0 ∨ j = 1 := by omega
    rcases this with rfl | rfl
    · exact H.cell (w1.heap.size) 0 (.int .i64 1) (by repeat (first | with_reducible exact List.mem_cons_self | with_reducible apply List.mem_cons_of_mem))
    · exact H.cell (w1.heap.size) 1 (.int .i64 3652059) (by repeat (first | with_reducible exact List.mem_cons_self | with_reducible apply List.mem_cons_of_mem))⟩⟩
  replace H := (H.add (f := factsCF) (hL.below H.old)).add (f := rowF (some ⟨w1.heap.size, 0, none⟩) zX 2 2) hR
  clear hR cs0 cs1 cs2 cs3 ls
  (with_reducible refine (P1.out _ (H.factsC (by repeat (first | with_reducible exact List.mem_cons_self | with_reducible apply List.mem_cons_of_mem))) _ (H.row (by repeat (first | with_reducible exact List.mem_cons_self | with_reducible apply List.mem_cons_of_mem)))).mono ?_)
  rintro e w2 ⟨rfl, hb⟩
  replace H := H.below hb
  clear hb
  have cs0 := H.cell (w.heap.size + 1) 0 (.bool t) (by repeat (first | with_reducible exact List.mem_cons_self | with_reducible apply List.mem_cons_of_mem))
  have cs1 := H.cell (w.heap.size + 1) 1 (.int .i64 en) (by repeat (first | with_reducible exact List.mem_cons_self | with_reducible apply List.mem_cons_of_mem))
  have cs2 := H.cell (w.heap.size + 1) 2 (.int .i64 2) (by repeat (first | with_reducible exact List.mem_cons_self | with_reducible apply List.mem_cons_of_mem))
  have cs3 := H.cell (w.heap.size + 1) 3 (.slice (some ⟨w1.heap.size, 0, none⟩) 2 2) (by repeat (first | with_reducible exact List.mem_cons_self | with_reducible apply List.mem_cons_of_mem))
  have ls := cell_lt cs0
  go_wp2_with fail
  clear cs0 cs1 cs2 cs3 ls
  replace H := H.pair (w2.heap.size) (.int .i64 0) (.int .i64 0) 29 rfl
  (with_reducible refine (P2.out _ (H.factsC (by repeat (first | with_reducible exact List.mem_cons_self | with_reducible apply List.mem_cons_of_mem))) _ (H.row (by repeat (first | with_reducible exact List.mem_cons_self | with_reducible apply List.mem_cons_of_mem)))).mono ?_)
  rintro e w3 ⟨rfl, hb⟩
  replace H := H.below hb
  clear hb
  have cx0 := H.cell (w2.heap.size) 0 (.int .i64 0) (by repeat (first | with_reducible exact List.mem_cons_self | with_reducible apply List.mem_cons_of_mem))
  have cx1 := H.cell (w2.heap.size) 1 (.int .i64 0) (by repeat (first | with_reducible exact List.mem_cons_self | with_reducible apply List.mem_cons_of_mem))
  have lx := cell_lt cx0
  go_wp2_with fail
  clear cx0 cx1 lx
  replace H := H.pair (w3.heap.size) (.int .i64 0) (.int .i64 0) 29 rfl
  (with_reducible refine (rday_is a false _ Da.out).mono ?_)
  rintro e va ⟨rfl, rfl⟩
  have cx0 := H.cell (w2.heap.size) 0 (.int .i64 0) (by repeat (first | with_reducible exact List.mem_cons_self | with_reducible apply List.mem_cons_of_mem))
  have cx1 := H.cell (w2.heap.size) 1 (.int .i64 0) (by repeat (first | with_reducible exact List.mem_cons_self | with_reducible apply List.mem_cons_of_mem))
  have lx := cell_lt cx0
  have cy0 := H.cell (w3.heap.size) 0 (.int .i64 0) (by repeat (first | with_reducible exact List.mem_cons_self | with_reducible apply List.mem_cons_of_mem))
  have cy1 := H.cell (w3.heap.size) 1 (.int .i64 0) (by repeat (first | with_reducible exact List.mem_cons_self | with_reducible apply List.mem_cons_of_mem))
  have ly := cell_lt cy0
  go_wp2_with fail
  clear cx0 cx1 lx cy0 cy1 ly
  go_ret
  exact ⟨rfl, H.old⟩

set_option maxHeartbeats 4000000 in
set_option maxRecDepth 100000 in
theorem czero_b (K : CWay) (kd0 a b : Int) (t : Bool) (en f : Int) (ao : Option Addr) (n cap : Nat) (k : Int) (w : World) (hL : FactsC w) (bk : 0 ≤ kd0 ∧ kd0 < 256) (hk : kd0 % 7 = k) (h1 : 1 ≤ a ∧ a ≤ 3652059) (h : ¬ (1 ≤ b ∧ b ≤ 3652059)) :
    Calls Tryz.prog 6 #[.agg #[.int .u8 kd0, .int .i64 a, .int .i64 b, .bool t, .int .i64 en, .int .i64 f, .slice ao n cap]] w fun e w' => e = .returned (.bool true) ∧ Below w.heap.size w w' := by
  have H := (Held.start w).add (f := factsCF) hL
  have Da : Hid (decide (1 ≤ a ∧ a ≤ 3652059) = true) := Lib.hid (by rw [decide_eq_true_eq]; exact h1)
  have Db : Hid (decide (1 ≤ b ∧ b ≤ 3652059) = false) := Lib.hid (by rw [decide_eq_false_iff_not]; omega)
  have P1 := Lib.hid (fun v hf A hR => K.part k a a t en 2 (some ⟨A, 0, none⟩) 2 2 zX 0 1 0 v hf (by unfold i64B; omega) (by decide) hR (co_same (show 0 ≤ k ∧ k ≤ 6 by omega) h1 (fun _ => ⟨zx_may, by unfold zX; simp; omega, by unfold zX; simp; omega⟩)))
  have P2 := Lib.hid (fun v hf A hR => K.part k a b t en 2 (some ⟨A, 0, none⟩) 2 2 zX 0 0 3 v hf (by unfold i64B; omega) (by decide) hR (co_no (show 0 ≤ k ∧ k ≤ 6 by omega) (by omega)))
  go_enter Tryz.func6, Tryz.ntmps6
  go_wp2_with fail
  replace H := (H.alloc (.cells #[.int .u8 kd0, .int .i64 a, .int .i64 b, .bool t, .int .i64 en, .int .i64 f, .slice ao n cap] 46)).quad (w.heap.size + 1) (.bool t) (.int .i64 en) (.int .i64 f) (.slice ao n cap) 24 (by simp)
  (with_reducible refine (coshown_any K _ (H.factsC (by repeat (first | with_reducible exact List.mem_cons_self | with_reducible apply List.mem_cons_of_mem)))).mono ?_)
  rintro e w1 ⟨rfl, hb⟩
  replace H := H.below hb
  clear hb
  have cs0 := H.cell (w.heap.size + 1) 0 (.bool t) (by repeat (first | with_reducible exact List.mem_cons_self | with_reducible apply List.mem_cons_of_mem))
  have cs1 := H.cell (w.heap.size + 1) 1 (.int .i64 en) (by repeat (first | with_reducible exact List.mem_cons_self | with_reducible apply List.mem_cons_of_mem))
  have cs2 := H.cell (w.heap.size + 1) 2 (.int .i64 f) (by repeat (first | with_reducible exact List.mem_cons_self | with_reducible apply List.mem_cons_of_mem))
  have cs3 := H.cell (w.heap.size + 1) 3 (.slice ao n cap) (by repeat (first | with_reducible exact List.mem_cons_self | with_reducible apply List.mem_cons_of_mem))
  have ls := cell_lt cs0
  have fs0 := H.frozen (w.heap.size + 1) 0 (by repeat (first | with_reducible exact List.mem_cons_self | with_reducible apply List.mem_cons_of_mem))
  have fs1 := H.frozen (w.heap.size + 1) 1 (by repeat (first | with_reducible exact List.mem_cons_self | with_reducible apply List.mem_cons_of_mem))
  have fs2 := H.frozen (w.heap.size + 1) 2 (by repeat (first | with_reducible exact List.mem_cons_self | with_reducible apply List.mem_cons_of_mem))
  have fs3 := H.frozen (w.heap.size + 1) 3 (by repeat (first | with_reducible exact List.mem_cons_self | with_reducible apply List.mem_cons_of_mem))
  go_wp2_with fail
  clear fs0 fs1 fs2 fs3
  replace H := put_side (w.heap.size + 1) _ _ _ _ (.int .i64 2) (.slice (some ⟨w1.heap.size, 0, none⟩) 2 2) H.old (by omega)
    (H.cell (w.heap.size + 1) 0 (.bool t) (by repeat (first | with_reducible exact List.mem_cons_self | with_reducible apply List.mem_cons_of_mem))) (H.cell (w.heap.size + 1) 1 (.int .i64 en) (by repeat (first | with_reducible exact List.mem_cons_self | with_reducible apply List.mem_cons_of_mem))) (H.cell (w.heap.size + 1) 2 (.int .i64 f) (by repeat (first | with_reducible exact List.mem_cons_self | with_reducible apply List.mem_cons_of_mem))) (H.cell (w.heap.size + 1) 3 (.slice ao n cap) (by repeat (first | with_reducible exact List.mem_cons_self | with_reducible apply List.mem_cons_of_mem)))
  replace H := H.pair (w1.heap.size) (.int .i64 1) (.int .i64 3652059) 3 (by simp)
  have hR : RowAt _ (some ⟨w1.heap.size, 0, none⟩) zX 2 2 := ⟨Nat.le_refl _, fun _ => ⟨w1.heap.size, 0, rfl, fun j hj => by
    have : j = 0 ∨ j = 1 := by omega
    rcases this with rfl | rfl
    · exact H.cell (w1.heap.size) 0 (.int .i64 1) (by repeat (first | with_reducible exact List.mem_cons_self | with_reducible apply List.mem_cons_of_mem))
    · exact H.cell (w1.heap.size) 1 (.int .i64 3652059) (by repeat (first | with_reducible exact List.mem_cons_self | with_reducible apply List.mem_cons_of_mem))⟩⟩
  replace H := (H.add (f := factsCF) (hL.below H.old)).add (f := rowF (some ⟨w1.heap.size, 0, none⟩) zX 2 2) hR
  clear hR cs0 cs1 cs2 cs3 ls
  (with_reducible refine (P1.out _ (H.factsC (by repeat (first | with_reducible exact List.mem_cons_self | with_reducible apply List.mem_cons_of_mem))) _ (H.row (by repeat (first | with_reducible exact List.mem_cons_self | with_reducible apply List.mem_cons_of_mem)))).mono ?_)
  rintro e w2 ⟨rfl, hb⟩
  replace H := H.below hb
  clear hb
  have cs0 := H.cell (w.heap.size + 1) 0 (.bool t) (by repeat (first | with_reducible exact List.mem_cons_self | with_reducible apply List.mem_cons_of_mem))
  have cs1 := H.cell (w.heap.size + 1) 1 (.int .i64 en) (by repeat (first | with_reducible exact List.mem_cons_self | with_reducible apply List.mem_cons_of_mem))
  have cs2 := H.cell (w.heap.size + 1) 2 (.int .i64 2) (by repeat (first | with_reducible exact List.mem_cons_self | with_reducible apply List.mem_cons_of_mem))
  have cs3 := H.cell (w.heap.size + 1) 3 (.slice (some ⟨w1.heap.size, 0, none⟩) 2 2) (by repeat (first | with_reducible exact List.mem_cons_self | with_reducible apply List.mem_cons_of_mem))
  have ls := cell_lt cs0
  go_wp2_with fail
  clear cs0 cs1 cs2 cs3 ls
  replace H := H.pair (w2.heap.size) (.int .i64 0) (.int .i64 1) 29 rfl
  (with_reducible refine (P2.out _ (H.factsC (by repeat (first | with_reducible exact List.mem_cons_self | with_reducible apply List.mem_cons_of_mem))) _ (H.row (by repeat (first | with_reducible exact List.mem_cons_self | with_reducible apply List.mem_cons_of_mem)))).mono ?_)
  rintro e w3 ⟨rfl, hb⟩
  replace H := H.below hb
  clear hb
  have cx0 := H.cell (w2.heap.size) 0 (.int .i64 0) (by repeat (first | with_reducible exact List.mem_cons_self | with_reducible apply List.mem_cons_of_mem))
  have cx1 := H.cell (w2.heap.size) 1 (.int .i64 1) (by repeat (first | with_reducible exact List.mem_cons_self | with_reducible apply List.mem_cons_of_mem))
  have lx := cell_lt cx0
  go_wp2_with fail
  clear cx0 cx1 lx
  replace H := H.pair (w3.heap.size) (.int .i64 0) (.int .i64 0) 29 rfl
  (with_reducible refine (rday_is a true _ Da.out).mono ?_)
  rintro e va ⟨rfl, rfl⟩
  have cx0 := H.cell (w2.heap.size) 0 (.int .i64 0) (by repeat (first | with_reducible exact List.mem_cons_self | with_reducible apply List.mem_cons_of_mem))
  have cx1 := H.cell (w2.heap.size) 1 (.int .i64 1) (by repeat (first | with_reducible exact List.mem_cons_self | with_reducible apply List.mem_cons_of_mem))
  have lx := cell_lt cx0
  go_wp2_with fail
  clear cx0 cx1 lx
  (with_reducible refine (rday_is b false _ Db.out).mono ?_)
  rintro e vb ⟨rfl, rfl⟩
  have cy0 := H.cell (w3.heap.size) 0 (.int .i64 0) (by repeat (first | with_reducible exact List.mem_cons_self | with_reducible apply List.mem_cons_of_mem))
  have cy1 := H.cell (w3.heap.size) 1 (.int .i64 0) (by repeat (first | with_reducible exact List.mem_cons_self | with_reducible apply List.mem_cons_of_mem))
  have ly := cell_lt cy0
  go_wp2_with fail
  clear cy0 cy1 ly
  go_ret
  exact ⟨rfl, H.old⟩

set_option maxHeartbeats 4000000 in
set_option maxRecDepth 100000 in
theorem czero_gt (K : CWay) (kd0 a b : Int) (t : Bool) (en f : Int) (ao : Option Addr) (n cap : Nat) (k : Int) (w : World) (hL : FactsC w) (bk : 0 ≤ kd0 ∧ kd0 < 256) (hk : kd0 % 7 = k) (h1 : 1 ≤ a ∧ a ≤ 3652059) (h2 : 1 ≤ b ∧ b ≤ 3652059) (h : b < a) :
    Calls Tryz.prog 6 #[.agg #[.int .u8 kd0, .int .i64 a, .int .i64 b, .bool t, .int .i64 en, .int .i64 f, .slice ao n cap]] w fun e w' => e = .returned (.bool true) ∧ Below w.heap.size w w' := by
  have H := (Held.start w).add (f := factsCF) hL
  have Da : Hid (decide (1 ≤ a ∧ a ≤ 3652059) = true) := Lib.hid (by rw [decide_eq_true_eq]; exact h1)
  have Db : Hid (decide (1 ≤ b ∧ b ≤ 3652059) = true) := Lib.hid (by rw [decide_eq_true_eq]; exact h2)
  have q1 : decide (a > b) = true := decide_eq_true h
  have q2 : decide (a ≤ b) = false := decide_eq_false (by omega)
  have P1 := Lib.hid (fun v hf A hR => K.part k a a t en 2 (some ⟨A, 0, none⟩) 2 2 zX 0 1 0 v hf (by unfold i64B; omega) (by decide) hR (co_same (show 0 ≤ k ∧ k ≤ 6 by omega) h1 (fun _ => ⟨zx_may, by unfold zX; simp; omega, by unfold zX; simp; omega⟩)))
  have P2 := Lib.hid (fun v hf A hR => K.part k a b t en 2 (some ⟨A, 0, none⟩) 2 2 zX 0 0 4 v hf (by unfold i64B; omega) (by decide) hR (co_order (show 0 ≤ k ∧ k ≤ 6 by omega) h1 h2 h))
  go_enter Tryz.func6, Tryz.ntmps6
  go_wp2_with fail
  replace H := (H.alloc (.cells #[.int .u8 kd0, .int .i64 a, .int .i64 b, .bool t, .int .i64 en, .int .i64 f, .slice ao n cap] 46)).quad (w.heap.size + 1) (.bool t) (.int .i64 en) (.int .i64 f) (.slice ao n cap) 24 (by simp)
  (with_reducible refine (coshown_any K _ (H.factsC (by repeat (first | with_reducible exact List.mem_cons_self | with_reducible apply List.mem_cons_of_mem)))).mono ?_)
  rintro e w1 ⟨rfl, hb⟩
  replace H := H.below hb
  clear hb
  have cs0 := H.cell (w.heap.size + 1) 0 (.bool t) (by repeat (first | with_reducible exact List.mem_cons_self | with_reducible apply List.mem_cons_of_mem))
  have cs1 := H.cell (w.heap.size + 1) 1 (.int .i64 en) (by repeat (first | with_reducible exact List.mem_cons_self | with_reducible apply List.mem_cons_of_mem))
  have cs2 := H.cell (w.heap.size + 1) 2 (.int .i64 f) (by repeat (first | with_reducible exact List.mem_cons_self | with_reducible apply List.mem_cons_of_mem))
  have cs3 := H.cell (w.heap.size + 1) 3 (.slice ao n cap) (by repeat (first | with_reducible exact List.mem_cons_self | with_reducible apply List.mem_cons_of_mem))
  have ls := cell_lt cs0
  have fs0 := H.frozen (w.heap.size + 1) 0 (by repeat (first | with_reducible exact List.mem_cons_self | with_reducible apply List.mem_cons_of_mem))
  have fs1 := H.frozen (w.heap.size + 1) 1 (by repeat (first | with_reducible exact List.mem_cons_self | with_reducible apply List.mem_cons_of_mem))
  have fs2 := H.frozen (w.heap.size + 1) 2 (by repeat (first | with_reducible exact List.mem_cons_self | with_reducible apply List.mem_cons_of_mem))
  have fs3 := H.frozen (w.heap.size + 1) 3 (by repeat (first | with_reducible exact List.mem_cons_self | with_reducible apply List.mem_cons_of_mem))
  go_wp2_with fail
  clear fs0 fs1 fs2 fs3
  replace H := put_side (w.heap.size + 1) _ _ _ _ (.int .i64 2) (.slice (some ⟨w1.heap.size, 0, none⟩) 2 2) H.old (by omega)
    (H.cell (w.heap.size + 1) 0 (.bool t) (by repeat (first | with_reducible exact List.mem_cons_self | with_reducible apply List.mem_cons_of_mem))) (H.cell (w.heap.size + 1) 1 (.int .i64 en) (by repeat (first | with_reducible exact List.mem_cons_self | with_reducible apply List.mem_cons_of_mem))) (H.cell (w.heap.size + 1) 2 (.int .i64 f) (by repeat (first | with_reducible exact List.mem_cons_self | with_reducible apply List.mem_cons_of_mem))) (H.cell (w.heap.size + 1) 3 (.slice ao n cap) (by repeat (first | with_reducible exact List.mem_cons_self | with_reducible apply List.mem_cons_of_mem)))
  replace H := H.pair (w1.heap.size) (.int .i64 1) (.int .i64 3652059) 3 (by simp)
  have hR : RowAt _ (some ⟨w1.heap.size, 0, none⟩) zX 2 2 := ⟨Nat.le_refl _, fun _ => ⟨w1.heap.size, 0, rfl, fun j hj => by
    have : j = 0 ∨ j = 1 := by omega
    rcases this with rfl | rfl
    · exact H.cell (w1.heap.size) 0 (.int .i64 1) (by repeat (first | with_reducible exact List.mem_cons_self | with_reducible apply List.mem_cons_of_mem))
    · exact H.cell (w1.heap.size) 1 (.int .i64 3652059) (by repeat (first | with_reducible exact List.mem_cons_self | with_reducible apply List.mem_cons_of_mem))⟩⟩
  replace H := (H.add (f := factsCF) (hL.below H.old)).add (f := rowF (some ⟨w1.heap.size, 0, none⟩) zX 2 2) hR
  clear hR cs0 cs1 cs2 cs3 ls
  (with_reducible refine (P1.out _ (H.factsC (by repeat (first | with_reducible exact List.mem_cons_self | with_reducible apply List.mem_cons_of_mem))) _ (H.row (by repeat (first | with_reducible exact List.mem_cons_self | with_reducible apply List.mem_cons_of_mem)))).mono ?_)
  rintro e w2 ⟨rfl, hb⟩
  replace H := H.below hb
  clear hb
  have cs0 := H.cell (w.heap.size + 1) 0 (.bool t) (by repeat (first | with_reducible exact List.mem_cons_self | with_reducible apply List.mem_cons_of_mem))
  have cs1 := H.cell (w.heap.size + 1) 1 (.int .i64 en) (by repeat (first | with_reducible exact List.mem_cons_self | with_reducible apply List.mem_cons_of_mem))
  have cs2 := H.cell (w.heap.size + 1) 2 (.int .i64 2) (by repeat (first | with_reducible exact List.mem_cons_self | with_reducible apply List.mem_cons_of_mem))
  have cs3 := H.cell (w.heap.size + 1) 3 (.slice (some ⟨w1.heap.size, 0, none⟩) 2 2) (by repeat (first | with_reducible exact List.mem_cons_self | with_reducible apply List.mem_cons_of_mem))
  have ls := cell_lt cs0
  go_wp2_with fail
  clear cs0 cs1 cs2 cs3 ls
  replace H := H.pair (w2.heap.size) (.int .i64 0) (.int .i64 1) 29 rfl
  (with_reducible refine (P2.out _ (H.factsC (by repeat (first | with_reducible exact List.mem_cons_self | with_reducible apply List.mem_cons_of_mem))) _ (H.row (by repeat (first | with_reducible exact List.mem_cons_self | with_reducible apply List.mem_cons_of_mem)))).mono ?_)
  rintro e w3 ⟨rfl, hb⟩
  replace H := H.below hb
  clear hb
  have cx0 := H.cell (w2.heap.size) 0 (.int .i64 0) (by repeat (first | with_reducible exact List.mem_cons_self | with_reducible apply List.mem_cons_of_mem))
  have cx1 := H.cell (w2.heap.size) 1 (.int .i64 1) (by repeat (first | with_reducible exact List.mem_cons_self | with_reducible apply List.mem_cons_of_mem))
  have lx := cell_lt cx0
  go_wp2_with fail
  clear cx0 cx1 lx
  replace H := H.pair (w3.heap.size) (.int .i64 0) (.int .i64 0) 29 rfl
  (with_reducible refine (rday_is a true _ Da.out).mono ?_)
  rintro e va ⟨rfl, rfl⟩
  have cx0 := H.cell (w2.heap.size) 0 (.int .i64 0) (by repeat (first | with_reducible exact List.mem_cons_self | with_reducible apply List.mem_cons_of_mem))
  have cx1 := H.cell (w2.heap.size) 1 (.int .i64 1) (by repeat (first | with_reducible exact List.mem_cons_self | with_reducible apply List.mem_cons_of_mem))
  have lx := cell_lt cx0
  go_wp2_with fail
  clear cx0 cx1 lx
  (with_reducible refine (rday_is b true _ Db.out).mono ?_)
  rintro e vb ⟨rfl, rfl⟩
  have cy0 := H.cell (w3.heap.size) 0 (.int .i64 0) (by repeat (first | with_reducible exact List.mem_cons_self | with_reducible apply List.mem_cons_of_mem))
  have cy1 := H.cell (w3.heap.size) 1 (.int .i64 0) (by repeat (first | with_reducible exact List.mem_cons_self | with_reducible apply List.mem_cons_of_mem))
  have ly := cell_lt cy0
  go_wp2_with fail
  clear cy0 cy1 ly
  go_ret
  exact ⟨rfl, H.old⟩

set_option maxHeartbeats 4000000 in
set_option maxRecDepth 100000 in
theorem czero_in (K : CWay) (kd0 a b : Int) (t : Bool) (en f : Int) (ao : Option Addr) (n cap : Nat) (k : Int) (w : World) (hL : FactsC w) (bk : 0 ≤ kd0 ∧ kd0 < 256) (hk : kd0 % 7 = k) (h1 : 1 ≤ a ∧ a ≤ 3652059) (h2 : 1 ≤ b ∧ b ≤ 3652059) (h : a ≤ b) :
    Calls Tryz.prog 6 #[.agg #[.int .u8 kd0, .int .i64 a, .int .i64 b, .bool t, .int .i64 en, .int .i64 f, .slice ao n cap]] w fun e w' => e = .returned (.bool true) ∧ Below w.heap.size w w' := by
  have H := (Held.start w).add (f := factsCF) hL
  have Da : Hid (decide (1 ≤ a ∧ a ≤ 3652059) = true) := Lib.hid (by rw [decide_eq_true_eq]; exact h1)
  have Db : Hid (decide (1 ≤ b ∧ b ≤ 3652059) = true) := Lib.hid (by rw [decide_eq_true_eq]; exact h2)
  have q1 : decide (a > b) = false := decide_eq_false (by omega)
  have q2 : decide (a ≤ b) = true := decide_eq_true h
  obtain ⟨p, q, hI, hr⟩ := co_told (k := k) (t := t) (en := en) (f := 2) (X := zX) (n := 2) (by omega) h1 h2 h (fun _ => ⟨zx_may, by unfold zX; simp; omega, by unfold zX; simp; omega⟩)
  have R1 := Lib.hid hr
  have P1 := Lib.hid (fun v hf A hR => K.part k a a t en 2 (some ⟨A, 0, none⟩) 2 2 zX 0 1 0 v hf (by unfold i64B; omega) (by decide) hR (co_same (show 0 ≤ k ∧ k ≤ 6 by omega) h1 (fun _ => ⟨zx_may, by unfold zX; simp; omega, by unfold zX; simp; omega⟩)))
  have P2 := Lib.hid (fun v hf A hR => K.part k a b t en 2 (some ⟨A, 0, none⟩) 2 2 zX p q 0 v hf (by unfold i64B; omega) (by decide) hR hI)
  clear hI hr
  go_enter Tryz.func6, Tryz.ntmps6
  go_wp2_with fail
  replace H := (H.alloc (.cells #[.int .u8 kd0, .int .i64 a, .int .i64 b, .bool t, .int .i64 en, .int .i64 f, .slice ao n cap] 46)).quad (w.heap.size + 1) (.bool t) (.int .i64 en) (.int .i64 f) (.slice ao n cap) 24 (by simp)
  (with_reducible refine (coshown_any K _ (H.factsC (by repeat (first | with_reducible exact List.mem_cons_self | with_reducible apply List.mem_cons_of_mem)))).mono ?_)
  rintro e w1 ⟨rfl, hb⟩
  replace H := H.below hb
  clear hb
  have cs0 := H.cell (w.heap.size + 1) 0 (.bool t) (by repeat (first | with_reducible exact List.mem_cons_self | with_reducible apply List.mem_cons_of_mem))
  have cs1 := H.cell (w.heap.size + 1) 1 (.int .i64 en) (by repeat (first | with_reducible exact List.mem_cons_self | with_reducible apply List.mem_cons_of_mem))
  have cs2 := H.cell (w.heap.size + 1) 2 (.int .i64 f) (by repeat (first | with_reducible exact List.mem_cons_self | with_reducible apply List.mem_cons_of_mem))
  have cs3 := H.cell (w.heap.size + 1) 3 (.slice ao n cap) (by repeat (first | with_reducible exact List.mem_cons_self | with_reducible apply List.mem_cons_of_mem))
  have ls := cell_lt cs0
  have fs0 := H.frozen (w.heap.size + 1) 0 (by repeat (first | with_reducible exact List.mem_cons_self | with_reducible apply List.mem_cons_of_mem))
  have fs1 := H.frozen (w.heap.size + 1) 1 (by repeat (first | with_reducible exact List.mem_cons_self | with_reducible apply List.mem_cons_of_mem))
  have fs2 := H.frozen (w.heap.size + 1) 2 (by repeat (first | with_reducible exact List.mem_cons_self | with_reducible apply List.mem_cons_of_mem))
  have fs3 := H.frozen (w.heap.size + 1) 3 (by repeat (first | with_reducible exact List.mem_cons_self | with_reducible apply List.mem_cons_of_mem))
  go_wp2_with fail
  clear fs0 fs1 fs2 fs3
  replace H := put_side (w.heap.size + 1) _ _ _ _ (.int .i64 2) (.slice (some ⟨w1.heap.size, 0, none⟩) 2 2) H.old (by omega)
    (H.cell (w.heap.size + 1) 0 (.bool t) (by repeat (first | with_reducible exact List.mem_cons_self | with_reducible apply List.mem_cons_of_mem))) (H.cell (w.heap.size + 1) 1 (.int .i64 en) (by repeat (first | with_reducible exact List.mem_cons_self | with_reducible apply List.mem_cons_of_mem))) (H.cell (w.heap.size + 1) 2 (.int .i64 f) (by repeat (first | with_reducible exact List.mem_cons_self | with_reducible apply List.mem_cons_of_mem))) (H.cell (w.heap.size + 1) 3 (.slice ao n cap) (by repeat (first | with_reducible exact List.mem_cons_self | with_reducible apply List.mem_cons_of_mem)))
  replace H := H.pair (w1.heap.size) (.int .i64 1) (.int .i64 3652059) 3 (by simp)
  have hR : RowAt _ (some ⟨w1.heap.size, 0, none⟩) zX 2 2 := ⟨Nat.le_refl _, fun _ => ⟨w1.heap.size, 0, rfl, fun j hj => by
    have : j = 0 ∨ j = 1 := by omega
    rcases this with rfl | rfl
    · exact H.cell (w1.heap.size) 0 (.int .i64 1) (by repeat (first | with_reducible exact List.mem_cons_self | with_reducible apply List.mem_cons_of_mem))
    · exact H.cell (w1.heap.size) 1 (.int .i64 3652059) (by repeat (first | with_reducible exact List.mem_cons_self | with_reducible apply List.mem_cons_of_mem))⟩⟩
  replace H := (H.add (f := factsCF) (hL.below H.old)).add (f := rowF (some ⟨w1.heap.size, 0, none⟩) zX 2 2) hR
  clear hR cs0 cs1 cs2 cs3 ls
  (with_reducible refine (P1.out _ (H.factsC (by repeat (first | with_reducible exact List.mem_cons_self | with_reducible apply List.mem_cons_of_mem))) _ (H.row (by repeat (first | with_reducible exact List.mem_cons_self | with_reducible apply List.mem_cons_of_mem)))).mono ?_)
  rintro e w2 ⟨rfl, hb⟩
  replace H := H.below hb
  clear hb
  have cs0 := H.cell (w.heap.size + 1) 0 (.bool t) (by repeat (first | with_reducible exact List.mem_cons_self | with_reducible apply List.mem_cons_of_mem))
  have cs1 := H.cell (w.heap.size + 1) 1 (.int .i64 en) (by repeat (first | with_reducible exact List.mem_cons_self | with_reducible apply List.mem_cons_of_mem))
  have cs2 := H.cell (w.heap.size + 1) 2 (.int .i64 2) (by repeat (first | with_reducible exact List.mem_cons_self | with_reducible apply List.mem_cons_of_mem))
  have cs3 := H.cell (w.heap.size + 1) 3 (.slice (some ⟨w1.heap.size, 0, none⟩) 2 2) (by repeat (first | with_reducible exact List.mem_cons_self | with_reducible apply List.mem_cons_of_mem))
  have ls := cell_lt cs0
  go_wp2_with fail
  clear cs0 cs1 cs2 cs3 ls
  replace H := H.pair (w2.heap.size) (.int .i64 0) (.int .i64 1) 29 rfl
  (with_reducible refine (P2.out _ (H.factsC (by repeat (first | with_reducible exact List.mem_cons_self | with_reducible apply List.mem_cons_of_mem))) _ (H.row (by repeat (first | with_reducible exact List.mem_cons_self | with_reducible apply List.mem_cons_of_mem)))).mono ?_)
  rintro e w3 ⟨rfl, hb⟩
  replace H := H.below hb
  clear hb
  have cx0 := H.cell (w2.heap.size) 0 (.int .i64 0) (by repeat (first | with_reducible exact List.mem_cons_self | with_reducible apply List.mem_cons_of_mem))
  have cx1 := H.cell (w2.heap.size) 1 (.int .i64 1) (by repeat (first | with_reducible exact List.mem_cons_self | with_reducible apply List.mem_cons_of_mem))
  have lx := cell_lt cx0
  go_wp2_with fail
  clear cx0 cx1 lx
  replace H := H.pair (w3.heap.size) (.int .i64 p) (.int .i64 q) 29 rfl
  (with_reducible refine (rday_is a true _ Da.out).mono ?_)
  rintro e va ⟨rfl, rfl⟩
  have cx0 := H.cell (w2.heap.size) 0 (.int .i64 0) (by repeat (first | with_reducible exact List.mem_cons_self | with_reducible apply List.mem_cons_of_mem))
  have cx1 := H.cell (w2.heap.size) 1 (.int .i64 1) (by repeat (first | with_reducible exact List.mem_cons_self | with_reducible apply List.mem_cons_of_mem))
  have lx := cell_lt cx0
  go_wp2_with fail
  clear cx0 cx1 lx
  (with_reducible refine (rday_is b true _ Db.out).mono ?_)
  rintro e vb ⟨rfl, rfl⟩
  have cy0 := H.cell (w3.heap.size) 0 (.int .i64 p) (by repeat (first | with_reducible exact List.mem_cons_self | with_reducible apply List.mem_cons_of_mem))
  have cy1 := H.cell (w3.heap.size) 1 (.int .i64 q) (by repeat (first | with_reducible exact List.mem_cons_self | with_reducible apply List.mem_cons_of_mem))
  have ly := cell_lt cy0
  go_wp2_with fail
  clear cy0 cy1 ly
  (with_reducible refine (rright_is p q true _ R1.out).mono ?_)
  rintro e w4 ⟨rfl, hb⟩
  replace H := H.below hb
  clear hb
  go_wp2_with fail
  go_ret
  exact ⟨rfl, H.old⟩

theorem czero_walk (K : CWay) (kd0 a b : Int) (t : Bool) (en f : Int) (ao : Option Addr) (n cap : Nat) (w : World) (hL : FactsC w) (bk : 0 ≤ kd0 ∧ kd0 < 256) :
    Calls Tryz.prog 6 #[.agg #[.int .u8 kd0, .int .i64 a, .int .i64 b, .bool t, .int .i64 en, .int .i64 f, .slice ao n cap]] w fun e w' => e = .returned (.bool true) ∧ Below w.heap.size w w' := by
  by_cases h1 : 1 ≤ a ∧ a ≤ 3652059
  rotate_left
  · exact czero_a K kd0 a b t en f ao n cap _ w hL bk rfl h1
  by_cases h2 : 1 ≤ b ∧ b ≤ 3652059
  rotate_left
  · exact czero_b K kd0 a b t en f ao n cap _ w hL bk rfl h1 h2
  by_cases h : b < a
  · exact czero_gt K kd0 a b t en f ao n cap _ w hL bk rfl h1 h2 h
  · exact czero_in K kd0 a b t en f ao n cap _ w hL bk rfl h1 h2 (by omega)
end Go.Proofs.YtkmchbllnfoccaaGreatDoor
