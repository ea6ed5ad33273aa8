/- The statements' own word 'few': a fraction that is right, of numbers below a million. -/
import Derived.Test.YtghhnpbepilefaaRefRight
namespace Go.Proofs.Ytghhnpbepilefaa
open Go.RowKit
set_option linter.unusedVariables false

def fewB (n d : Int) : Bool := rightB n d && (decide (n < 1000000) && decide (d < 1000000))
theorem few_iff (n d : Int) : fewB n d = true ↔ rightB n d = true ∧ n < 1000000 ∧ d < 1000000 := by unfold fewB; simp

set_option maxHeartbeats 1000000 in
theorem few_y (n d : Int) (w : World) (hr : rightB n d = true) (a : n < 1000000) (b : d < 1000000) :
    Calls Try.prog 24 #[.agg #[.int .i64 n, .int .i64 d]] w fun e w' => e = .returned (.bool true) ∧ Below w.heap.size w w' := by
  have H := Held.start w
  have R := Lib.hid hr
  clear hr
  have t1 : decide (n < 1000000) = true := by simp; omega
  have t2 : decide (d < 1000000) = true := by simp; omega
  go_enter Try.func24, Try.ntmps24
  go_wp2_with fail
  replace H := (H.pair (w.heap.size) (.int .i64 n) (.int .i64 d) 23 rfl)
  (with_reducible refine (rright_is n d true _ R.out).mono ?_)
  rintro e w1 ⟨rfl, hb⟩
  replace H := H.below hb
  clear hb
  have cr0 := H.cell (w.heap.size) 0 (.int .i64 n) (List.Mem.head _)
  have cr1 := H.cell (w.heap.size) 1 (.int .i64 d) (List.Mem.tail _ (List.Mem.head _))
  have lr := H.lt (w.heap.size) 0 (.int .i64 n) (List.Mem.head _)
  go_wp2
  go_ret
  exact ⟨rfl, H.old⟩

set_option maxHeartbeats 1000000 in
theorem few_n1 (n d : Int) (w : World) (hr : rightB n d = false) :
    Calls Try.prog 24 #[.agg #[.int .i64 n, .int .i64 d]] w fun e w' => e = .returned (.bool false) ∧ Below w.heap.size w w' := by
  have H := Held.start w
  have R := Lib.hid hr
  clear hr
  go_enter Try.func24, Try.ntmps24
  go_wp2_with fail
  replace H := (H.pair (w.heap.size) (.int .i64 n) (.int .i64 d) 23 rfl)
  (with_reducible refine (rright_is n d false _ R.out).mono ?_)
  rintro e w1 ⟨rfl, hb⟩
  replace H := H.below hb
  clear hb
  have cr0 := H.cell (w.heap.size) 0 (.int .i64 n) (List.Mem.head _)
  have cr1 := H.cell (w.heap.size) 1 (.int .i64 d) (List.Mem.tail _ (List.Mem.head _))
  have lr := H.lt (w.heap.size) 0 (.int .i64 n) (List.Mem.head _)
  go_wp2
  go_ret
  exact ⟨rfl, H.old⟩

set_option maxHeartbeats 1000000 in
theorem few_n2 (n d : Int) (w : World) (hr : rightB n d = true) (a : ¬ n < 1000000) :
    Calls Try.prog 24 #[.agg #[.int .i64 n, .int .i64 d]] w fun e w' => e = .returned (.bool false) ∧ Below w.heap.size w w' := by
  have H := Held.start w
  have R := Lib.hid hr
  clear hr
  have t1 : decide (n < 1000000) = false := by simp; omega
  go_enter Try.func24, Try.ntmps24
  go_wp2_with fail
  replace H := (H.pair (w.heap.size) (.int .i64 n) (.int .i64 d) 23 rfl)
  (with_reducible refine (rright_is n d true _ R.out).mono ?_)
  rintro e w1 ⟨rfl, hb⟩
  replace H := H.below hb
  clear hb
  have cr0 := H.cell (w.heap.size) 0 (.int .i64 n) (List.Mem.head _)
  have cr1 := H.cell (w.heap.size) 1 (.int .i64 d) (List.Mem.tail _ (List.Mem.head _))
  have lr := H.lt (w.heap.size) 0 (.int .i64 n) (List.Mem.head _)
  go_wp2
  go_ret
  exact ⟨rfl, H.old⟩

set_option maxHeartbeats 1000000 in
theorem few_n3 (n d : Int) (w : World) (hr : rightB n d = true) (a : n < 1000000) (b : ¬ d < 1000000) :
    Calls Try.prog 24 #[.agg #[.int .i64 n, .int .i64 d]] w fun e w' => e = .returned (.bool false) ∧ Below w.heap.size w w' := by
  have H := Held.start w
  have R := Lib.hid hr
  clear hr
  have t1 : decide (n < 1000000) = true := by simp; omega
  have t2 : decide (d < 1000000) = false := by simp; omega
  go_enter Try.func24, Try.ntmps24
  go_wp2_with fail
  replace H := (H.pair (w.heap.size) (.int .i64 n) (.int .i64 d) 23 rfl)
  (with_reducible refine (rright_is n d true _ R.out).mono ?_)
  rintro e w1 ⟨rfl, hb⟩
  replace H := H.below hb
  clear hb
  have cr0 := H.cell (w.heap.size) 0 (.int .i64 n) (List.Mem.head _)
  have cr1 := H.cell (w.heap.size) 1 (.int .i64 d) (List.Mem.tail _ (List.Mem.head _))
  have lr := H.lt (w.heap.size) 0 (.int .i64 n) (List.Mem.head _)
  go_wp2
  go_ret
  exact ⟨rfl, H.old⟩

theorem few_any (n d : Int) (w : World) :
    Calls Try.prog 24 #[.agg #[.int .i64 n, .int .i64 d]] w fun e w' => e = .returned (.bool (fewB n d)) ∧ Below w.heap.size w w' := by
  have no : ¬ (rightB n d = true ∧ n < 1000000 ∧ d < 1000000) → fewB n d = false := fun h => by
    cases k : fewB n d
    · rfl
    · exact absurd ((few_iff n d).1 k) h
  cases hr : rightB n d
  · rw [no (fun h => by rw [hr] at h; exact Bool.false_ne_true h.1)]; exact few_n1 n d w hr
  · by_cases a : n < 1000000
    · by_cases b : d < 1000000
      · rw [(few_iff n d).2 ⟨hr, a, b⟩]; exact few_y n d w hr a b
      · rw [no (fun h => b h.2.2)]; exact few_n3 n d w hr a b
    · rw [no (fun h => a h.2.1)]; exact few_n2 n d w hr a
theorem few_is (n d : Int) (c : Bool) (w : World) (h : fewB n d = c) :
    Calls Try.prog 24 #[.agg #[.int .i64 n, .int .i64 d]] w fun e w' => e = .returned (.bool c) ∧ Below w.heap.size w w' := by
  subst h; exact few_any n d w
end Go.Proofs.Ytghhnpbepilefaa
