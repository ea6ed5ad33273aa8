/- Package dates: what is between a loan's ends, its ends; the reference's Short and Row. -/
import Derived.Test.YtjijgcgbnmobfaaGreatDoorDaMem
namespace Go.Proofs.YtjijgcgbnmobfaaGreatDoor
open Go.RowKit
set_option linter.unusedVariables false
set_option linter.unusedSimpArgs false

theorem between_any (mo ra ki co st en ms : Int) (bk lg eo : Bool) (ro : Int) (n : Int) (b : Bool) (w : World) (h : (Tm.mk mo ra ki co st en ms bk lg eo ro).btw n = b) :
    Calls Tryz.prog 43 #[.agg #[.int .i64 mo, .int .i64 ra, .int .i64 ki, .int .i64 co, .int .i64 st, .int .i64 en, .int .i64 ms, .bool bk, .bool lg, .bool eo, .int .i64 ro], .int .i64 n] w fun e w' => e = .returned (.bool b) ∧ Below w.heap.size w w' := by
  have H := Held.start w
  have e1 : (decide (st < n) && decide (n < en)) = b := h
  by_cases h1 : st < n
  · have t1 : decide (st < n) = true := decide_eq_true h1
    rw [t1, Bool.true_and] at e1
    have HB := Lib.hid e1
    clear e1 h
    go_enter Tryz.func43, Tryz.ntmps43
    go_wp2_with fail
    replace H := H.box_11 (w.heap.size) (.int .i64 mo) (.int .i64 ra) (.int .i64 ki) (.int .i64 co) (.int .i64 st) (.int .i64 en) (.int .i64 ms) (.bool bk) (.bool lg) (.bool eo) (.int .i64 ro) 23 rfl
    go_ret
    exact ⟨retB HB.out, H.old⟩
  · have t1 : decide (st < n) = false := decide_eq_false h1
    rw [t1, Bool.false_and] at e1
    have HB := Lib.hid e1
    clear e1 h
    go_enter Tryz.func43, Tryz.ntmps43
    go_wp2_with fail
    replace H := H.box_11 (w.heap.size) (.int .i64 mo) (.int .i64 ra) (.int .i64 ki) (.int .i64 co) (.int .i64 st) (.int .i64 en) (.int .i64 ms) (.bool bk) (.bool lg) (.bool eo) (.int .i64 ro) 23 rfl
    go_ret
    exact ⟨retB HB.out, H.old⟩
theorem ends_true (mo ra ki co st en ms : Int) (lg eo : Bool) (ro : Int) (w : World) (hm : -100 ≤ ms ∧ ms ≤ 100) :
    Calls Tryz.prog 40 #[.agg #[.int .i64 mo, .int .i64 ra, .int .i64 ki, .int .i64 co, .int .i64 st, .int .i64 en, .int .i64 ms, .bool true, .bool lg, .bool eo, .int .i64 ro]] w fun e w' => e = .returned (.tuple #[.int .i64 en, .int .i64 st, .int .i64 (-ms)]) ∧ Below w.heap.size w w' := by
  have H := Held.start w
  go_enter Tryz.func40, Tryz.ntmps40
  go_wp2_with fail
  go_quiet (fail)
  go_wp2_with fail
  replace H := H.box_11 (w.heap.size) (.int .i64 mo) (.int .i64 ra) (.int .i64 ki) (.int .i64 co) (.int .i64 st) (.int .i64 en) (.int .i64 ms) (.bool true) (.bool lg) (.bool eo) (.int .i64 ro) 23 rfl
  go_ret3
  exact ⟨rfl, (H.drewN _).old⟩
theorem ends_false (mo ra ki co st en ms : Int) (lg eo : Bool) (ro : Int) (w : World) (hm : -100 ≤ ms ∧ ms ≤ 100) :
    Calls Tryz.prog 40 #[.agg #[.int .i64 mo, .int .i64 ra, .int .i64 ki, .int .i64 co, .int .i64 st, .int .i64 en, .int .i64 ms, .bool false, .bool lg, .bool eo, .int .i64 ro]] w fun e w' => e = .returned (.tuple #[.int .i64 st, .int .i64 en, .int .i64 ms]) ∧ Below w.heap.size w w' := by
  have H := Held.start w
  go_enter Tryz.func40, Tryz.ntmps40
  go_wp2_with fail
  go_quiet (fail)
  go_wp2_with fail
  replace H := H.box_11 (w.heap.size) (.int .i64 mo) (.int .i64 ra) (.int .i64 ki) (.int .i64 co) (.int .i64 st) (.int .i64 en) (.int .i64 ms) (.bool false) (.bool lg) (.bool eo) (.int .i64 ro) 23 rfl
  go_ret3
  exact ⟨rfl, (H.drewN _).old⟩
theorem ends_any (mo ra ki co st en ms : Int) (bk lg eo : Bool) (ro : Int) (w : World) (hm : -100 ≤ ms ∧ ms ≤ 100) :
    Calls Tryz.prog 40 #[.agg #[.int .i64 mo, .int .i64 ra, .int .i64 ki, .int .i64 co, .int .i64 st, .int .i64 en, .int .i64 ms, .bool bk, .bool lg, .bool eo, .int .i64 ro]] w fun e w' => e = .returned (.tuple #[.int .i64 (Tm.mk mo ra ki co st en ms bk lg eo ro).an, .int .i64 (Tm.mk mo ra ki co st en ms bk lg eo ro).ot, .int .i64 (Tm.mk mo ra ki co st en ms bk lg eo ro).ap]) ∧ Below w.heap.size w w' := by
  cases bk
  · exact ends_false mo ra ki co st en ms lg eo ro w hm
  · exact ends_true mo ra ki co st en ms lg eo ro w hm
theorem short_any (mo ra ki co st en ms : Int) (bk lg eo : Bool) (ro : Int) (k : Int) (b : Bool) (w : World) (hs : 1 ≤ st ∧ st ≤ 3652059) (he : 1 ≤ en ∧ en ≤ 3652059) (ho : st < en) (hk : 0 ≤ k ∧ k ≤ 1000) (h : decide (en - st ≤ 31 * k) = b) :
    Calls Tryz.prog 11 #[.agg #[.int .i64 mo, .int .i64 ra, .int .i64 ki, .int .i64 co, .int .i64 st, .int .i64 en, .int .i64 ms, .bool bk, .bool lg, .bool eo, .int .i64 ro], .int .i64 k] w fun e w' => e = .returned (.bool b) ∧ Below w.heap.size w w' := by
  have H := Held.start w
  cases b
  · go_enter Tryz.func11, Tryz.ntmps11
    go_wp2_with fail
    replace H := H.box_11 (w.heap.size) (.int .i64 mo) (.int .i64 ra) (.int .i64 ki) (.int .i64 co) (.int .i64 st) (.int .i64 en) (.int .i64 ms) (.bool bk) (.bool lg) (.bool eo) (.int .i64 ro) 23 rfl
    go_ret
    exact ⟨rfl, H.old⟩
  · have h2 : decide (st ≤ en) = true := decide_eq_true (by omega)
    go_enter Tryz.func11, Tryz.ntmps11
    go_wp2_with fail
    replace H := H.box_11 (w.heap.size) (.int .i64 mo) (.int .i64 ra) (.int .i64 ki) (.int .i64 co) (.int .i64 st) (.int .i64 en) (.int .i64 ms) (.bool bk) (.bool lg) (.bool eo) (.int .i64 ro) 23 rfl
    go_ret
    exact ⟨rfl, H.old⟩
set_option maxHeartbeats 2000000 in
theorem rrow_yes (aO : Option Addr) (n ca : Nat) (X : Nat → Int) (bO : Option Addr) (cb : Nat) (Y : Nat → Int) (w : World) (hn : n ≤ 2000) (hA : DaysAt w aO X n ca) (hB : DaysAt w bO Y n cb) (h : ∀ i, i < n → X i = Y i) :
    Calls Tryz.prog 16 #[.slice aO n ca, .slice bO n cb] w fun e w' => e = .returned (.bool true) ∧ Below w.heap.size w w' := by
  have KA := Lib.hid hA
  have KB := Lib.hid hB
  have KE := Lib.hid h
  clear hA hB h
  go_enter Tryz.func16, Tryz.ntmps16
  go_wp2_with fail
  go_loopw [5] (fun i wr => ∃ k : Nat, k ≤ n ∧ i = .int .i64 (k : Int) ∧ Below w.heap.size w wr) (fun i _ => n - (intOf i).toNat)
  case atStart => exact ⟨0, by omega, rfl, Below.refl _ _⟩
  case round =>
    obtain ⟨k, hk, rfl, hB⟩ := hrel
    have HB := Lib.hid hB
    by_cases hlt : k < n
    · obtain ⟨bA, oA, rfl, da⟩ := (KA.out.below hB).2 (by omega)
      obtain ⟨bB, oB, rfl, db⟩ := (KB.out.below hB).2 (by omega)
      have ka := da k hlt
      have kb := db k hlt
      rw [← KE.out k hlt] at kb
      obtain ⟨x, hx⟩ : ∃ x, X k = x := ⟨_, rfl⟩
      rw [hx] at ka kb
      have n1 := KA.out.1
      have n2 := KB.out.1
      clear da db hB hx
      go_wp2_with fail
      go_quiet (fail)
      go_wp2
      go_roundw
      case rel => exact ⟨k + 1, by omega, by go_num, belowDrewN HB.out _⟩
      case measure => simp [intOf]; omega
    · obtain rfl : k = n := by omega
      clear hB
      go_wp2
      go_ret
      exact ⟨rfl, HB.out⟩
end Go.Proofs.YtjijgcgbnmobfaaGreatDoor
