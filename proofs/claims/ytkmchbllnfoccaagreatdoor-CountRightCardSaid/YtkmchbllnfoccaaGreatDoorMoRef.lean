/- The reference of layer 5: Last, End, Shift, Move, month by month. -/
import Derived.Test.YtkmchbllnfoccaaGreatDoorMoNum
import Derived.Test.YtkmchbllnfoccaaGreatDoorCShown
namespace Go.Proofs.YtkmchbllnfoccaaGreatDoor
open Go.RowKit
set_option linter.unusedVariables false

set_option maxHeartbeats 1000000 in
theorem rlast_in (n y m d : Int) (b : Bool) (w : World) (h : may y m d) (hn : nb y m d = n) (hb : decide (d = ln y m) = b) :
    Calls Tryz.prog 39 #[.int .i64 n] w fun e' w' => e' = .returned (.bool b) ∧ Below w.heap.size w w' := by
  have H := Held.start w
  have O1 : Hid (DayIs n y m d 0) := Lib.hid (Or.inl ⟨h, hn, rfl⟩)
  obtain ⟨l, HB⟩ : ∃ l, Hid (ln y m = l) := ⟨_, Lib.hid rfl⟩
  have C1 := Lib.hid (fun v => rlength_any y m v)
  rw [HB.out] at hb C1
  clear h hn
  have hb2 : (d == l) = b := by rw [← hb, Bool.eq_iff_iff]; simp
  subst hb2
  go_enter Tryz.func39, Tryz.ntmps39
  go_wp2_with fail
  (with_reducible refine (rof_any n y m d 0 _ O1.out).mono ?_)
  rintro e w1 ⟨rfl, hb⟩
  replace H := H.below hb
  clear hb
  go_wp2
  replace H := (H.triple (w1.heap.size) (.int .i64 y) (.int .i64 m) (.int .i64 d) 78 rfl)
  have cc0 := H.cell (w1.heap.size) 0 (.int .i64 y) (List.Mem.head _)
  have cc1 := H.cell (w1.heap.size) 1 (.int .i64 m) (List.Mem.tail _ (List.Mem.head _))
  have cc2 := H.cell (w1.heap.size) 2 (.int .i64 d) (List.Mem.tail _ (List.Mem.tail _ (List.Mem.head _)))
  have lc := H.lt (w1.heap.size) 0 (.int .i64 y) (List.Mem.head _)
  have HK := H.old
  clear H
  go_quiet ((go_at_call 61; with_reducible exact quietLeft (C1.out _)))
  go_wp2
  go_ret
  exact ⟨by simp, belowDrewN HK _⟩

set_option maxHeartbeats 1000000 in
theorem rlast_out (n : Int) (w : World) (h : n < 1 ∨ 3652059 < n) :
    Calls Tryz.prog 39 #[.int .i64 n] w fun e' w' => e' = .returned (.bool false) ∧ Below w.heap.size w w' := by
  have H := Held.start w
  have O1 : Hid (DayIs n 0 0 0 3) := Lib.hid (Or.inr ⟨h, rfl, rfl, rfl, rfl⟩)
  clear h
  go_enter Tryz.func39, Tryz.ntmps39
  go_wp2_with fail
  (with_reducible refine (rof_any n 0 0 0 3 _ O1.out).mono ?_)
  rintro e w1 ⟨rfl, hb⟩
  replace H := H.below hb
  clear hb
  go_wp2_with fail
  replace H := (H.triple (w1.heap.size) (.int .i64 0) (.int .i64 0) (.int .i64 0) 78 rfl)
  go_ret
  exact ⟨rfl, H.old⟩

theorem rlast_any (n : Int) (b : Bool) (w : World) (h : LastIs n b) : Calls Tryz.prog 39 #[.int .i64 n] w fun e' w' => e' = .returned (.bool b) ∧ Below w.heap.size w w' := by
  rcases h with ⟨y, m, d, h1, h2, rfl⟩ | ⟨h, rfl⟩
  · exact rlast_in n y m d _ w h1 h2 rfl
  · exact rlast_out n w h

end Go.Proofs.YtkmchbllnfoccaaGreatDoor
