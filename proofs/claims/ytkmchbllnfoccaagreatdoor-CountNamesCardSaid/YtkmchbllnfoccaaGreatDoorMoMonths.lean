/- Package months: Last, End, Shift, Move. -/
import Derived.Test.YtkmchbllnfoccaaGreatDoorMoCut
namespace Go.Proofs.YtkmchbllnfoccaaGreatDoor
open Go.RowKit
set_option linter.unusedVariables false

set_option maxHeartbeats 1000000 in
theorem last_in_any (n y m d : Int) (b : Bool) (w : World) (hL : Lens w) (h : may y m d) (hn : nb y m d = n) (hb : decide (d = ln y m) = b) :
    Calls Tryz.prog 99 #[.int .i64 n] w fun e' w' => e' = .returned (.bool b) ∧ Below w.heap.size w w' := by
  have H := (Held.start w).add (f := lensF) hL
  clear hL
  have O1 : Hid (DayIs n y m d 0) := Lib.hid (Or.inl ⟨h, hn, rfl⟩)
  have HB := Lib.hid hb
  clear h hn hb
  go_enter Tryz.func99, Tryz.ntmps99
  go_wp2_with fail
  (with_reducible refine (civ_any n y m d 0 _ (H.lens (List.Mem.head _)) O1.out).mono ?_)
  rintro e w1 ⟨rfl, hb⟩
  replace H := H.below hb
  clear hb
  go_wp2_with fail
  replace H := (H.triple (w1.heap.size) (.int .i64 y) (.int .i64 m) (.int .i64 d) 78 rfl)
  have cc0 := H.cell (w1.heap.size) 0 (.int .i64 y) (List.Mem.head _)
  have cc1 := H.cell (w1.heap.size) 1 (.int .i64 m) (List.Mem.tail _ (List.Mem.head _))
  have cc2 := H.cell (w1.heap.size) 2 (.int .i64 d) (List.Mem.tail _ (List.Mem.tail _ (List.Mem.head _)))
  have lc := H.lt (w1.heap.size) 0 (.int .i64 y) (List.Mem.head _)
  (with_reducible refine (cutb_any y m d (w1.heap.size) b _ (H.lens (List.Mem.tail _ (List.Mem.tail _ (List.Mem.tail _ (List.Mem.tail _ (List.Mem.tail _ (List.Mem.tail _ (List.Mem.head _)))))))) cc0 cc1 cc2 HB.out).mono ?_)
  rintro e w2 ⟨rfl, hb⟩
  replace H := H.below hb
  clear hb
  go_wp2
  go_ret
  exact ⟨rfl, H.old⟩

set_option maxHeartbeats 1000000 in
theorem last_out_any (n : Int) (w : World) (hL : Lens w) (h : n < 1 ∨ 3652059 < n) :
    Calls Tryz.prog 99 #[.int .i64 n] w fun e' w' => e' = .returned (.bool false) ∧ Below w.heap.size w w' := by
  have H := (Held.start w).add (f := lensF) hL
  clear hL
  have O1 : Hid (DayIs n 0 0 0 3) := Lib.hid (Or.inr ⟨h, rfl, rfl, rfl, rfl⟩)
  clear h
  go_enter Tryz.func99, Tryz.ntmps99
  go_wp2_with fail
  (with_reducible refine (civ_any n 0 0 0 3 _ (H.lens (List.Mem.head _)) O1.out).mono ?_)
  rintro e w1 ⟨rfl, hb⟩
  replace H := H.below hb
  clear hb
  go_wp2_with fail
  replace H := (H.triple (w1.heap.size) (.int .i64 0) (.int .i64 0) (.int .i64 0) 78 rfl)
  go_ret
  exact ⟨rfl, H.old⟩

theorem last_any (n : Int) (b : Bool) (w : World) (hL : Lens w) (h : LastIs n b) : Calls Tryz.prog 99 #[.int .i64 n] w fun e' w' => e' = .returned (.bool b) ∧ Below w.heap.size w w' := by
  rcases h with ⟨y, m, d, h1, h2, rfl⟩ | ⟨h, rfl⟩
  · exact last_in_any n y m d _ w hL h1 h2 rfl
  · exact last_out_any n w hL h

end Go.Proofs.YtkmchbllnfoccaaGreatDoor
