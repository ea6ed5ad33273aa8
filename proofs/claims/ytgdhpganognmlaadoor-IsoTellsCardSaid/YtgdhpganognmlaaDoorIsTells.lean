/- IsoTells: the walk. -/
import Derived.Test.YtgdhpganognmlaaDoorIsShown
namespace Go.Proofs.YtgdhpganognmlaaDoor
open Go.RowKit
set_option linter.unusedVariables false
set_option linter.unusedSimpArgs false

set_option maxHeartbeats 4000000 in
set_option maxRecDepth 100000 in
theorem itells_long (n : Int) (l : List UInt8) (w : World) (hL : Tabs w) (h : l.length > 40) :
    Calls Tryd.prog 3 #[.int .i64 n, .string ⟨l.toArray⟩] w fun e w' => e = .returned (.bool true) ∧ Below w.heap.size w w' := by
  have H := (Held.start w).add (f := tabsF) hL
  clear hL
  have h2 : ((l.length : Int) > 40) := by omega
  clear h
  go_enter Tryd.func3, Tryd.ntmps3
  go_wp2_with fail
  (with_reducible refine (ishown_any _ (H.tabs (List.Mem.head _))).mono ?_)
  rintro e w1 ⟨rfl, hb⟩
  replace H := H.below hb
  clear hb
  go_wp2_with fail
  go_ret
  exact ⟨rfl, H.old⟩

set_option maxHeartbeats 4000000 in
set_option maxRecDepth 100000 in
theorem itells_any (n : Int) (l : List UInt8) (w : World) (hL : Tabs w) (h : ¬ l.length > 40) :
    Calls Tryd.prog 3 #[.int .i64 n, .string ⟨l.toArray⟩] w fun e w' => e = .returned (.bool true) ∧ Below w.heap.size w w' := by
  have H := (Held.start w).add (f := tabsF) hL
  clear hL
  have h2 : ¬ ((l.length : Int) > 40) := by omega
  clear h
  obtain ⟨a, c, h⟩ := show_is n
  have S := Lib.hid h
  clear h
  obtain ⟨x, e, h⟩ := read_is l
  have R := Lib.hid h
  clear h
  go_enter Tryd.func3, Tryd.ntmps3
  go_wp2_with fail
  (with_reducible refine (ishown_any _ (H.tabs (List.Mem.head _))).mono ?_)
  rintro e w1 ⟨rfl, hb⟩
  replace H := H.below hb
  clear hb
  go_wp2_with fail
  (with_reducible refine (show_any n c a _ (H.tabs (List.Mem.head _)) S.out).mono ?_)
  rintro e w2 ⟨rfl, hb⟩
  replace H := H.below hb
  clear hb
  go_wp2_with fail
  (with_reducible refine (rshow_any n c a _ S.out).mono ?_)
  rintro e w3 ⟨rfl, hb⟩
  replace H := H.below hb
  clear hb
  go_wp2_with fail
  (with_reducible refine (read_any l x e _ (H.tabs (List.Mem.head _)) R.out).mono ?_)
  rintro e w4 ⟨rfl, hb⟩
  replace H := H.below hb
  clear hb
  go_wp2_with fail
  (with_reducible refine (rread_any l x e _ R.out).mono ?_)
  rintro e w5 ⟨rfl, hb⟩
  replace H := H.below hb
  clear hb
  go_wp2_with fail
  go_ret
  exact ⟨rfl, H.old⟩

theorem itells_walk (n : Int) (s : ByteArray) (w : World) (hL : Tabs w) (hn : -9223372036854775808 ≤ n ∧ n < 9223372036854775808) :
    Calls Tryd.prog 3 #[.int .i64 n, .string s] w fun e w' => e = .returned (.bool true) ∧ Below w.heap.size w w' := by
  obtain ⟨⟨l⟩⟩ := s
  by_cases h : l.length > 40
  · exact itells_long n l w hL h
  · exact itells_any n l w hL h
end Go.Proofs.YtgdhpganognmlaaDoor
