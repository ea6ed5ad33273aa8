/- The reference of layer 10: names, ways of names, parts by each way. -/
import Derived.Test.YtkmchbllnfoccaaGreatDoorCoNum
import Derived.Test.YtkmchbllnfoccaaGreatDoorCoNm
import Derived.Test.YtkmchbllnfoccaaGreatDoorGTyR
import Derived.Test.YtkmchbllnfoccaaGreatDoorGAc
import Derived.Test.YtkmchbllnfoccaaGreatDoorGIcR
namespace Go.Proofs.YtkmchbllnfoccaaGreatDoor
open Go.RowKit
set_option linter.unusedVariables false
set_option linter.unusedSimpArgs false

theorem rname_0 (w : World) : Calls Tryz.prog 15 #[.int .i64 0] w fun e w' => e = .returned (.string (nm 0)) ∧ w' = w := by
  go_enter Tryz.func15, Tryz.ntmps15
  go_wp2
  go_ret
  exact ⟨rfl, rfl⟩
theorem rname_1 (w : World) : Calls Tryz.prog 15 #[.int .i64 1] w fun e w' => e = .returned (.string (nm 1)) ∧ w' = w := by
  go_enter Tryz.func15, Tryz.ntmps15
  go_wp2
  go_ret
  exact ⟨rfl, rfl⟩
theorem rname_2 (w : World) : Calls Tryz.prog 15 #[.int .i64 2] w fun e w' => e = .returned (.string (nm 2)) ∧ w' = w := by
  go_enter Tryz.func15, Tryz.ntmps15
  go_wp2
  go_ret
  exact ⟨rfl, rfl⟩
theorem rname_3 (w : World) : Calls Tryz.prog 15 #[.int .i64 3] w fun e w' => e = .returned (.string (nm 3)) ∧ w' = w := by
  go_enter Tryz.func15, Tryz.ntmps15
  go_wp2
  go_ret
  exact ⟨rfl, rfl⟩
theorem rname_4 (w : World) : Calls Tryz.prog 15 #[.int .i64 4] w fun e w' => e = .returned (.string (nm 4)) ∧ w' = w := by
  go_enter Tryz.func15, Tryz.ntmps15
  go_wp2
  go_ret
  exact ⟨rfl, rfl⟩
theorem rname_5 (w : World) : Calls Tryz.prog 15 #[.int .i64 5] w fun e w' => e = .returned (.string (nm 5)) ∧ w' = w := by
  go_enter Tryz.func15, Tryz.ntmps15
  go_wp2
  go_ret
  exact ⟨rfl, rfl⟩
theorem rname_6 (w : World) : Calls Tryz.prog 15 #[.int .i64 6] w fun e w' => e = .returned (.string (nm 6)) ∧ w' = w := by
  go_enter Tryz.func15, Tryz.ntmps15
  go_wp2
  go_ret
  exact ⟨rfl, rfl⟩
theorem rname_out (k : Int) (w : World) (h : k < 0 ∨ 6 < k) : Calls Tryz.prog 15 #[.int .i64 k] w fun e w' => e = .returned (.string (nm k)) ∧ w' = w := by
  rw [nm_out k h]
  have n0 : decide (k = 0) = false := by simp; omega
  have n1 : decide (k = 1) = false := by simp; omega
  have n2 : decide (k = 2) = false := by simp; omega
  have n3 : decide (k = 3) = false := by simp; omega
  have n4 : decide (k = 4) = false := by simp; omega
  have n5 : decide (k = 5) = false := by simp; omega
  have n6 : decide (k = 6) = false := by simp; omega
  go_enter Tryz.func15, Tryz.ntmps15
  go_wp2
  go_ret
  exact ⟨rfl, rfl⟩
theorem rname_any (k : Int) (w : World) : Calls Tryz.prog 15 #[.int .i64 k] w fun e w' => e = .returned (.string (nm k)) ∧ w' = w := by
  by_cases h : k < 0 ∨ 6 < k
  · exact rname_out k w h
  · rcases of7 k (by omega) with rfl | rfl | rfl | rfl | rfl | rfl | rfl
    · exact rname_0 w
    · exact rname_1 w
    · exact rname_2 w
    · exact rname_3 w
    · exact rname_4 w
    · exact rname_5 w
    · exact rname_6 w
theorem rpt_0 (a b : Int) (t : Bool) (en f : Int) (ao : Option Addr) (n cap : Nat) (X : Nat → Int) (p q c : Int) (w : World) (h : PartIs (uX t) a b p q c) :
    Calls Tryz.prog 11 #[.int .i64 0, .int .i64 a, .int .i64 b, .agg #[.bool t, .int .i64 en, .int .i64 f, .slice ao n cap]] w fun e w' => e = .returned (.tuple #[.agg #[.int .i64 p, .int .i64 q], .int .i64 c]) ∧ Below w.heap.size w w' := by
  have H := (Held.start w)
  have C := Lib.hid h
  clear h
  go_enter Tryz.func11, Tryz.ntmps11
  go_wp2_with fail
  replace H := H.alloc (.cells #[.bool t, .int .i64 en, .int .i64 f, .slice ao n cap] 24)
  replace H := (H.pair (w.heap.size + 1) (.int .i64 0) (.int .i64 0) 29 (by simp))
  (with_reducible refine (rus_any a b p q c t _ C.out).mono ?_)
  rintro e w1 ⟨rfl, hb⟩
  replace H := H.below hb
  clear hb
  have cz0 := H.cell (w.heap.size + 1) 0 (.int .i64 0) (List.Mem.head _)
  have cz1 := H.cell (w.heap.size + 1) 1 (.int .i64 0) (List.Mem.tail _ (List.Mem.head _))
  have lz := H.lt (w.heap.size + 1) 0 (.int .i64 0) (List.Mem.head _)
  have fz0 := H.frozen (w.heap.size + 1) 0 (List.Mem.tail _ (List.Mem.tail _ (List.Mem.head _)))
  have fz1 := H.frozen (w.heap.size + 1) 1 (List.Mem.tail _ (List.Mem.tail _ (List.Mem.tail _ (List.Mem.head _))))
  have HK := H.old
  clear H
  go_wp2_with fail
  exact bodyPost_ret (v := .tuple #[.agg #[.int .i64 p, .int .i64 q], .int .i64 c]) (by simp [results, Tryz.results11, go_sem, cz0, cz1, lz]) rfl ⟨rfl, by repeat (first | exact HK | refine Below.drew ?_ | refine Below.setCell ?_ (by simp <;> omega) _ | refine Below.alloc ?_ (by simp <;> omega) _)⟩
theorem rpt_1 (a b : Int) (t : Bool) (en f : Int) (ao : Option Addr) (n cap : Nat) (X : Nat → Int) (p q c : Int) (w : World) (h : PartIs eX a b p q c) :
    Calls Tryz.prog 11 #[.int .i64 1, .int .i64 a, .int .i64 b, .agg #[.bool t, .int .i64 en, .int .i64 f, .slice ao n cap]] w fun e w' => e = .returned (.tuple #[.agg #[.int .i64 p, .int .i64 q], .int .i64 c]) ∧ Below w.heap.size w w' := by
  have H := (Held.start w)
  have C := Lib.hid h
  clear h
  go_enter Tryz.func11, Tryz.ntmps11
  go_wp2_with fail
  replace H := H.alloc (.cells #[.bool t, .int .i64 en, .int .i64 f, .slice ao n cap] 24)
  replace H := (H.pair (w.heap.size + 1) (.int .i64 0) (.int .i64 0) 29 (by simp))
  (with_reducible refine (re_any a b p q c _ C.out).mono ?_)
  rintro e w1 ⟨rfl, hb⟩
  replace H := H.below hb
  clear hb
  have cz0 := H.cell (w.heap.size + 1) 0 (.int .i64 0) (List.Mem.head _)
  have cz1 := H.cell (w.heap.size + 1) 1 (.int .i64 0) (List.Mem.tail _ (List.Mem.head _))
  have lz := H.lt (w.heap.size + 1) 0 (.int .i64 0) (List.Mem.head _)
  have fz0 := H.frozen (w.heap.size + 1) 0 (List.Mem.tail _ (List.Mem.tail _ (List.Mem.head _)))
  have fz1 := H.frozen (w.heap.size + 1) 1 (List.Mem.tail _ (List.Mem.tail _ (List.Mem.tail _ (List.Mem.head _))))
  have HK := H.old
  clear H
  go_wp2_with fail
  exact bodyPost_ret (v := .tuple #[.agg #[.int .i64 p, .int .i64 q], .int .i64 c]) (by simp [results, Tryz.results11, go_sem, cz0, cz1, lz]) rfl ⟨rfl, by repeat (first | exact HK | refine Below.drew ?_ | refine Below.setCell ?_ (by simp <;> omega) _ | refine Below.alloc ?_ (by simp <;> omega) _)⟩
theorem rpt_2 (a b : Int) (t : Bool) (en f : Int) (ao : Option Addr) (n cap : Nat) (X : Nat → Int) (p q c : Int) (w : World) (h : PartIs (iX (decide (b = en))) a b p q c) :
    Calls Tryz.prog 11 #[.int .i64 2, .int .i64 a, .int .i64 b, .agg #[.bool t, .int .i64 en, .int .i64 f, .slice ao n cap]] w fun e w' => e = .returned (.tuple #[.agg #[.int .i64 p, .int .i64 q], .int .i64 c]) ∧ Below w.heap.size w w' := by
  have H := (Held.start w)
  have C := Lib.hid h
  clear h
  go_enter Tryz.func11, Tryz.ntmps11
  go_wp2_with fail
  replace H := H.alloc (.cells #[.bool t, .int .i64 en, .int .i64 f, .slice ao n cap] 24)
  replace H := (H.pair (w.heap.size + 1) (.int .i64 0) (.int .i64 0) 29 (by simp))
  (with_reducible refine (risda_any a b en p q c _ C.out).mono ?_)
  rintro e w1 ⟨rfl, hb⟩
  replace H := H.below hb
  clear hb
  have cz0 := H.cell (w.heap.size + 1) 0 (.int .i64 0) (List.Mem.head _)
  have cz1 := H.cell (w.heap.size + 1) 1 (.int .i64 0) (List.Mem.tail _ (List.Mem.head _))
  have lz := H.lt (w.heap.size + 1) 0 (.int .i64 0) (List.Mem.head _)
  have fz0 := H.frozen (w.heap.size + 1) 0 (List.Mem.tail _ (List.Mem.tail _ (List.Mem.head _)))
  have fz1 := H.frozen (w.heap.size + 1) 1 (List.Mem.tail _ (List.Mem.tail _ (List.Mem.tail _ (List.Mem.head _))))
  have HK := H.old
  clear H
  go_wp2_with fail
  exact bodyPost_ret (v := .tuple #[.agg #[.int .i64 p, .int .i64 q], .int .i64 c]) (by simp [results, Tryz.results11, go_sem, cz0, cz1, lz]) rfl ⟨rfl, by repeat (first | exact HK | refine Below.drew ?_ | refine Below.setCell ?_ (by simp <;> omega) _ | refine Below.alloc ?_ (by simp <;> omega) _)⟩
theorem rpt_3 (a b : Int) (t : Bool) (en f : Int) (ao : Option Addr) (n cap : Nat) (X : Nat → Int) (p q c : Int) (w : World) (h : AcIs aX 360 a b p q c) :
    Calls Tryz.prog 11 #[.int .i64 3, .int .i64 a, .int .i64 b, .agg #[.bool t, .int .i64 en, .int .i64 f, .slice ao n cap]] w fun e w' => e = .returned (.tuple #[.agg #[.int .i64 p, .int .i64 q], .int .i64 c]) ∧ Below w.heap.size w w' := by
  have H := (Held.start w)
  have C := Lib.hid h
  clear h
  go_enter Tryz.func11, Tryz.ntmps11
  go_wp2_with fail
  replace H := H.alloc (.cells #[.bool t, .int .i64 en, .int .i64 f, .slice ao n cap] 24)
  replace H := (H.pair (w.heap.size + 1) (.int .i64 0) (.int .i64 0) 29 (by simp))
  (with_reducible refine (rby360_any a b p q c _ C.out).mono ?_)
  rintro e w1 ⟨rfl, hb⟩
  replace H := H.below hb
  clear hb
  have cz0 := H.cell (w.heap.size + 1) 0 (.int .i64 0) (List.Mem.head _)
  have cz1 := H.cell (w.heap.size + 1) 1 (.int .i64 0) (List.Mem.tail _ (List.Mem.head _))
  have lz := H.lt (w.heap.size + 1) 0 (.int .i64 0) (List.Mem.head _)
  have fz0 := H.frozen (w.heap.size + 1) 0 (List.Mem.tail _ (List.Mem.tail _ (List.Mem.head _)))
  have fz1 := H.frozen (w.heap.size + 1) 1 (List.Mem.tail _ (List.Mem.tail _ (List.Mem.tail _ (List.Mem.head _))))
  have HK := H.old
  clear H
  go_wp2_with fail
  exact bodyPost_ret (v := .tuple #[.agg #[.int .i64 p, .int .i64 q], .int .i64 c]) (by simp [results, Tryz.results11, go_sem, cz0, cz1, lz]) rfl ⟨rfl, by repeat (first | exact HK | refine Below.drew ?_ | refine Below.setCell ?_ (by simp <;> omega) _ | refine Below.alloc ?_ (by simp <;> omega) _)⟩
theorem rpt_4 (a b : Int) (t : Bool) (en f : Int) (ao : Option Addr) (n cap : Nat) (X : Nat → Int) (p q c : Int) (w : World) (h : AcIs aX 365 a b p q c) :
    Calls Tryz.prog 11 #[.int .i64 4, .int .i64 a, .int .i64 b, .agg #[.bool t, .int .i64 en, .int .i64 f, .slice ao n cap]] w fun e w' => e = .returned (.tuple #[.agg #[.int .i64 p, .int .i64 q], .int .i64 c]) ∧ Below w.heap.size w w' := by
  have H := (Held.start w)
  have C := Lib.hid h
  clear h
  go_enter Tryz.func11, Tryz.ntmps11
  go_wp2_with fail
  replace H := H.alloc (.cells #[.bool t, .int .i64 en, .int .i64 f, .slice ao n cap] 24)
  replace H := (H.pair (w.heap.size + 1) (.int .i64 0) (.int .i64 0) 29 (by simp))
  (with_reducible refine (rby365_any a b p q c _ C.out).mono ?_)
  rintro e w1 ⟨rfl, hb⟩
  replace H := H.below hb
  clear hb
  have cz0 := H.cell (w.heap.size + 1) 0 (.int .i64 0) (List.Mem.head _)
  have cz1 := H.cell (w.heap.size + 1) 1 (.int .i64 0) (List.Mem.tail _ (List.Mem.head _))
  have lz := H.lt (w.heap.size + 1) 0 (.int .i64 0) (List.Mem.head _)
  have fz0 := H.frozen (w.heap.size + 1) 0 (List.Mem.tail _ (List.Mem.tail _ (List.Mem.head _)))
  have fz1 := H.frozen (w.heap.size + 1) 1 (List.Mem.tail _ (List.Mem.tail _ (List.Mem.tail _ (List.Mem.head _))))
  have HK := H.old
  clear H
  go_wp2_with fail
  exact bodyPost_ret (v := .tuple #[.agg #[.int .i64 p, .int .i64 q], .int .i64 c]) (by simp [results, Tryz.results11, go_sem, cz0, cz1, lz]) rfl ⟨rfl, by repeat (first | exact HK | refine Below.drew ?_ | refine Below.setCell ?_ (by simp <;> omega) _ | refine Below.alloc ?_ (by simp <;> omega) _)⟩
theorem rpt_5 (a b : Int) (t : Bool) (en f : Int) (ao : Option Addr) (n cap : Nat) (X : Nat → Int) (p q c : Int) (w : World) (h : AcIs yX 133590 a b p q c) :
    Calls Tryz.prog 11 #[.int .i64 5, .int .i64 a, .int .i64 b, .agg #[.bool t, .int .i64 en, .int .i64 f, .slice ao n cap]] w fun e w' => e = .returned (.tuple #[.agg #[.int .i64 p, .int .i64 q], .int .i64 c]) ∧ Below w.heap.size w w' := by
  have H := (Held.start w)
  have C := Lib.hid h
  clear h
  go_enter Tryz.func11, Tryz.ntmps11
  go_wp2_with fail
  replace H := H.alloc (.cells #[.bool t, .int .i64 en, .int .i64 f, .slice ao n cap] 24)
  replace H := (H.pair (w.heap.size + 1) (.int .i64 0) (.int .i64 0) 29 (by simp))
  (with_reducible refine (rbyyears_any a b p q c _ C.out).mono ?_)
  rintro e w1 ⟨rfl, hb⟩
  replace H := H.below hb
  clear hb
  have cz0 := H.cell (w.heap.size + 1) 0 (.int .i64 0) (List.Mem.head _)
  have cz1 := H.cell (w.heap.size + 1) 1 (.int .i64 0) (List.Mem.tail _ (List.Mem.head _))
  have lz := H.lt (w.heap.size + 1) 0 (.int .i64 0) (List.Mem.head _)
  have fz0 := H.frozen (w.heap.size + 1) 0 (List.Mem.tail _ (List.Mem.tail _ (List.Mem.head _)))
  have fz1 := H.frozen (w.heap.size + 1) 1 (List.Mem.tail _ (List.Mem.tail _ (List.Mem.tail _ (List.Mem.head _))))
  have HK := H.old
  clear H
  go_wp2_with fail
  exact bodyPost_ret (v := .tuple #[.agg #[.int .i64 p, .int .i64 q], .int .i64 c]) (by simp [results, Tryz.results11, go_sem, cz0, cz1, lz]) rfl ⟨rfl, by repeat (first | exact HK | refine Below.drew ?_ | refine Below.setCell ?_ (by simp <;> omega) _ | refine Below.alloc ?_ (by simp <;> omega) _)⟩
theorem rpt_6 (a b : Int) (t : Bool) (en f : Int) (ao : Option Addr) (n cap : Nat) (X : Nat → Int) (p q c : Int) (w : World) (hn : n ≤ 100) (hR : RowAt w ao X n cap) (h : IcIs X n f a b p q c) :
    Calls Tryz.prog 11 #[.int .i64 6, .int .i64 a, .int .i64 b, .agg #[.bool t, .int .i64 en, .int .i64 f, .slice ao n cap]] w fun e w' => e = .returned (.tuple #[.agg #[.int .i64 p, .int .i64 q], .int .i64 c]) ∧ Below w.heap.size w w' := by
  have H := ((Held.start w).add (f := rowF ao X n cap) hR)
  have C := Lib.hid h
  clear h
  go_enter Tryz.func11, Tryz.ntmps11
  go_wp2_with fail
  replace H := H.alloc (.cells #[.bool t, .int .i64 en, .int .i64 f, .slice ao n cap] 24)
  replace H := (H.pair (w.heap.size + 1) (.int .i64 0) (.int .i64 0) 29 (by simp))
  (with_reducible refine (rpart_is a b ao n cap X f p q c _ hn (H.row (List.Mem.tail _ (List.Mem.tail _ (List.Mem.tail _ (List.Mem.tail _ (List.Mem.head _)))))) C.out).mono ?_)
  rintro e w1 ⟨rfl, hb⟩
  replace H := H.below hb
  clear hb
  have cz0 := H.cell (w.heap.size + 1) 0 (.int .i64 0) (List.Mem.head _)
  have cz1 := H.cell (w.heap.size + 1) 1 (.int .i64 0) (List.Mem.tail _ (List.Mem.head _))
  have lz := H.lt (w.heap.size + 1) 0 (.int .i64 0) (List.Mem.head _)
  have fz0 := H.frozen (w.heap.size + 1) 0 (List.Mem.tail _ (List.Mem.tail _ (List.Mem.head _)))
  have fz1 := H.frozen (w.heap.size + 1) 1 (List.Mem.tail _ (List.Mem.tail _ (List.Mem.tail _ (List.Mem.head _))))
  have HK := H.old
  clear H
  go_wp2_with fail
  exact bodyPost_ret (v := .tuple #[.agg #[.int .i64 p, .int .i64 q], .int .i64 c]) (by simp [results, Tryz.results11, go_sem, cz0, cz1, lz]) rfl ⟨rfl, by repeat (first | exact HK | refine Below.drew ?_ | refine Below.setCell ?_ (by simp <;> omega) _ | refine Below.alloc ?_ (by simp <;> omega) _)⟩
theorem rpt_out (k a b : Int) (t : Bool) (en f : Int) (ao : Option Addr) (n cap : Nat) (w : World) (h : k < 0 ∨ 6 < k) :
    Calls Tryz.prog 11 #[.int .i64 k, .int .i64 a, .int .i64 b, .agg #[.bool t, .int .i64 en, .int .i64 f, .slice ao n cap]] w fun e w' => e = .returned (.tuple #[.agg #[.int .i64 0, .int .i64 0], .int .i64 1]) ∧ Below w.heap.size w w' := by
  have HK := Below.refl w.heap.size w
  have n0 : decide (k = 0) = false := by simp; omega
  have n1 : decide (k = 1) = false := by simp; omega
  have n2 : decide (k = 2) = false := by simp; omega
  have n3 : decide (k = 3) = false := by simp; omega
  have n4 : decide (k = 4) = false := by simp; omega
  have n5 : decide (k = 5) = false := by simp; omega
  have n6 : decide (k = 6) = false := by simp; omega
  go_enter Tryz.func11, Tryz.ntmps11
  go_wp2
  exact bodyPost_ret (v := .tuple #[.agg #[.int .i64 0, .int .i64 0], .int .i64 1]) (by simp [results, Tryz.results11, go_sem]) rfl ⟨rfl, by repeat (first | exact HK | refine Below.drew ?_ | refine Below.setCell ?_ (by simp <;> omega) _ | refine Below.alloc ?_ (by simp <;> omega) _)⟩
theorem rpart10_any (k a b : Int) (t : Bool) (en f : Int) (ao : Option Addr) (n cap : Nat) (X : Nat → Int) (p q c : Int) (w : World) (hn : n ≤ 100) (hR : RowAt w ao X n cap) (h : CoIs k a b t en f X n p q c) :
    Calls Tryz.prog 11 #[.int .i64 k, .int .i64 a, .int .i64 b, .agg #[.bool t, .int .i64 en, .int .i64 f, .slice ao n cap]] w fun e w' => e = .returned (.tuple #[.agg #[.int .i64 p, .int .i64 q], .int .i64 c]) ∧ Below w.heap.size w w' := by
  rcases h with ⟨rfl, h⟩ | ⟨rfl, h⟩ | ⟨rfl, h⟩ | ⟨rfl, h⟩ | ⟨rfl, h⟩ | ⟨rfl, h⟩ | ⟨rfl, h⟩ | ⟨h, rfl, rfl, rfl⟩
  · exact rpt_0 a b t en f ao n cap X p q c w h
  · exact rpt_1 a b t en f ao n cap X p q c w h
  · exact rpt_2 a b t en f ao n cap X p q c w h
  · exact rpt_3 a b t en f ao n cap X p q c w h
  · exact rpt_4 a b t en f ao n cap X p q c w h
  · exact rpt_5 a b t en f ao n cap X p q c w h
  · exact rpt_6 a b t en f ao n cap X p q c w hn hR h
  · exact rpt_out k a b t en f ao n cap w h
end Go.Proofs.YtkmchbllnfoccaaGreatDoor
