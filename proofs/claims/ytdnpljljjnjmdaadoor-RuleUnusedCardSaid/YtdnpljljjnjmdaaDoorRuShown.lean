/- What is known of the tables while the walks of layer 12 go on (FactsU: to be widened for the landed code); what the four calls answer, as the walks ask it; the document's examples. -/
import Derived.Test.YtdnpljljjnjmdaaDoorRuRefD
namespace Go.Proofs.YtdnpljljjnjmdaaDoor
open Go.RowKit
set_option linter.unusedVariables false
set_option linter.unusedSimpArgs false

/-- What stands in the memory, whatever is made. (A scratch copy's: civil's table alone.) -/
def FactsU (w : World) : Prop := Lens w
theorem FactsU.below {W W' : World} (h : FactsU W) (hb : Below W.heap.size W W') : FactsU W' := Lens.below h hb
def factsUF : Fact := .that FactsU (fun _ _ hb h => h.below hb)
theorem Held.factsU {w W : World} {fs : List Fact} (h : Held w fs W) (hm : factsUF ∈ fs) : FactsU W := h.all _ hm
/-- What the four calls answer. -/
structure RWay : Prop where
  may : ∀ (k m d q o s f t : Int) (b : Bool) (w : World), FactsU w → Ru.mb ⟨k, m, d, q, o, s, f, t⟩ = b → Calls Tryd.prog 11 #[.agg #[.int .i64 k, .int .i64 m, .int .i64 d, .int .i64 q, .int .i64 o, .int .i64 s, .int .i64 f, .int .i64 t]] w fun e w' => e = .returned (.bool b) ∧ Below w.heap.size w w'
  base : ∀ (k m d q o s f t y n : Int) (b : Bool) (w : World), FactsU w → Ru.May ⟨k, m, d, q, o, s, f, t⟩ → Ru.bas ⟨k, m, d, q, o, s, f, t⟩ y = n → decide (0 < n) = b → Calls Tryd.prog 12 #[.agg #[.int .i64 k, .int .i64 m, .int .i64 d, .int .i64 q, .int .i64 o, .int .i64 s, .int .i64 f, .int .i64 t], .int .i64 y] w fun e w' => e = .returned (.tuple #[.int .i64 n, .bool b]) ∧ Below w.heap.size w w'
  inn : ∀ (k m d q o s f t y n : Int) (b : Bool) (w : World), FactsU w → Ru.May ⟨k, m, d, q, o, s, f, t⟩ → Ru.inn ⟨k, m, d, q, o, s, f, t⟩ y = n → decide (0 < n) = b → Calls Tryd.prog 14 #[.agg #[.int .i64 k, .int .i64 m, .int .i64 d, .int .i64 q, .int .i64 o, .int .i64 s, .int .i64 f, .int .i64 t], .int .i64 y] w fun e w' => e = .returned (.tuple #[.int .i64 n, .bool b]) ∧ Below w.heap.size w w'
  is : ∀ (k m d q o s f t n : Int) (b : Bool) (w : World), FactsU w → Ru.May ⟨k, m, d, q, o, s, f, t⟩ → (b = true ↔ Ru.Is ⟨k, m, d, q, o, s, f, t⟩ n) → Calls Tryd.prog 16 #[.agg #[.int .i64 k, .int .i64 m, .int .i64 d, .int .i64 q, .int .i64 o, .int .i64 s, .int .i64 f, .int .i64 t], .int .i64 n] w fun e w' => e = .returned (.bool b) ∧ Below w.heap.size w w'
theorem lday12_is (y m d n : Int) (w : World) (h : nN y m d = n) : Calls Tryd.prog 23 #[.int .i64 y, .int .i64 m, .int .i64 d] w fun e w' => e = .returned (.int .i64 n) ∧ Below w.heap.size w w' := by
  obtain ⟨c, hc⟩ : ∃ c, nE y m d = c := ⟨_, rfl⟩
  have C := Lib.hid (fun v => rnumber_is y m d n c v ⟨h, hc⟩)
  clear h hc
  go_enter Tryd.func23, Tryd.ntmps23
  go_wp2_with fail
  (with_reducible refine (C.out _).mono ?_)
  rintro e w1 ⟨rfl, hb⟩
  go_wp2
  go_ret
  exact ⟨rfl, hb⟩
theorem rday12_is (n : Int) (b : Bool) (w : World) (h : decide (1 ≤ n ∧ n ≤ 3652059) = b) : Calls Tryd.prog 18 #[.int .i64 n] w fun e w' => e = .returned (.bool b) ∧ Below w.heap.size w w' := by
  have HB := Lib.hid h
  clear h
  go_enter Tryd.func18, Tryd.ntmps18
  go_wp2
  all_goals (go_ret; refine ⟨retB ?_, Below.refl _ _⟩; rw [← HB.out]; rw [Bool.eq_iff_iff]; (try simp only [ge_iff_le, Bool.and_eq_true, decide_eq_true_eq, Bool.false_eq_true, false_iff, true_iff]); omega)
theorem rushown_is : (true = true ↔ Ru.Is ⟨0, 1, 1, 0, 0, 1, 1, 9999⟩ 738155) ∧ (false = true ↔ Ru.Is ⟨0, 1, 1, 0, 0, 1, 1, 9999⟩ 738156) := by
  have h1 : Ru.inn ⟨0, 1, 1, 0, 0, 1, 1, 9999⟩ 2022 = 738155 := by decide +kernel
  refine ⟨⟨fun _ => ⟨by decide, ⟨2022, h1⟩⟩, fun _ => rfl⟩, ⟨fun h => absurd h (by decide), fun h => ?_⟩⟩
  obtain ⟨h0, y, hy⟩ := h
  have := is_near (Y := 2022) (M := 1) (D := 1) (by decide +kernel) h0 hy (by unfold may; decide +kernel) (by decide +kernel)
  have c : y = 2021 ∨ y = 2022 ∨ y = 2023 := by omega
  rcases c with rfl | rfl | rfl <;> (revert hy; decide +kernel)

set_option maxHeartbeats 4000000 in
set_option maxRecDepth 100000 in
theorem rushown_any (K : RWay) (w : World) (hL : FactsU w) : Calls Tryd.prog 9 #[] w fun e w' => e = .returned (.bool true) ∧ Below w.heap.size w w' := by
  have H := (Held.start w).add (f := factsUF) hL
  clear hL
  go_enter Tryd.func9, Tryd.ntmps9
  go_wp2_with fail
  replace H := ((H.oct (w.heap.size) (.int .i64 1) (.int .i64 11) (.int .i64 3) (.int .i64 4) (.int .i64 0) (.int .i64 0) (.int .i64 1) (.int .i64 9999) 23 rfl).oct (w.heap.size + 1) (.int .i64 0) (.int .i64 1) (.int .i64 1) (.int .i64 0) (.int .i64 0) (.int .i64 1) (.int .i64 1) (.int .i64 9999) 23 (by simp))
  (with_reducible refine (K.inn 1 11 3 4 0 0 1 9999 2024 739218 true _ (H.factsU (List.Mem.tail _ (List.Mem.tail _ (List.Mem.tail _ (List.Mem.tail _ (List.Mem.tail _ (List.Mem.tail _ (List.Mem.tail _ (List.Mem.tail _ (List.Mem.tail _ (List.Mem.tail _ (List.Mem.tail _ (List.Mem.tail _ (List.Mem.tail _ (List.Mem.tail _ (List.Mem.tail _ (List.Mem.tail _ (List.Mem.tail _ (List.Mem.tail _ (List.Mem.tail _ (List.Mem.tail _ (List.Mem.tail _ (List.Mem.tail _ (List.Mem.tail _ (List.Mem.tail _ (List.Mem.tail _ (List.Mem.tail _ (List.Mem.tail _ (List.Mem.tail _ (List.Mem.tail _ (List.Mem.tail _ (List.Mem.tail _ (List.Mem.tail _ (List.Mem.head _)))))))))))))))))))))))))))))))))) (by decide +kernel) (by decide +kernel) (by decide +kernel)).mono ?_)
  rintro e w1 ⟨rfl, hb⟩
  replace H := H.below hb
  clear hb
  have cb0 := H.cell (w.heap.size + 1) 0 (.int .i64 0) (List.Mem.head _)
  have cb1 := H.cell (w.heap.size + 1) 1 (.int .i64 1) (List.Mem.tail _ (List.Mem.head _))
  have cb2 := H.cell (w.heap.size + 1) 2 (.int .i64 1) (List.Mem.tail _ (List.Mem.tail _ (List.Mem.head _)))
  have cb3 := H.cell (w.heap.size + 1) 3 (.int .i64 0) (List.Mem.tail _ (List.Mem.tail _ (List.Mem.tail _ (List.Mem.head _))))
  have cb4 := H.cell (w.heap.size + 1) 4 (.int .i64 0) (List.Mem.tail _ (List.Mem.tail _ (List.Mem.tail _ (List.Mem.tail _ (List.Mem.head _)))))
  have cb5 := H.cell (w.heap.size + 1) 5 (.int .i64 1) (List.Mem.tail _ (List.Mem.tail _ (List.Mem.tail _ (List.Mem.tail _ (List.Mem.tail _ (List.Mem.head _))))))
  have cb6 := H.cell (w.heap.size + 1) 6 (.int .i64 1) (List.Mem.tail _ (List.Mem.tail _ (List.Mem.tail _ (List.Mem.tail _ (List.Mem.tail _ (List.Mem.tail _ (List.Mem.head _)))))))
  have cb7 := H.cell (w.heap.size + 1) 7 (.int .i64 9999) (List.Mem.tail _ (List.Mem.tail _ (List.Mem.tail _ (List.Mem.tail _ (List.Mem.tail _ (List.Mem.tail _ (List.Mem.tail _ (List.Mem.head _))))))))
  have lb := H.lt (w.heap.size + 1) 0 (.int .i64 0) (List.Mem.head _)
  go_wp2_with fail
  clear cb0 cb1 cb2 cb3 cb4 cb5 cb6 cb7 lb
  (with_reducible refine (K.inn 0 1 1 0 0 1 1 9999 2022 738155 true _ (H.factsU (List.Mem.tail _ (List.Mem.tail _ (List.Mem.tail _ (List.Mem.tail _ (List.Mem.tail _ (List.Mem.tail _ (List.Mem.tail _ (List.Mem.tail _ (List.Mem.tail _ (List.Mem.tail _ (List.Mem.tail _ (List.Mem.tail _ (List.Mem.tail _ (List.Mem.tail _ (List.Mem.tail _ (List.Mem.tail _ (List.Mem.tail _ (List.Mem.tail _ (List.Mem.tail _ (List.Mem.tail _ (List.Mem.tail _ (List.Mem.tail _ (List.Mem.tail _ (List.Mem.tail _ (List.Mem.tail _ (List.Mem.tail _ (List.Mem.tail _ (List.Mem.tail _ (List.Mem.tail _ (List.Mem.tail _ (List.Mem.tail _ (List.Mem.tail _ (List.Mem.head _)))))))))))))))))))))))))))))))))) (by decide +kernel) (by decide +kernel) (by decide +kernel)).mono ?_)
  rintro e w2 ⟨rfl, hb⟩
  replace H := H.below hb
  clear hb
  have cb0 := H.cell (w.heap.size + 1) 0 (.int .i64 0) (List.Mem.head _)
  have cb1 := H.cell (w.heap.size + 1) 1 (.int .i64 1) (List.Mem.tail _ (List.Mem.head _))
  have cb2 := H.cell (w.heap.size + 1) 2 (.int .i64 1) (List.Mem.tail _ (List.Mem.tail _ (List.Mem.head _)))
  have cb3 := H.cell (w.heap.size + 1) 3 (.int .i64 0) (List.Mem.tail _ (List.Mem.tail _ (List.Mem.tail _ (List.Mem.head _))))
  have cb4 := H.cell (w.heap.size + 1) 4 (.int .i64 0) (List.Mem.tail _ (List.Mem.tail _ (List.Mem.tail _ (List.Mem.tail _ (List.Mem.head _)))))
  have cb5 := H.cell (w.heap.size + 1) 5 (.int .i64 1) (List.Mem.tail _ (List.Mem.tail _ (List.Mem.tail _ (List.Mem.tail _ (List.Mem.tail _ (List.Mem.head _))))))
  have cb6 := H.cell (w.heap.size + 1) 6 (.int .i64 1) (List.Mem.tail _ (List.Mem.tail _ (List.Mem.tail _ (List.Mem.tail _ (List.Mem.tail _ (List.Mem.tail _ (List.Mem.head _)))))))
  have cb7 := H.cell (w.heap.size + 1) 7 (.int .i64 9999) (List.Mem.tail _ (List.Mem.tail _ (List.Mem.tail _ (List.Mem.tail _ (List.Mem.tail _ (List.Mem.tail _ (List.Mem.tail _ (List.Mem.head _))))))))
  have lb := H.lt (w.heap.size + 1) 0 (.int .i64 0) (List.Mem.head _)
  go_wp2_with fail
  clear cb0 cb1 cb2 cb3 cb4 cb5 cb6 cb7 lb
  (with_reducible refine (K.base 0 1 1 0 0 1 1 9999 2022 738156 true _ (H.factsU (List.Mem.tail _ (List.Mem.tail _ (List.Mem.tail _ (List.Mem.tail _ (List.Mem.tail _ (List.Mem.tail _ (List.Mem.tail _ (List.Mem.tail _ (List.Mem.tail _ (List.Mem.tail _ (List.Mem.tail _ (List.Mem.tail _ (List.Mem.tail _ (List.Mem.tail _ (List.Mem.tail _ (List.Mem.tail _ (List.Mem.tail _ (List.Mem.tail _ (List.Mem.tail _ (List.Mem.tail _ (List.Mem.tail _ (List.Mem.tail _ (List.Mem.tail _ (List.Mem.tail _ (List.Mem.tail _ (List.Mem.tail _ (List.Mem.tail _ (List.Mem.tail _ (List.Mem.tail _ (List.Mem.tail _ (List.Mem.tail _ (List.Mem.tail _ (List.Mem.head _)))))))))))))))))))))))))))))))))) (by decide +kernel) (by decide +kernel) (by decide +kernel)).mono ?_)
  rintro e w3 ⟨rfl, hb⟩
  replace H := H.below hb
  clear hb
  have cb0 := H.cell (w.heap.size + 1) 0 (.int .i64 0) (List.Mem.head _)
  have cb1 := H.cell (w.heap.size + 1) 1 (.int .i64 1) (List.Mem.tail _ (List.Mem.head _))
  have cb2 := H.cell (w.heap.size + 1) 2 (.int .i64 1) (List.Mem.tail _ (List.Mem.tail _ (List.Mem.head _)))
  have cb3 := H.cell (w.heap.size + 1) 3 (.int .i64 0) (List.Mem.tail _ (List.Mem.tail _ (List.Mem.tail _ (List.Mem.head _))))
  have cb4 := H.cell (w.heap.size + 1) 4 (.int .i64 0) (List.Mem.tail _ (List.Mem.tail _ (List.Mem.tail _ (List.Mem.tail _ (List.Mem.head _)))))
  have cb5 := H.cell (w.heap.size + 1) 5 (.int .i64 1) (List.Mem.tail _ (List.Mem.tail _ (List.Mem.tail _ (List.Mem.tail _ (List.Mem.tail _ (List.Mem.head _))))))
  have cb6 := H.cell (w.heap.size + 1) 6 (.int .i64 1) (List.Mem.tail _ (List.Mem.tail _ (List.Mem.tail _ (List.Mem.tail _ (List.Mem.tail _ (List.Mem.tail _ (List.Mem.head _)))))))
  have cb7 := H.cell (w.heap.size + 1) 7 (.int .i64 9999) (List.Mem.tail _ (List.Mem.tail _ (List.Mem.tail _ (List.Mem.tail _ (List.Mem.tail _ (List.Mem.tail _ (List.Mem.tail _ (List.Mem.head _))))))))
  have lb := H.lt (w.heap.size + 1) 0 (.int .i64 0) (List.Mem.head _)
  go_wp2_with fail
  clear cb0 cb1 cb2 cb3 cb4 cb5 cb6 cb7 lb
  (with_reducible refine (K.base 0 1 1 0 0 1 1 9999 10000 0 false _ (H.factsU (List.Mem.tail _ (List.Mem.tail _ (List.Mem.tail _ (List.Mem.tail _ (List.Mem.tail _ (List.Mem.tail _ (List.Mem.tail _ (List.Mem.tail _ (List.Mem.tail _ (List.Mem.tail _ (List.Mem.tail _ (List.Mem.tail _ (List.Mem.tail _ (List.Mem.tail _ (List.Mem.tail _ (List.Mem.tail _ (List.Mem.tail _ (List.Mem.tail _ (List.Mem.tail _ (List.Mem.tail _ (List.Mem.tail _ (List.Mem.tail _ (List.Mem.tail _ (List.Mem.tail _ (List.Mem.tail _ (List.Mem.tail _ (List.Mem.tail _ (List.Mem.tail _ (List.Mem.tail _ (List.Mem.tail _ (List.Mem.tail _ (List.Mem.tail _ (List.Mem.head _)))))))))))))))))))))))))))))))))) (by decide +kernel) (by decide +kernel) (by decide +kernel)).mono ?_)
  rintro e w4 ⟨rfl, hb⟩
  replace H := H.below hb
  clear hb
  go_wp2_with fail
  (with_reducible refine (lday12_is 2024 11 28 739218 _ (by decide +kernel)).mono ?_)
  rintro e w5 ⟨rfl, hb⟩
  replace H := H.below hb
  clear hb
  go_wp2_with fail
  (with_reducible refine (lday12_is 2021 12 31 738155 _ (by decide +kernel)).mono ?_)
  rintro e w6 ⟨rfl, hb⟩
  replace H := H.below hb
  clear hb
  go_wp2_with fail
  (with_reducible refine (lday12_is 2022 1 1 738156 _ (by decide +kernel)).mono ?_)
  rintro e w7 ⟨rfl, hb⟩
  replace H := H.below hb
  clear hb
  have cb0 := H.cell (w.heap.size + 1) 0 (.int .i64 0) (List.Mem.head _)
  have cb1 := H.cell (w.heap.size + 1) 1 (.int .i64 1) (List.Mem.tail _ (List.Mem.head _))
  have cb2 := H.cell (w.heap.size + 1) 2 (.int .i64 1) (List.Mem.tail _ (List.Mem.tail _ (List.Mem.head _)))
  have cb3 := H.cell (w.heap.size + 1) 3 (.int .i64 0) (List.Mem.tail _ (List.Mem.tail _ (List.Mem.tail _ (List.Mem.head _))))
  have cb4 := H.cell (w.heap.size + 1) 4 (.int .i64 0) (List.Mem.tail _ (List.Mem.tail _ (List.Mem.tail _ (List.Mem.tail _ (List.Mem.head _)))))
  have cb5 := H.cell (w.heap.size + 1) 5 (.int .i64 1) (List.Mem.tail _ (List.Mem.tail _ (List.Mem.tail _ (List.Mem.tail _ (List.Mem.tail _ (List.Mem.head _))))))
  have cb6 := H.cell (w.heap.size + 1) 6 (.int .i64 1) (List.Mem.tail _ (List.Mem.tail _ (List.Mem.tail _ (List.Mem.tail _ (List.Mem.tail _ (List.Mem.tail _ (List.Mem.head _)))))))
  have cb7 := H.cell (w.heap.size + 1) 7 (.int .i64 9999) (List.Mem.tail _ (List.Mem.tail _ (List.Mem.tail _ (List.Mem.tail _ (List.Mem.tail _ (List.Mem.tail _ (List.Mem.tail _ (List.Mem.head _))))))))
  have lb := H.lt (w.heap.size + 1) 0 (.int .i64 0) (List.Mem.head _)
  go_wp2_with fail
  clear cb0 cb1 cb2 cb3 cb4 cb5 cb6 cb7 lb
  (with_reducible refine (K.is 0 1 1 0 0 1 1 9999 738155 true _ (H.factsU (List.Mem.tail _ (List.Mem.tail _ (List.Mem.tail _ (List.Mem.tail _ (List.Mem.tail _ (List.Mem.tail _ (List.Mem.tail _ (List.Mem.tail _ (List.Mem.tail _ (List.Mem.tail _ (List.Mem.tail _ (List.Mem.tail _ (List.Mem.tail _ (List.Mem.tail _ (List.Mem.tail _ (List.Mem.tail _ (List.Mem.tail _ (List.Mem.tail _ (List.Mem.tail _ (List.Mem.tail _ (List.Mem.tail _ (List.Mem.tail _ (List.Mem.tail _ (List.Mem.tail _ (List.Mem.tail _ (List.Mem.tail _ (List.Mem.tail _ (List.Mem.tail _ (List.Mem.tail _ (List.Mem.tail _ (List.Mem.tail _ (List.Mem.tail _ (List.Mem.head _)))))))))))))))))))))))))))))))))) (by decide +kernel) rushown_is.1).mono ?_)
  rintro e w8 ⟨rfl, hb⟩
  replace H := H.below hb
  clear hb
  have cb0 := H.cell (w.heap.size + 1) 0 (.int .i64 0) (List.Mem.head _)
  have cb1 := H.cell (w.heap.size + 1) 1 (.int .i64 1) (List.Mem.tail _ (List.Mem.head _))
  have cb2 := H.cell (w.heap.size + 1) 2 (.int .i64 1) (List.Mem.tail _ (List.Mem.tail _ (List.Mem.head _)))
  have cb3 := H.cell (w.heap.size + 1) 3 (.int .i64 0) (List.Mem.tail _ (List.Mem.tail _ (List.Mem.tail _ (List.Mem.head _))))
  have cb4 := H.cell (w.heap.size + 1) 4 (.int .i64 0) (List.Mem.tail _ (List.Mem.tail _ (List.Mem.tail _ (List.Mem.tail _ (List.Mem.head _)))))
  have cb5 := H.cell (w.heap.size + 1) 5 (.int .i64 1) (List.Mem.tail _ (List.Mem.tail _ (List.Mem.tail _ (List.Mem.tail _ (List.Mem.tail _ (List.Mem.head _))))))
  have cb6 := H.cell (w.heap.size + 1) 6 (.int .i64 1) (List.Mem.tail _ (List.Mem.tail _ (List.Mem.tail _ (List.Mem.tail _ (List.Mem.tail _ (List.Mem.tail _ (List.Mem.head _)))))))
  have cb7 := H.cell (w.heap.size + 1) 7 (.int .i64 9999) (List.Mem.tail _ (List.Mem.tail _ (List.Mem.tail _ (List.Mem.tail _ (List.Mem.tail _ (List.Mem.tail _ (List.Mem.tail _ (List.Mem.head _))))))))
  have lb := H.lt (w.heap.size + 1) 0 (.int .i64 0) (List.Mem.head _)
  go_wp2_with fail
  clear cb0 cb1 cb2 cb3 cb4 cb5 cb6 cb7 lb
  (with_reducible refine (K.is 0 1 1 0 0 1 1 9999 738156 false _ (H.factsU (List.Mem.tail _ (List.Mem.tail _ (List.Mem.tail _ (List.Mem.tail _ (List.Mem.tail _ (List.Mem.tail _ (List.Mem.tail _ (List.Mem.tail _ (List.Mem.tail _ (List.Mem.tail _ (List.Mem.tail _ (List.Mem.tail _ (List.Mem.tail _ (List.Mem.tail _ (List.Mem.tail _ (List.Mem.tail _ (List.Mem.tail _ (List.Mem.tail _ (List.Mem.tail _ (List.Mem.tail _ (List.Mem.tail _ (List.Mem.tail _ (List.Mem.tail _ (List.Mem.tail _ (List.Mem.tail _ (List.Mem.tail _ (List.Mem.tail _ (List.Mem.tail _ (List.Mem.tail _ (List.Mem.tail _ (List.Mem.tail _ (List.Mem.tail _ (List.Mem.head _)))))))))))))))))))))))))))))))))) (by decide +kernel) rushown_is.2).mono ?_)
  rintro e w9 ⟨rfl, hb⟩
  replace H := H.below hb
  clear hb
  have ca0 := H.cell (w.heap.size) 0 (.int .i64 1) (List.Mem.tail _ (List.Mem.tail _ (List.Mem.tail _ (List.Mem.tail _ (List.Mem.tail _ (List.Mem.tail _ (List.Mem.tail _ (List.Mem.tail _ (List.Mem.tail _ (List.Mem.tail _ (List.Mem.tail _ (List.Mem.tail _ (List.Mem.tail _ (List.Mem.tail _ (List.Mem.tail _ (List.Mem.tail _ (List.Mem.head _)))))))))))))))))
  have ca1 := H.cell (w.heap.size) 1 (.int .i64 11) (List.Mem.tail _ (List.Mem.tail _ (List.Mem.tail _ (List.Mem.tail _ (List.Mem.tail _ (List.Mem.tail _ (List.Mem.tail _ (List.Mem.tail _ (List.Mem.tail _ (List.Mem.tail _ (List.Mem.tail _ (List.Mem.tail _ (List.Mem.tail _ (List.Mem.tail _ (List.Mem.tail _ (List.Mem.tail _ (List.Mem.tail _ (List.Mem.head _))))))))))))))))))
  have ca2 := H.cell (w.heap.size) 2 (.int .i64 3) (List.Mem.tail _ (List.Mem.tail _ (List.Mem.tail _ (List.Mem.tail _ (List.Mem.tail _ (List.Mem.tail _ (List.Mem.tail _ (List.Mem.tail _ (List.Mem.tail _ (List.Mem.tail _ (List.Mem.tail _ (List.Mem.tail _ (List.Mem.tail _ (List.Mem.tail _ (List.Mem.tail _ (List.Mem.tail _ (List.Mem.tail _ (List.Mem.tail _ (List.Mem.head _)))))))))))))))))))
  have ca3 := H.cell (w.heap.size) 3 (.int .i64 4) (List.Mem.tail _ (List.Mem.tail _ (List.Mem.tail _ (List.Mem.tail _ (List.Mem.tail _ (List.Mem.tail _ (List.Mem.tail _ (List.Mem.tail _ (List.Mem.tail _ (List.Mem.tail _ (List.Mem.tail _ (List.Mem.tail _ (List.Mem.tail _ (List.Mem.tail _ (List.Mem.tail _ (List.Mem.tail _ (List.Mem.tail _ (List.Mem.tail _ (List.Mem.tail _ (List.Mem.head _))))))))))))))))))))
  have ca4 := H.cell (w.heap.size) 4 (.int .i64 0) (List.Mem.tail _ (List.Mem.tail _ (List.Mem.tail _ (List.Mem.tail _ (List.Mem.tail _ (List.Mem.tail _ (List.Mem.tail _ (List.Mem.tail _ (List.Mem.tail _ (List.Mem.tail _ (List.Mem.tail _ (List.Mem.tail _ (List.Mem.tail _ (List.Mem.tail _ (List.Mem.tail _ (List.Mem.tail _ (List.Mem.tail _ (List.Mem.tail _ (List.Mem.tail _ (List.Mem.tail _ (List.Mem.head _)))))))))))))))))))))
  have ca5 := H.cell (w.heap.size) 5 (.int .i64 0) (List.Mem.tail _ (List.Mem.tail _ (List.Mem.tail _ (List.Mem.tail _ (List.Mem.tail _ (List.Mem.tail _ (List.Mem.tail _ (List.Mem.tail _ (List.Mem.tail _ (List.Mem.tail _ (List.Mem.tail _ (List.Mem.tail _ (List.Mem.tail _ (List.Mem.tail _ (List.Mem.tail _ (List.Mem.tail _ (List.Mem.tail _ (List.Mem.tail _ (List.Mem.tail _ (List.Mem.tail _ (List.Mem.tail _ (List.Mem.head _))))))))))))))))))))))
  have ca6 := H.cell (w.heap.size) 6 (.int .i64 1) (List.Mem.tail _ (List.Mem.tail _ (List.Mem.tail _ (List.Mem.tail _ (List.Mem.tail _ (List.Mem.tail _ (List.Mem.tail _ (List.Mem.tail _ (List.Mem.tail _ (List.Mem.tail _ (List.Mem.tail _ (List.Mem.tail _ (List.Mem.tail _ (List.Mem.tail _ (List.Mem.tail _ (List.Mem.tail _ (List.Mem.tail _ (List.Mem.tail _ (List.Mem.tail _ (List.Mem.tail _ (List.Mem.tail _ (List.Mem.tail _ (List.Mem.head _)))))))))))))))))))))))
  have ca7 := H.cell (w.heap.size) 7 (.int .i64 9999) (List.Mem.tail _ (List.Mem.tail _ (List.Mem.tail _ (List.Mem.tail _ (List.Mem.tail _ (List.Mem.tail _ (List.Mem.tail _ (List.Mem.tail _ (List.Mem.tail _ (List.Mem.tail _ (List.Mem.tail _ (List.Mem.tail _ (List.Mem.tail _ (List.Mem.tail _ (List.Mem.tail _ (List.Mem.tail _ (List.Mem.tail _ (List.Mem.tail _ (List.Mem.tail _ (List.Mem.tail _ (List.Mem.tail _ (List.Mem.tail _ (List.Mem.tail _ (List.Mem.head _))))))))))))))))))))))))
  have la := H.lt (w.heap.size) 0 (.int .i64 1) (List.Mem.tail _ (List.Mem.tail _ (List.Mem.tail _ (List.Mem.tail _ (List.Mem.tail _ (List.Mem.tail _ (List.Mem.tail _ (List.Mem.tail _ (List.Mem.tail _ (List.Mem.tail _ (List.Mem.tail _ (List.Mem.tail _ (List.Mem.tail _ (List.Mem.tail _ (List.Mem.tail _ (List.Mem.tail _ (List.Mem.head _)))))))))))))))))
  go_wp2_with fail
  clear ca0 ca1 ca2 ca3 ca4 ca5 ca6 ca7 la
  (with_reducible refine (K.may 1 11 3 4 0 0 1 9999 true _ (H.factsU (List.Mem.tail _ (List.Mem.tail _ (List.Mem.tail _ (List.Mem.tail _ (List.Mem.tail _ (List.Mem.tail _ (List.Mem.tail _ (List.Mem.tail _ (List.Mem.tail _ (List.Mem.tail _ (List.Mem.tail _ (List.Mem.tail _ (List.Mem.tail _ (List.Mem.tail _ (List.Mem.tail _ (List.Mem.tail _ (List.Mem.tail _ (List.Mem.tail _ (List.Mem.tail _ (List.Mem.tail _ (List.Mem.tail _ (List.Mem.tail _ (List.Mem.tail _ (List.Mem.tail _ (List.Mem.tail _ (List.Mem.tail _ (List.Mem.tail _ (List.Mem.tail _ (List.Mem.tail _ (List.Mem.tail _ (List.Mem.tail _ (List.Mem.tail _ (List.Mem.head _)))))))))))))))))))))))))))))))))) (by decide +kernel)).mono ?_)
  rintro e w10 ⟨rfl, hb⟩
  replace H := H.below hb
  clear hb
  go_wp2_with fail
  (with_reducible refine (K.may 0 0 0 0 0 0 0 0 false _ (H.factsU (List.Mem.tail _ (List.Mem.tail _ (List.Mem.tail _ (List.Mem.tail _ (List.Mem.tail _ (List.Mem.tail _ (List.Mem.tail _ (List.Mem.tail _ (List.Mem.tail _ (List.Mem.tail _ (List.Mem.tail _ (List.Mem.tail _ (List.Mem.tail _ (List.Mem.tail _ (List.Mem.tail _ (List.Mem.tail _ (List.Mem.tail _ (List.Mem.tail _ (List.Mem.tail _ (List.Mem.tail _ (List.Mem.tail _ (List.Mem.tail _ (List.Mem.tail _ (List.Mem.tail _ (List.Mem.tail _ (List.Mem.tail _ (List.Mem.tail _ (List.Mem.tail _ (List.Mem.tail _ (List.Mem.tail _ (List.Mem.tail _ (List.Mem.tail _ (List.Mem.head _)))))))))))))))))))))))))))))))))) (by decide +kernel)).mono ?_)
  rintro e w11 ⟨rfl, hb⟩
  replace H := H.below hb
  clear hb
  go_wp2_with fail
  go_ret
  exact ⟨rfl, H.old⟩
end Go.Proofs.YtdnpljljjnjmdaaDoor
