/- What the arguments of layer 12's statements are, and what the listed table holds. -/
import Derived.Test.YtdnpljljjnjmdaaDoorCBase
import Derived.Test.YtdnpljljjnjmdaaDoorRows
import Derived.Test.YtdnpljljjnjmdaaDoorTie
import Derived.Test.YtdnpljljjnjmdaaDoorCards
import Derived.ProofKit
import Derived.ChangeMaps5
import Derived.OpenShut
import Derived.ChangeOld
import Derived.Below
import Derived.LaidMore
import Derived.LaidOnce
import Derived.Stop.Joined
import Derived.MakeChecks
import Derived.SevenTiedAt
namespace Go.Proofs.YtdnpljljjnjmdaaDoor
open Go.ChangeShapes Go.WideShapes Go.ChangeAt Go.RowKit
set_option linter.unusedVariables false
set_option maxRecDepth 100000

theorem own : ownKnob Tryd.prog.godebug = none := by kernel_rfl
theorem laidOut : laidOutB Tryd.prog = true := by kernel_rfl

theorem i64_bd {n : Int} (h : (Lit.int .i64 n).wf = true) : -9223372036854775808 ≤ n ∧ n < 9223372036854775808 := by
  have hmin : IntKind.i64.min = -9223372036854775808 := rfl
  have hmax : IntKind.i64.max = 9223372036854775807 := rfl
  simp only [Lit.wf, Bool.and_eq_true, decide_eq_true_eq] at h
  omega
theorem cells3 : Tryd.prog.cellsOf 3 = 1 := by kernel_rfl
theorem u16_bd {n : Int} (h : (Lit.int .u16 n).wf = true) : 0 ≤ n ∧ n < 65536 := by
  have hmin : IntKind.u16.min = 0 := rfl
  have hmax : IntKind.u16.max = 65535 := rfl
  simp only [Lit.wf, Bool.and_eq_true, decide_eq_true_eq] at h
  omega
theorem cells37 : Tryd.prog.cellsOf 37 = 1 := by kernel_rfl

section
variable {H : Type} {enc : TypeId × Value → H} {w : World} {base : Nat} {spare : Nat → Bool} {held : Bool} {fuel : Nat} {cs : List Value} {x : DataW H × List MemPlace}
theorem cell_i64 {t : TypeId} (ht : Tryd.prog.underlying t = some (.int .i64)) (h : DataW.trod enc Tryd.prog w base spare held fuel t cs = some x) : ∃ n, cs = [.int .i64 n] ∧ -9223372036854775808 ≤ n ∧ n < 9223372036854775808 := by
  obtain ⟨n, hc, _, hw⟩ := DataW.trod_int ht h
  exact ⟨n, hc, i64_bd hw⟩
theorem cell_u16 {t : TypeId} (ht : Tryd.prog.underlying t = some (.int .u16)) (h : DataW.trod enc Tryd.prog w base spare held fuel t cs = some x) : ∃ n, cs = [.int .u16 n] ∧ 0 ≤ n ∧ n < 65536 := by
  obtain ⟨n, hc, _, hw⟩ := DataW.trod_int ht h
  exact ⟨n, hc, u16_bd hw⟩
theorem cells23 : Tryd.prog.cellsOf 23 = 8 := by kernel_rfl
theorem cells_rule (h : DataW.trod enc Tryd.prog w base spare held fuel 23 cs = some x) :
    ∃ x0 x1 x2 x3 x4 x5 x6 x7, cs = [.int .i64 x0, .int .i64 x1, .int .i64 x2, .int .i64 x3, .int .i64 x4, .int .i64 x5, .int .i64 x6, .int .i64 x7] ∧ (-9223372036854775808 ≤ x0 ∧ x0 < 9223372036854775808) ∧ (-9223372036854775808 ≤ x1 ∧ x1 < 9223372036854775808) ∧ (-9223372036854775808 ≤ x2 ∧ x2 < 9223372036854775808) ∧ (-9223372036854775808 ≤ x3 ∧ x3 < 9223372036854775808) ∧ (-9223372036854775808 ≤ x4 ∧ x4 < 9223372036854775808) ∧ (-9223372036854775808 ≤ x5 ∧ x5 < 9223372036854775808) ∧ (-9223372036854775808 ≤ x6 ∧ x6 < 9223372036854775808) ∧ (-9223372036854775808 ≤ x7 ∧ x7 < 9223372036854775808) := by
  obtain ⟨xs, k, _, _, hl, hx, hf⟩ := DataW.trod_struct Tryd.underlying23 h
  rw [cells23] at hl
  have f0 := hf 0 _ rfl
  have f1 := hf 1 _ rfl
  have f2 := hf 2 _ rfl
  have f3 := hf 3 _ rfl
  have f4 := hf 4 _ rfl
  have f5 := hf 5 _ rfl
  have f6 := hf 6 _ rfl
  have f7 := hf 7 _ rfl
  clear hf h
  match cs, hl with
  | [c0, c1, c2, c3, c4, c5, c6, c7], _ =>
    have hx2 : xs.length = 8 := hx
    match xs, hx2 with
    | [y0, y1, y2, y3, y4, y5, y6, y7], _ =>
      change DataW.trod enc Tryd.prog w base spare held k 3 (([c0, c1, c2, c3, c4, c5, c6, c7].drop 0).take (Tryd.prog.cellsOf 3)) = some y0 at f0
      rw [cells3] at f0
      change DataW.trod enc Tryd.prog w base spare held k 3 (([c0, c1, c2, c3, c4, c5, c6, c7].drop 1).take (Tryd.prog.cellsOf 3)) = some y1 at f1
      rw [cells3] at f1
      change DataW.trod enc Tryd.prog w base spare held k 3 (([c0, c1, c2, c3, c4, c5, c6, c7].drop 2).take (Tryd.prog.cellsOf 3)) = some y2 at f2
      rw [cells3] at f2
      change DataW.trod enc Tryd.prog w base spare held k 3 (([c0, c1, c2, c3, c4, c5, c6, c7].drop 3).take (Tryd.prog.cellsOf 3)) = some y3 at f3
      rw [cells3] at f3
      change DataW.trod enc Tryd.prog w base spare held k 3 (([c0, c1, c2, c3, c4, c5, c6, c7].drop 4).take (Tryd.prog.cellsOf 3)) = some y4 at f4
      rw [cells3] at f4
      change DataW.trod enc Tryd.prog w base spare held k 3 (([c0, c1, c2, c3, c4, c5, c6, c7].drop 5).take (Tryd.prog.cellsOf 3)) = some y5 at f5
      rw [cells3] at f5
      change DataW.trod enc Tryd.prog w base spare held k 3 (([c0, c1, c2, c3, c4, c5, c6, c7].drop 6).take (Tryd.prog.cellsOf 3)) = some y6 at f6
      rw [cells3] at f6
      change DataW.trod enc Tryd.prog w base spare held k 3 (([c0, c1, c2, c3, c4, c5, c6, c7].drop 7).take (Tryd.prog.cellsOf 3)) = some y7 at f7
      rw [cells3] at f7
      obtain ⟨x0, e0, g0⟩ := cell_i64 Tryd.underlying3 f0
      obtain ⟨x1, e1, g1⟩ := cell_i64 Tryd.underlying3 f1
      obtain ⟨x2, e2, g2⟩ := cell_i64 Tryd.underlying3 f2
      obtain ⟨x3, e3, g3⟩ := cell_i64 Tryd.underlying3 f3
      obtain ⟨x4, e4, g4⟩ := cell_i64 Tryd.underlying3 f4
      obtain ⟨x5, e5, g5⟩ := cell_i64 Tryd.underlying3 f5
      obtain ⟨x6, e6, g6⟩ := cell_i64 Tryd.underlying3 f6
      obtain ⟨x7, e7, g7⟩ := cell_i64 Tryd.underlying3 f7
      simp at e0 e1 e2 e3 e4 e5 e6 e7
      subst e0
      subst e1
      subst e2
      subst e3
      subst e4
      subst e5
      subst e6
      subst e7
      exact ⟨x0, x1, x2, x3, x4, x5, x6, x7, rfl, g0, g1, g2, g3, g4, g5, g6, g7⟩
theorem cells40 : Tryd.prog.cellsOf 40 = 14 := by kernel_rfl
theorem cells_unused (h : DataW.trod enc Tryd.prog w base spare held fuel 40 cs = some x) :
    ∃ x0_0 x0_1 x0_2 x0_3 x0_4 x0_5 x0_6 x0_7 x1 x2 x3 x4 x5 x6, cs = [.int .i64 x0_0, .int .i64 x0_1, .int .i64 x0_2, .int .i64 x0_3, .int .i64 x0_4, .int .i64 x0_5, .int .i64 x0_6, .int .i64 x0_7, .int .i64 x1, .int .i64 x2, .int .i64 x3, .int .i64 x4, .int .i64 x5, .int .i64 x6] ∧ (-9223372036854775808 ≤ x0_0 ∧ x0_0 < 9223372036854775808) ∧ (-9223372036854775808 ≤ x0_1 ∧ x0_1 < 9223372036854775808) ∧ (-9223372036854775808 ≤ x0_2 ∧ x0_2 < 9223372036854775808) ∧ (-9223372036854775808 ≤ x0_3 ∧ x0_3 < 9223372036854775808) ∧ (-9223372036854775808 ≤ x0_4 ∧ x0_4 < 9223372036854775808) ∧ (-9223372036854775808 ≤ x0_5 ∧ x0_5 < 9223372036854775808) ∧ (-9223372036854775808 ≤ x0_6 ∧ x0_6 < 9223372036854775808) ∧ (-9223372036854775808 ≤ x0_7 ∧ x0_7 < 9223372036854775808) ∧ (-9223372036854775808 ≤ x1 ∧ x1 < 9223372036854775808) ∧ (-9223372036854775808 ≤ x2 ∧ x2 < 9223372036854775808) ∧ (-9223372036854775808 ≤ x3 ∧ x3 < 9223372036854775808) ∧ (-9223372036854775808 ≤ x4 ∧ x4 < 9223372036854775808) ∧ (-9223372036854775808 ≤ x5 ∧ x5 < 9223372036854775808) ∧ (-9223372036854775808 ≤ x6 ∧ x6 < 9223372036854775808) := by
  obtain ⟨xs, k, _, _, hl, hx, hf⟩ := DataW.trod_struct Tryd.underlying40 h
  rw [cells40] at hl
  have f0 := hf 0 _ rfl
  have f1 := hf 1 _ rfl
  have f2 := hf 2 _ rfl
  have f3 := hf 3 _ rfl
  have f4 := hf 4 _ rfl
  have f5 := hf 5 _ rfl
  have f6 := hf 6 _ rfl
  clear hf h
  match cs, hl with
  | [c0, c1, c2, c3, c4, c5, c6, c7, c8, c9, c10, c11, c12, c13], _ =>
    have hx2 : xs.length = 7 := hx
    match xs, hx2 with
    | [y0, y1, y2, y3, y4, y5, y6], _ =>
      change DataW.trod enc Tryd.prog w base spare held k 23 (([c0, c1, c2, c3, c4, c5, c6, c7, c8, c9, c10, c11, c12, c13].drop 0).take (Tryd.prog.cellsOf 23)) = some y0 at f0
      rw [cells23] at f0
      change DataW.trod enc Tryd.prog w base spare held k 3 (([c0, c1, c2, c3, c4, c5, c6, c7, c8, c9, c10, c11, c12, c13].drop 8).take (Tryd.prog.cellsOf 3)) = some y1 at f1
      rw [cells3] at f1
      change DataW.trod enc Tryd.prog w base spare held k 3 (([c0, c1, c2, c3, c4, c5, c6, c7, c8, c9, c10, c11, c12, c13].drop 9).take (Tryd.prog.cellsOf 3)) = some y2 at f2
      rw [cells3] at f2
      change DataW.trod enc Tryd.prog w base spare held k 3 (([c0, c1, c2, c3, c4, c5, c6, c7, c8, c9, c10, c11, c12, c13].drop 10).take (Tryd.prog.cellsOf 3)) = some y3 at f3
      rw [cells3] at f3
      change DataW.trod enc Tryd.prog w base spare held k 3 (([c0, c1, c2, c3, c4, c5, c6, c7, c8, c9, c10, c11, c12, c13].drop 11).take (Tryd.prog.cellsOf 3)) = some y4 at f4
      rw [cells3] at f4
      change DataW.trod enc Tryd.prog w base spare held k 3 (([c0, c1, c2, c3, c4, c5, c6, c7, c8, c9, c10, c11, c12, c13].drop 12).take (Tryd.prog.cellsOf 3)) = some y5 at f5
      rw [cells3] at f5
      change DataW.trod enc Tryd.prog w base spare held k 3 (([c0, c1, c2, c3, c4, c5, c6, c7, c8, c9, c10, c11, c12, c13].drop 13).take (Tryd.prog.cellsOf 3)) = some y6 at f6
      rw [cells3] at f6
      obtain ⟨x0_0, x0_1, x0_2, x0_3, x0_4, x0_5, x0_6, x0_7, e0, g0_0, g0_1, g0_2, g0_3, g0_4, g0_5, g0_6, g0_7⟩ := cells_rule f0
      obtain ⟨x1, e1, g1⟩ := cell_i64 Tryd.underlying3 f1
      obtain ⟨x2, e2, g2⟩ := cell_i64 Tryd.underlying3 f2
      obtain ⟨x3, e3, g3⟩ := cell_i64 Tryd.underlying3 f3
      obtain ⟨x4, e4, g4⟩ := cell_i64 Tryd.underlying3 f4
      obtain ⟨x5, e5, g5⟩ := cell_i64 Tryd.underlying3 f5
      obtain ⟨x6, e6, g6⟩ := cell_i64 Tryd.underlying3 f6
      simp at e0 e1 e2 e3 e4 e5 e6
      obtain ⟨rfl, rfl, rfl, rfl, rfl, rfl, rfl, rfl⟩ := e0
      subst e1
      subst e2
      subst e3
      subst e4
      subst e5
      subst e6
      exact ⟨x0_0, x0_1, x0_2, x0_3, x0_4, x0_5, x0_6, x0_7, x1, x2, x3, x4, x5, x6, rfl, g0_0, g0_1, g0_2, g0_3, g0_4, g0_5, g0_6, g0_7, g1, g2, g3, g4, g5, g6⟩
theorem cells43 : Tryd.prog.cellsOf 43 = 11 := by kernel_rfl
theorem cells_years (h : DataW.trod enc Tryd.prog w base spare held fuel 43 cs = some x) :
    ∃ x0_0 x0_1 x0_2 x0_3 x0_4 x0_5 x0_6 x0_7 x1 x2 x3, cs = [.int .i64 x0_0, .int .i64 x0_1, .int .i64 x0_2, .int .i64 x0_3, .int .i64 x0_4, .int .i64 x0_5, .int .i64 x0_6, .int .i64 x0_7, .int .i64 x1, .int .i64 x2, .int .i64 x3] ∧ (-9223372036854775808 ≤ x0_0 ∧ x0_0 < 9223372036854775808) ∧ (-9223372036854775808 ≤ x0_1 ∧ x0_1 < 9223372036854775808) ∧ (-9223372036854775808 ≤ x0_2 ∧ x0_2 < 9223372036854775808) ∧ (-9223372036854775808 ≤ x0_3 ∧ x0_3 < 9223372036854775808) ∧ (-9223372036854775808 ≤ x0_4 ∧ x0_4 < 9223372036854775808) ∧ (-9223372036854775808 ≤ x0_5 ∧ x0_5 < 9223372036854775808) ∧ (-9223372036854775808 ≤ x0_6 ∧ x0_6 < 9223372036854775808) ∧ (-9223372036854775808 ≤ x0_7 ∧ x0_7 < 9223372036854775808) ∧ (-9223372036854775808 ≤ x1 ∧ x1 < 9223372036854775808) ∧ (-9223372036854775808 ≤ x2 ∧ x2 < 9223372036854775808) ∧ (-9223372036854775808 ≤ x3 ∧ x3 < 9223372036854775808) := by
  obtain ⟨xs, k, _, _, hl, hx, hf⟩ := DataW.trod_struct Tryd.underlying43 h
  rw [cells43] at hl
  have f0 := hf 0 _ rfl
  have f1 := hf 1 _ rfl
  have f2 := hf 2 _ rfl
  have f3 := hf 3 _ rfl
  clear hf h
  match cs, hl with
  | [c0, c1, c2, c3, c4, c5, c6, c7, c8, c9, c10], _ =>
    have hx2 : xs.length = 4 := hx
    match xs, hx2 with
    | [y0, y1, y2, y3], _ =>
      change DataW.trod enc Tryd.prog w base spare held k 23 (([c0, c1, c2, c3, c4, c5, c6, c7, c8, c9, c10].drop 0).take (Tryd.prog.cellsOf 23)) = some y0 at f0
      rw [cells23] at f0
      change DataW.trod enc Tryd.prog w base spare held k 3 (([c0, c1, c2, c3, c4, c5, c6, c7, c8, c9, c10].drop 8).take (Tryd.prog.cellsOf 3)) = some y1 at f1
      rw [cells3] at f1
      change DataW.trod enc Tryd.prog w base spare held k 3 (([c0, c1, c2, c3, c4, c5, c6, c7, c8, c9, c10].drop 9).take (Tryd.prog.cellsOf 3)) = some y2 at f2
      rw [cells3] at f2
      change DataW.trod enc Tryd.prog w base spare held k 3 (([c0, c1, c2, c3, c4, c5, c6, c7, c8, c9, c10].drop 10).take (Tryd.prog.cellsOf 3)) = some y3 at f3
      rw [cells3] at f3
      obtain ⟨x0_0, x0_1, x0_2, x0_3, x0_4, x0_5, x0_6, x0_7, e0, g0_0, g0_1, g0_2, g0_3, g0_4, g0_5, g0_6, g0_7⟩ := cells_rule f0
      obtain ⟨x1, e1, g1⟩ := cell_i64 Tryd.underlying3 f1
      obtain ⟨x2, e2, g2⟩ := cell_i64 Tryd.underlying3 f2
      obtain ⟨x3, e3, g3⟩ := cell_i64 Tryd.underlying3 f3
      simp at e0 e1 e2 e3
      obtain ⟨rfl, rfl, rfl, rfl, rfl, rfl, rfl, rfl⟩ := e0
      subst e1
      subst e2
      subst e3
      exact ⟨x0_0, x0_1, x0_2, x0_3, x0_4, x0_5, x0_6, x0_7, x1, x2, x3, rfl, g0_0, g0_1, g0_2, g0_3, g0_4, g0_5, g0_6, g0_7, g1, g2, g3⟩
end

section
variable {H : Type} {enc : TypeId × Value → H} {w : World} {base : Nat} {spare : Nat → Bool} {held : Bool} {r : Reach} {b0 : Nat} {v : Value} {d : DataW H} {p : List MemPlace}
theorem open_i64 (hv : Value.okWide Tryd.prog w r b0 3 v) (h : DataW.Trod enc Tryd.prog w base spare held 3 v d p) : ∃ a, v = .int .i64 a ∧ -9223372036854775808 ≤ a ∧ a < 9223372036854775808 := by
  obtain ⟨a, rfl, _, _, wa⟩ := open_int Tryd.underlying3 hv h
  exact ⟨a, rfl, i64_bd wa⟩
theorem open_u16 (hv : Value.okWide Tryd.prog w r b0 37 v) (h : DataW.Trod enc Tryd.prog w base spare held 37 v d p) : ∃ a, v = .int .u16 a ∧ 0 ≤ a ∧ a < 65536 := by
  obtain ⟨a, rfl, _, _, wa⟩ := open_int Tryd.underlying37 hv h
  exact ⟨a, rfl, u16_bd wa⟩
theorem open_rule (hv : Value.okWide Tryd.prog w r b0 23 v) (h : DataW.Trod enc Tryd.prog w base spare held 23 v d p) :
    ∃ x0 x1 x2 x3 x4 x5 x6 x7, v = .agg #[.int .i64 x0, .int .i64 x1, .int .i64 x2, .int .i64 x3, .int .i64 x4, .int .i64 x5, .int .i64 x6, .int .i64 x7] ∧ (-9223372036854775808 ≤ x0 ∧ x0 < 9223372036854775808) ∧ (-9223372036854775808 ≤ x1 ∧ x1 < 9223372036854775808) ∧ (-9223372036854775808 ≤ x2 ∧ x2 < 9223372036854775808) ∧ (-9223372036854775808 ≤ x3 ∧ x3 < 9223372036854775808) ∧ (-9223372036854775808 ≤ x4 ∧ x4 < 9223372036854775808) ∧ (-9223372036854775808 ≤ x5 ∧ x5 < 9223372036854775808) ∧ (-9223372036854775808 ≤ x6 ∧ x6 < 9223372036854775808) ∧ (-9223372036854775808 ≤ x7 ∧ x7 < 9223372036854775808) := by
  obtain ⟨cs, rfl, _⟩ := okWide_struct Tryd.underlying23 hv
  obtain ⟨fuel, hf⟩ := h
  obtain ⟨x0, x1, x2, x3, x4, x5, x6, x7, hc, hb⟩ := cells_rule hf
  refine ⟨x0, x1, x2, x3, x4, x5, x6, x7, ?_, hb⟩
  simp [Value.cells] at hc
  obtain ⟨l⟩ := cs
  simp at hc
  rw [hc]
theorem open_unused (hv : Value.okWide Tryd.prog w r b0 40 v) (h : DataW.Trod enc Tryd.prog w base spare held 40 v d p) :
    ∃ x0_0 x0_1 x0_2 x0_3 x0_4 x0_5 x0_6 x0_7 x1 x2 x3 x4 x5 x6, v = .agg #[.int .i64 x0_0, .int .i64 x0_1, .int .i64 x0_2, .int .i64 x0_3, .int .i64 x0_4, .int .i64 x0_5, .int .i64 x0_6, .int .i64 x0_7, .int .i64 x1, .int .i64 x2, .int .i64 x3, .int .i64 x4, .int .i64 x5, .int .i64 x6] ∧ (-9223372036854775808 ≤ x0_0 ∧ x0_0 < 9223372036854775808) ∧ (-9223372036854775808 ≤ x0_1 ∧ x0_1 < 9223372036854775808) ∧ (-9223372036854775808 ≤ x0_2 ∧ x0_2 < 9223372036854775808) ∧ (-9223372036854775808 ≤ x0_3 ∧ x0_3 < 9223372036854775808) ∧ (-9223372036854775808 ≤ x0_4 ∧ x0_4 < 9223372036854775808) ∧ (-9223372036854775808 ≤ x0_5 ∧ x0_5 < 9223372036854775808) ∧ (-9223372036854775808 ≤ x0_6 ∧ x0_6 < 9223372036854775808) ∧ (-9223372036854775808 ≤ x0_7 ∧ x0_7 < 9223372036854775808) ∧ (-9223372036854775808 ≤ x1 ∧ x1 < 9223372036854775808) ∧ (-9223372036854775808 ≤ x2 ∧ x2 < 9223372036854775808) ∧ (-9223372036854775808 ≤ x3 ∧ x3 < 9223372036854775808) ∧ (-9223372036854775808 ≤ x4 ∧ x4 < 9223372036854775808) ∧ (-9223372036854775808 ≤ x5 ∧ x5 < 9223372036854775808) ∧ (-9223372036854775808 ≤ x6 ∧ x6 < 9223372036854775808) := by
  obtain ⟨cs, rfl, _⟩ := okWide_struct Tryd.underlying40 hv
  obtain ⟨fuel, hf⟩ := h
  obtain ⟨x0_0, x0_1, x0_2, x0_3, x0_4, x0_5, x0_6, x0_7, x1, x2, x3, x4, x5, x6, hc, hb⟩ := cells_unused hf
  refine ⟨x0_0, x0_1, x0_2, x0_3, x0_4, x0_5, x0_6, x0_7, x1, x2, x3, x4, x5, x6, ?_, hb⟩
  simp [Value.cells] at hc
  obtain ⟨l⟩ := cs
  simp at hc
  rw [hc]
theorem open_years (hv : Value.okWide Tryd.prog w r b0 43 v) (h : DataW.Trod enc Tryd.prog w base spare held 43 v d p) :
    ∃ x0_0 x0_1 x0_2 x0_3 x0_4 x0_5 x0_6 x0_7 x1 x2 x3, v = .agg #[.int .i64 x0_0, .int .i64 x0_1, .int .i64 x0_2, .int .i64 x0_3, .int .i64 x0_4, .int .i64 x0_5, .int .i64 x0_6, .int .i64 x0_7, .int .i64 x1, .int .i64 x2, .int .i64 x3] ∧ (-9223372036854775808 ≤ x0_0 ∧ x0_0 < 9223372036854775808) ∧ (-9223372036854775808 ≤ x0_1 ∧ x0_1 < 9223372036854775808) ∧ (-9223372036854775808 ≤ x0_2 ∧ x0_2 < 9223372036854775808) ∧ (-9223372036854775808 ≤ x0_3 ∧ x0_3 < 9223372036854775808) ∧ (-9223372036854775808 ≤ x0_4 ∧ x0_4 < 9223372036854775808) ∧ (-9223372036854775808 ≤ x0_5 ∧ x0_5 < 9223372036854775808) ∧ (-9223372036854775808 ≤ x0_6 ∧ x0_6 < 9223372036854775808) ∧ (-9223372036854775808 ≤ x0_7 ∧ x0_7 < 9223372036854775808) ∧ (-9223372036854775808 ≤ x1 ∧ x1 < 9223372036854775808) ∧ (-9223372036854775808 ≤ x2 ∧ x2 < 9223372036854775808) ∧ (-9223372036854775808 ≤ x3 ∧ x3 < 9223372036854775808) := by
  obtain ⟨cs, rfl, _⟩ := okWide_struct Tryd.underlying43 hv
  obtain ⟨fuel, hf⟩ := h
  obtain ⟨x0_0, x0_1, x0_2, x0_3, x0_4, x0_5, x0_6, x0_7, x1, x2, x3, hc, hb⟩ := cells_years hf
  refine ⟨x0_0, x0_1, x0_2, x0_3, x0_4, x0_5, x0_6, x0_7, x1, x2, x3, ?_, hb⟩
  simp [Value.cells] at hc
  obtain ⟨l⟩ := cs
  simp at hc
  rw [hc]
end
/-- The list of the row. -/
def laidC : List (String × DataW Unit) := [("demurrage/civil.lengths", Rows.laid_demurrage_civil_lengths)]
theorem gLens : Tryd.prog.globalNamed "demurrage/civil.lengths" = some 0 := by kernel_rfl
theorem tLens : (Tryd.prog.globals[0]?).map (·.type) = some 61 := by kernel_rfl
theorem cells12 : Tryd.prog.cellsOf 61 = 12 := by kernel_rfl
/-- The door's own heap meets the condition. -/
theorem door_met (os : Os) (args : Array Value) : laidMetH Tryd.prog laidC ((World.doorLaid Tryd.prog 14 os).forCall (fun _ _ => 0) ⟨#[], args, []⟩).memory :=
  laidMetH_of_parts3 (fuel := 8) (laidMet_of_run' 8 (by kernel_rfl) (by kernel_rfl)) (by kernel_rfl) (by kernel_rfl)
theorem lit_of {H : Type} {enc : TypeId × Value → H} {w : World} {base : Nat} {spare : Nat → Bool} {held : Bool} {fuel : Nat} {cs : List Value} {x : DataW H × List MemPlace} {n : Int}
    (h : DataW.trod enc Tryd.prog w base spare held fuel 3 cs = some x) (hx : x.1 = .lit (.int .i64 n)) : cs = [.int .i64 n] := by
  obtain ⟨k, e1, e2, _⟩ := DataW.trod_int Tryd.underlying3 h
  rw [e2] at hx
  simp at hx
  rw [e1, hx]
/-- What the condition gives the walks. -/
theorem of_laid {W : World} (h : laidMetH Tryd.prog laidC W) : Lens W := by
  rw [MakeChecks.laidMetH_plain _ _ _ (by kernel_rfl)] at h
  obtain ⟨ps, ⟨g0, t0, cs0, f0, p0, q0, hg0, ht0, hv0, hd0, _, _⟩, _, _⟩ := h
  obtain rfl := Option.some.inj (gLens.symm.trans hg0)
  obtain rfl := Option.some.inj (tLens.symm.trans ht0)
  obtain ⟨xs, m1, rfl, hx1, hlen, hn3, hel⟩ := DataW.trod_array Tryd.underlying61 hd0
  rw [cells12] at hlen
  have hc := fun i => World.var?_cell hg0 hv0 i
  simp only [Prod.mk.injEq, Rows.laid_demurrage_civil_lengths, DataW.agg.injEq] at hx1
  have hx := hx1.1
  clear hx1 hd0 hv0
  obtain ⟨l⟩ := cs0
  match xs, hn3, l, hlen with
  | [x0, x1, x2, x3, x4, x5, x6, x7, x8, x9, x10, x11], _, [c0, c1, c2, c3, c4, c5, c6, c7, c8, c9, c10, c11], _ =>
    simp only [List.map_cons, List.map_nil, List.cons.injEq, and_true] at hx
    obtain ⟨y0, y1, y2, y3, y4, y5, y6, y7, y8, y9, y10, y11⟩ := hx
    have e0 : c0 = .int .i64 31 := by
      have := hel 0 (by decide)
      rw [cells3] at this
      simpa using lit_of this y0.symm
    have e1 : c1 = .int .i64 28 := by
      have := hel 1 (by decide)
      rw [cells3] at this
      simpa using lit_of this y1.symm
    have e2 : c2 = .int .i64 31 := by
      have := hel 2 (by decide)
      rw [cells3] at this
      simpa using lit_of this y2.symm
    have e3 : c3 = .int .i64 30 := by
      have := hel 3 (by decide)
      rw [cells3] at this
      simpa using lit_of this y3.symm
    have e4 : c4 = .int .i64 31 := by
      have := hel 4 (by decide)
      rw [cells3] at this
      simpa using lit_of this y4.symm
    have e5 : c5 = .int .i64 30 := by
      have := hel 5 (by decide)
      rw [cells3] at this
      simpa using lit_of this y5.symm
    have e6 : c6 = .int .i64 31 := by
      have := hel 6 (by decide)
      rw [cells3] at this
      simpa using lit_of this y6.symm
    have e7 : c7 = .int .i64 31 := by
      have := hel 7 (by decide)
      rw [cells3] at this
      simpa using lit_of this y7.symm
    have e8 : c8 = .int .i64 30 := by
      have := hel 8 (by decide)
      rw [cells3] at this
      simpa using lit_of this y8.symm
    have e9 : c9 = .int .i64 31 := by
      have := hel 9 (by decide)
      rw [cells3] at this
      simpa using lit_of this y9.symm
    have e10 : c10 = .int .i64 30 := by
      have := hel 10 (by decide)
      rw [cells3] at this
      simpa using lit_of this y10.symm
    have e11 : c11 = .int .i64 31 := by
      have := hel 11 (by decide)
      rw [cells3] at this
      simpa using lit_of this y11.symm
    intro i hi
    rw [hc i]
    match i, hi with
    | 0, _ => simpa [l0] using e0
    | 1, _ => simpa [l0] using e1
    | 2, _ => simpa [l0] using e2
    | 3, _ => simpa [l0] using e3
    | 4, _ => simpa [l0] using e4
    | 5, _ => simpa [l0] using e5
    | 6, _ => simpa [l0] using e6
    | 7, _ => simpa [l0] using e7
    | 8, _ => simpa [l0] using e8
    | 9, _ => simpa [l0] using e9
    | 10, _ => simpa [l0] using e10
    | 11, _ => simpa [l0] using e11
end Go.Proofs.YtdnpljljjnjmdaaDoor
