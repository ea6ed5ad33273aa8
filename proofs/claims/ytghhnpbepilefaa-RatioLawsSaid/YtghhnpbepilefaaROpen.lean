/- What the arguments of layer 2's statements are. -/
import Derived.Test.YtghhnpbepilefaaOpen
namespace Go.Proofs.Ytghhnpbepilefaa
open Go.ChangeShapes Go.WideShapes Go.ChangeAt Go.RowKit
set_option linter.unusedVariables false

theorem i64_bd {n : Int} (h : (Lit.int .i64 n).wf = true) : -9223372036854775808 ≤ n ∧ n < 9223372036854775808 := by
  have hmin : IntKind.i64.min = -9223372036854775808 := rfl
  have hmax : IntKind.i64.max = 9223372036854775807 := rfl
  simp only [Lit.wf, Bool.and_eq_true, decide_eq_true_eq] at h
  omega
theorem cells3 : Try.prog.cellsOf 3 = 1 := by kernel_rfl
theorem u16_bd {n : Int} (h : (Lit.int .u16 n).wf = true) : 0 ≤ n ∧ n < 65536 := by
  have hmin : IntKind.u16.min = 0 := rfl
  have hmax : IntKind.u16.max = 65535 := rfl
  simp only [Lit.wf, Bool.and_eq_true, decide_eq_true_eq] at h
  omega
theorem cells46 : Try.prog.cellsOf 46 = 1 := by kernel_rfl

section
variable {H : Type} {enc : TypeId × Value → H} {w : World} {base : Nat} {spare : Nat → Bool} {held : Bool} {fuel : Nat} {cs : List Value} {x : DataW H × List MemPlace}
theorem cell_i64 {t : TypeId} (ht : Try.prog.underlying t = some (.int .i64)) (h : DataW.trod enc Try.prog w base spare held fuel t cs = some x) : ∃ n, cs = [.int .i64 n] ∧ -9223372036854775808 ≤ n ∧ n < 9223372036854775808 := by
  obtain ⟨n, hc, _, hw⟩ := DataW.trod_int ht h
  exact ⟨n, hc, i64_bd hw⟩
theorem cell_u16 {t : TypeId} (ht : Try.prog.underlying t = some (.int .u16)) (h : DataW.trod enc Try.prog w base spare held fuel t cs = some x) : ∃ n, cs = [.int .u16 n] ∧ 0 ≤ n ∧ n < 65536 := by
  obtain ⟨n, hc, _, hw⟩ := DataW.trod_int ht h
  exact ⟨n, hc, u16_bd hw⟩
theorem cells23 : Try.prog.cellsOf 23 = 2 := by kernel_rfl
theorem cells_ratio (h : DataW.trod enc Try.prog w base spare held fuel 23 cs = some x) :
    ∃ x0 x1, cs = [.int .i64 x0, .int .i64 x1] ∧ (-9223372036854775808 ≤ x0 ∧ x0 < 9223372036854775808) ∧ (-9223372036854775808 ≤ x1 ∧ x1 < 9223372036854775808) := by
  obtain ⟨xs, k, _, _, hl, hx, hf⟩ := DataW.trod_struct Try.underlying23 h
  rw [cells23] at hl
  have f0 := hf 0 _ rfl
  have f1 := hf 1 _ rfl
  clear hf h
  match cs, hl with
  | [c0, c1], _ =>
    have hx2 : xs.length = 2 := hx
    match xs, hx2 with
    | [y0, y1], _ =>
      change DataW.trod enc Try.prog w base spare held k 3 (([c0, c1].drop 0).take (Try.prog.cellsOf 3)) = some y0 at f0
      rw [cells3] at f0
      change DataW.trod enc Try.prog w base spare held k 3 (([c0, c1].drop 1).take (Try.prog.cellsOf 3)) = some y1 at f1
      rw [cells3] at f1
      obtain ⟨x0, e0, g0⟩ := cell_i64 Try.underlying3 f0
      obtain ⟨x1, e1, g1⟩ := cell_i64 Try.underlying3 f1
      simp at e0 e1
      subst e0
      subst e1
      exact ⟨x0, x1, rfl, g0, g1⟩
theorem cells26 : Try.prog.cellsOf 26 = 6 := by kernel_rfl
theorem cells_rtells (h : DataW.trod enc Try.prog w base spare held fuel 26 cs = some x) :
    ∃ x0_0 x0_1 x1 x2 x3 x4, cs = [.int .i64 x0_0, .int .i64 x0_1, .int .i64 x1, .int .i64 x2, .int .u64 x3, .int .u64 x4] ∧ (-9223372036854775808 ≤ x0_0 ∧ x0_0 < 9223372036854775808) ∧ (-9223372036854775808 ≤ x0_1 ∧ x0_1 < 9223372036854775808) ∧ (-9223372036854775808 ≤ x1 ∧ x1 < 9223372036854775808) ∧ (-9223372036854775808 ≤ x2 ∧ x2 < 9223372036854775808) ∧ (0 ≤ x3 ∧ x3 < 18446744073709551616) ∧ (0 ≤ x4 ∧ x4 < 18446744073709551616) := by
  obtain ⟨xs, k, _, _, hl, hx, hf⟩ := DataW.trod_struct Try.underlying26 h
  rw [cells26] at hl
  have f0 := hf 0 _ rfl
  have f1 := hf 1 _ rfl
  have f2 := hf 2 _ rfl
  have f3 := hf 3 _ rfl
  have f4 := hf 4 _ rfl
  clear hf h
  match cs, hl with
  | [c0, c1, c2, c3, c4, c5], _ =>
    have hx2 : xs.length = 5 := hx
    match xs, hx2 with
    | [y0, y1, y2, y3, y4], _ =>
      change DataW.trod enc Try.prog w base spare held k 23 (([c0, c1, c2, c3, c4, c5].drop 0).take (Try.prog.cellsOf 23)) = some y0 at f0
      rw [cells23] at f0
      change DataW.trod enc Try.prog w base spare held k 3 (([c0, c1, c2, c3, c4, c5].drop 2).take (Try.prog.cellsOf 3)) = some y1 at f1
      rw [cells3] at f1
      change DataW.trod enc Try.prog w base spare held k 3 (([c0, c1, c2, c3, c4, c5].drop 3).take (Try.prog.cellsOf 3)) = some y2 at f2
      rw [cells3] at f2
      change DataW.trod enc Try.prog w base spare held k 24 (([c0, c1, c2, c3, c4, c5].drop 4).take (Try.prog.cellsOf 24)) = some y3 at f3
      rw [cells24] at f3
      change DataW.trod enc Try.prog w base spare held k 24 (([c0, c1, c2, c3, c4, c5].drop 5).take (Try.prog.cellsOf 24)) = some y4 at f4
      rw [cells24] at f4
      obtain ⟨x0_0, x0_1, e0, g0_0, g0_1⟩ := cells_ratio f0
      obtain ⟨x1, e1, g1⟩ := cell_i64 Try.underlying3 f1
      obtain ⟨x2, e2, g2⟩ := cell_i64 Try.underlying3 f2
      obtain ⟨x3, e3, g3⟩ := cell_u64 Try.underlying24 f3
      obtain ⟨x4, e4, g4⟩ := cell_u64 Try.underlying24 f4
      simp at e0 e1 e2 e3 e4
      obtain ⟨rfl, rfl⟩ := e0
      subst e1
      subst e2
      subst e3
      subst e4
      exact ⟨x0_0, x0_1, x1, x2, x3, x4, rfl, g0_0, g0_1, g1, g2, g3, g4⟩
theorem cells48 : Try.prog.cellsOf 48 = 4 := by kernel_rfl
theorem cells_rsmall (h : DataW.trod enc Try.prog w base spare held fuel 48 cs = some x) :
    ∃ x0 x1 x2 x3, cs = [.int .u16 x0, .int .u16 x1, .int .u16 x2, .int .u16 x3] ∧ (0 ≤ x0 ∧ x0 < 65536) ∧ (0 ≤ x1 ∧ x1 < 65536) ∧ (0 ≤ x2 ∧ x2 < 65536) ∧ (0 ≤ x3 ∧ x3 < 65536) := by
  obtain ⟨xs, k, _, _, hl, hx, hf⟩ := DataW.trod_struct Try.underlying48 h
  rw [cells48] at hl
  have f0 := hf 0 _ rfl
  have f1 := hf 1 _ rfl
  have f2 := hf 2 _ rfl
  have f3 := hf 3 _ rfl
  clear hf h
  match cs, hl with
  | [c0, c1, c2, c3], _ =>
    have hx2 : xs.length = 4 := hx
    match xs, hx2 with
    | [y0, y1, y2, y3], _ =>
      change DataW.trod enc Try.prog w base spare held k 46 (([c0, c1, c2, c3].drop 0).take (Try.prog.cellsOf 46)) = some y0 at f0
      rw [cells46] at f0
      change DataW.trod enc Try.prog w base spare held k 46 (([c0, c1, c2, c3].drop 1).take (Try.prog.cellsOf 46)) = some y1 at f1
      rw [cells46] at f1
      change DataW.trod enc Try.prog w base spare held k 46 (([c0, c1, c2, c3].drop 2).take (Try.prog.cellsOf 46)) = some y2 at f2
      rw [cells46] at f2
      change DataW.trod enc Try.prog w base spare held k 46 (([c0, c1, c2, c3].drop 3).take (Try.prog.cellsOf 46)) = some y3 at f3
      rw [cells46] at f3
      obtain ⟨x0, e0, g0⟩ := cell_u16 Try.underlying46 f0
      obtain ⟨x1, e1, g1⟩ := cell_u16 Try.underlying46 f1
      obtain ⟨x2, e2, g2⟩ := cell_u16 Try.underlying46 f2
      obtain ⟨x3, e3, g3⟩ := cell_u16 Try.underlying46 f3
      simp at e0 e1 e2 e3
      subst e0
      subst e1
      subst e2
      subst e3
      exact ⟨x0, x1, x2, x3, rfl, g0, g1, g2, g3⟩
end

section
variable {H : Type} {enc : TypeId × Value → H} {w : World} {base : Nat} {spare : Nat → Bool} {held : Bool} {r : Reach} {b0 : Nat} {v : Value} {d : DataW H} {p : List MemPlace}
theorem open_i64 (hv : Value.okWide Try.prog w r b0 3 v) (h : DataW.Trod enc Try.prog w base spare held 3 v d p) : ∃ a, v = .int .i64 a ∧ -9223372036854775808 ≤ a ∧ a < 9223372036854775808 := by
  obtain ⟨a, rfl, _, _, wa⟩ := open_int Try.underlying3 hv h
  exact ⟨a, rfl, i64_bd wa⟩
theorem open_u16 (hv : Value.okWide Try.prog w r b0 46 v) (h : DataW.Trod enc Try.prog w base spare held 46 v d p) : ∃ a, v = .int .u16 a ∧ 0 ≤ a ∧ a < 65536 := by
  obtain ⟨a, rfl, _, _, wa⟩ := open_int Try.underlying46 hv h
  exact ⟨a, rfl, u16_bd wa⟩
theorem open_ratio (hv : Value.okWide Try.prog w r b0 23 v) (h : DataW.Trod enc Try.prog w base spare held 23 v d p) :
    ∃ x0 x1, v = .agg #[.int .i64 x0, .int .i64 x1] ∧ (-9223372036854775808 ≤ x0 ∧ x0 < 9223372036854775808) ∧ (-9223372036854775808 ≤ x1 ∧ x1 < 9223372036854775808) := by
  obtain ⟨cs, rfl, _⟩ := okWide_struct Try.underlying23 hv
  obtain ⟨fuel, hf⟩ := h
  obtain ⟨x0, x1, hc, hb⟩ := cells_ratio hf
  refine ⟨x0, x1, ?_, hb⟩
  simp [Value.cells] at hc
  obtain ⟨l⟩ := cs
  simp at hc
  rw [hc]
theorem open_rtells (hv : Value.okWide Try.prog w r b0 26 v) (h : DataW.Trod enc Try.prog w base spare held 26 v d p) :
    ∃ x0_0 x0_1 x1 x2 x3 x4, v = .agg #[.int .i64 x0_0, .int .i64 x0_1, .int .i64 x1, .int .i64 x2, .int .u64 x3, .int .u64 x4] ∧ (-9223372036854775808 ≤ x0_0 ∧ x0_0 < 9223372036854775808) ∧ (-9223372036854775808 ≤ x0_1 ∧ x0_1 < 9223372036854775808) ∧ (-9223372036854775808 ≤ x1 ∧ x1 < 9223372036854775808) ∧ (-9223372036854775808 ≤ x2 ∧ x2 < 9223372036854775808) ∧ (0 ≤ x3 ∧ x3 < 18446744073709551616) ∧ (0 ≤ x4 ∧ x4 < 18446744073709551616) := by
  obtain ⟨cs, rfl, _⟩ := okWide_struct Try.underlying26 hv
  obtain ⟨fuel, hf⟩ := h
  obtain ⟨x0_0, x0_1, x1, x2, x3, x4, hc, hb⟩ := cells_rtells hf
  refine ⟨x0_0, x0_1, x1, x2, x3, x4, ?_, hb⟩
  simp [Value.cells] at hc
  obtain ⟨l⟩ := cs
  simp at hc
  rw [hc]
theorem open_rsmall (hv : Value.okWide Try.prog w r b0 48 v) (h : DataW.Trod enc Try.prog w base spare held 48 v d p) :
    ∃ x0 x1 x2 x3, v = .agg #[.int .u16 x0, .int .u16 x1, .int .u16 x2, .int .u16 x3] ∧ (0 ≤ x0 ∧ x0 < 65536) ∧ (0 ≤ x1 ∧ x1 < 65536) ∧ (0 ≤ x2 ∧ x2 < 65536) ∧ (0 ≤ x3 ∧ x3 < 65536) := by
  obtain ⟨cs, rfl, _⟩ := okWide_struct Try.underlying48 hv
  obtain ⟨fuel, hf⟩ := h
  obtain ⟨x0, x1, x2, x3, hc, hb⟩ := cells_rsmall hf
  refine ⟨x0, x1, x2, x3, ?_, hb⟩
  simp [Value.cells] at hc
  obtain ⟨l⟩ := cs
  simp at hc
  rw [hc]
end
end Go.Proofs.Ytghhnpbepilefaa
