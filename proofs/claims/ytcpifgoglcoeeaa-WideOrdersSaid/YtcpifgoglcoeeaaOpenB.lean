/- What the two records of layer 1's statements are: wide numbers and numbers, one behind the other. -/
import Derived.Test.YtcpifgoglcoeeaaOpen
namespace Go.Proofs.Ytcpifgoglcoeeaa
open Go.ChangeShapes Go.WideShapes Go.ChangeAt Go.RowKit

theorem cells52 : Try.prog.cellsOf 52 = 1 := by kernel_rfl
theorem cells49 : Try.prog.cellsOf 49 = 7 := by kernel_rfl
theorem cells54 : Try.prog.cellsOf 54 = 7 := by kernel_rfl

section
variable {H : Type} {enc : TypeId × Value → H} {w : World} {base : Nat} {spare : Nat → Bool} {held : Bool} {fuel : Nat} {cs : List Value} {x : DataW H × List MemPlace}

theorem cells_orders (h : DataW.trod enc Try.prog w base spare held fuel 49 cs = some x) :
    ∃ a b c d e f n, cs = [.int .u64 a, .int .u64 b, .int .u64 c, .int .u64 d, .int .u64 e, .int .u64 f, .int .u64 n] ∧ (0 ≤ a ∧ a < 18446744073709551616 ∧ 0 ≤ b ∧ b < 18446744073709551616) ∧ (0 ≤ c ∧ c < 18446744073709551616 ∧ 0 ≤ d ∧ d < 18446744073709551616) ∧
      (0 ≤ e ∧ e < 18446744073709551616 ∧ 0 ≤ f ∧ f < 18446744073709551616) ∧ 0 ≤ n ∧ n < 18446744073709551616 := by
  obtain ⟨xs, k, _, _, hl, hx, hf⟩ := DataW.trod_struct Try.underlying49 h
  rw [cells49] at hl
  have f0 := hf 0 _ rfl
  have f1 := hf 1 _ rfl
  have f2 := hf 2 _ rfl
  have f3 := hf 3 _ rfl
  clear hf h
  match cs, hl with
  | [c0, c1, c2, c3, c4, c5, c6], _ =>
    have hx2 : xs.length = 4 := hx
    match xs, hx2 with
    | [y0, y1, y2, y3], _ =>
      change DataW.trod enc Try.prog w base spare held k 24 (([c0, c1, c2, c3, c4, c5, c6].drop 0).take (Try.prog.cellsOf 24)) = some y0 at f0
      change DataW.trod enc Try.prog w base spare held k 24 (([c0, c1, c2, c3, c4, c5, c6].drop 2).take (Try.prog.cellsOf 24)) = some y1 at f1
      change DataW.trod enc Try.prog w base spare held k 24 (([c0, c1, c2, c3, c4, c5, c6].drop 4).take (Try.prog.cellsOf 24)) = some y2 at f2
      change DataW.trod enc Try.prog w base spare held k 22 (([c0, c1, c2, c3, c4, c5, c6].drop 6).take (Try.prog.cellsOf 22)) = some y3 at f3
      rw [cells24] at f0 f1 f2
      rw [cells22] at f3
      obtain ⟨a, b, e0, g0⟩ := cells_wide f0
      obtain ⟨c, d, e1, g1⟩ := cells_wide f1
      obtain ⟨e, f, e2, g2⟩ := cells_wide f2
      obtain ⟨n, e3, g3⟩ := cell_u64 Try.underlying22 f3
      simp at e0 e1 e2 e3
      obtain ⟨rfl, rfl⟩ := e0
      obtain ⟨rfl, rfl⟩ := e1
      obtain ⟨rfl, rfl⟩ := e2
      subst e3
      exact ⟨a, b, c, d, e, f, n, rfl, g0, g1, g2, g3⟩

theorem cells_parts (h : DataW.trod enc Try.prog w base spare held fuel 54 cs = some x) :
    ∃ a b p q m n c, cs = [.int .u64 a, .int .u64 b, .int .u32 p, .int .u32 q, .int .u64 m, .int .u64 n, .int .u64 c] ∧ (0 ≤ a ∧ a < 18446744073709551616 ∧ 0 ≤ b ∧ b < 18446744073709551616) ∧ (0 ≤ p ∧ p < 4294967296) ∧ (0 ≤ q ∧ q < 4294967296) ∧
      (0 ≤ m ∧ m < 18446744073709551616) ∧ (0 ≤ n ∧ n < 18446744073709551616) ∧ 0 ≤ c ∧ c < 18446744073709551616 := by
  obtain ⟨xs, k, _, _, hl, hx, hf⟩ := DataW.trod_struct Try.underlying54 h
  rw [cells54] at hl
  have f0 := hf 0 _ rfl
  have f1 := hf 1 _ rfl
  have f2 := hf 2 _ rfl
  have f3 := hf 3 _ rfl
  have f4 := hf 4 _ rfl
  have f5 := hf 5 _ rfl
  clear hf h
  match cs, hl with
  | [c0, c1, c2, c3, c4, c5, c6], _ =>
    have hx2 : xs.length = 6 := hx
    match xs, hx2 with
    | [y0, y1, y2, y3, y4, y5], _ =>
      change DataW.trod enc Try.prog w base spare held k 24 (([c0, c1, c2, c3, c4, c5, c6].drop 0).take (Try.prog.cellsOf 24)) = some y0 at f0
      change DataW.trod enc Try.prog w base spare held k 52 (([c0, c1, c2, c3, c4, c5, c6].drop 2).take (Try.prog.cellsOf 52)) = some y1 at f1
      change DataW.trod enc Try.prog w base spare held k 52 (([c0, c1, c2, c3, c4, c5, c6].drop 3).take (Try.prog.cellsOf 52)) = some y2 at f2
      change DataW.trod enc Try.prog w base spare held k 22 (([c0, c1, c2, c3, c4, c5, c6].drop 4).take (Try.prog.cellsOf 22)) = some y3 at f3
      change DataW.trod enc Try.prog w base spare held k 22 (([c0, c1, c2, c3, c4, c5, c6].drop 5).take (Try.prog.cellsOf 22)) = some y4 at f4
      change DataW.trod enc Try.prog w base spare held k 22 (([c0, c1, c2, c3, c4, c5, c6].drop 6).take (Try.prog.cellsOf 22)) = some y5 at f5
      rw [cells24] at f0
      rw [cells52] at f1 f2
      rw [cells22] at f3 f4 f5
      obtain ⟨a, b, e0, g0⟩ := cells_wide f0
      obtain ⟨p, e1, g1⟩ := cell_u32 Try.underlying52 f1
      obtain ⟨q, e2, g2⟩ := cell_u32 Try.underlying52 f2
      obtain ⟨m, e3, g3⟩ := cell_u64 Try.underlying22 f3
      obtain ⟨n, e4, g4⟩ := cell_u64 Try.underlying22 f4
      obtain ⟨c, e5, g5⟩ := cell_u64 Try.underlying22 f5
      simp at e0 e1 e2 e3 e4 e5
      obtain ⟨rfl, rfl⟩ := e0
      subst e1 e2 e3 e4 e5
      exact ⟨a, b, p, q, m, n, c, rfl, g0, g1, g2, g3, g4, g5⟩
end

section
variable {H : Type} {enc : TypeId × Value → H} {w : World} {base : Nat} {spare : Nat → Bool} {held : Bool} {r : Reach} {b0 : Nat} {v : Value} {d : DataW H} {p : List MemPlace}

theorem open_orders (hv : Value.okWide Try.prog w r b0 49 v) (h : DataW.Trod enc Try.prog w base spare held 49 v d p) :
    ∃ a b c d e f n, v = .agg #[.int .u64 a, .int .u64 b, .int .u64 c, .int .u64 d, .int .u64 e, .int .u64 f, .int .u64 n] ∧ (0 ≤ a ∧ a < 18446744073709551616 ∧ 0 ≤ b ∧ b < 18446744073709551616) ∧ (0 ≤ c ∧ c < 18446744073709551616 ∧ 0 ≤ d ∧ d < 18446744073709551616) ∧
      (0 ≤ e ∧ e < 18446744073709551616 ∧ 0 ≤ f ∧ f < 18446744073709551616) ∧ 0 ≤ n ∧ n < 18446744073709551616 := by
  obtain ⟨cs, rfl, _⟩ := okWide_struct Try.underlying49 hv
  obtain ⟨fuel, hf⟩ := h
  obtain ⟨a, b, c, d, e, f, n, hc, hb⟩ := cells_orders hf
  refine ⟨a, b, c, d, e, f, n, ?_, hb⟩
  simp [Value.cells] at hc
  obtain ⟨l⟩ := cs
  simp at hc
  rw [hc]
theorem open_parts (hv : Value.okWide Try.prog w r b0 54 v) (h : DataW.Trod enc Try.prog w base spare held 54 v d p) :
    ∃ a b p q m n c, v = .agg #[.int .u64 a, .int .u64 b, .int .u32 p, .int .u32 q, .int .u64 m, .int .u64 n, .int .u64 c] ∧ (0 ≤ a ∧ a < 18446744073709551616 ∧ 0 ≤ b ∧ b < 18446744073709551616) ∧ (0 ≤ p ∧ p < 4294967296) ∧ (0 ≤ q ∧ q < 4294967296) ∧
      (0 ≤ m ∧ m < 18446744073709551616) ∧ (0 ≤ n ∧ n < 18446744073709551616) ∧ 0 ≤ c ∧ c < 18446744073709551616 := by
  obtain ⟨cs, rfl, _⟩ := okWide_struct Try.underlying54 hv
  obtain ⟨fuel, hf⟩ := h
  obtain ⟨a, b, p, q, m, n, c, hc, hb⟩ := cells_parts hf
  refine ⟨a, b, p, q, m, n, c, ?_, hb⟩
  simp [Value.cells] at hc
  obtain ⟨l⟩ := cs
  simp at hc
  rw [hc]
end
end Go.Proofs.Ytcpifgoglcoeeaa
