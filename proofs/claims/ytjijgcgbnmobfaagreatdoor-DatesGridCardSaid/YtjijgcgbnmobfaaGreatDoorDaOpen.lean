/- What the arguments of layer 16's statements are, and what the listed tables, handle and errors hold. -/
import Derived.Test.YtjijgcgbnmobfaaGreatDoorTeFacts
import Derived.Stop.LaidErr
import Derived.Stop.LaidTwo
import Derived.LaidHandle
import Derived.LaidLaws
import Derived.Test.YtjijgcgbnmobfaaGreatDoorRows
import Derived.Test.YtjijgcgbnmobfaaGreatDoorTie
import Derived.Test.YtjijgcgbnmobfaaGreatDoorCards
import Derived.ProofKit
import Derived.ChangeMaps5
import Derived.OpenShut
import Derived.ChangeOld
import Derived.Below
import Derived.LaidMore
import Derived.LaidOnce
import Derived.Stop.Joined
import Derived.MakeChecks
import Derived.SevenTiedAt
namespace Go.Proofs.YtjijgcgbnmobfaaGreatDoor
open Go.ChangeShapes Go.WideShapes Go.ChangeAt Go.RowKit
set_option linter.unusedVariables false
set_option maxRecDepth 100000

theorem own : ownKnob Tryz.prog.godebug = none := by kernel_rfl
theorem laidOut : laidOutB Tryz.prog = true := by kernel_rfl

theorem i64_bd {n : Int} (h : (Lit.int .i64 n).wf = true) : -9223372036854775808 ≤ n ∧ n < 9223372036854775808 := by
  have hmin : IntKind.i64.min = -9223372036854775808 := rfl
  have hmax : IntKind.i64.max = 9223372036854775807 := rfl
  simp only [Lit.wf, Bool.and_eq_true, decide_eq_true_eq] at h
  omega
theorem cells3 : Tryz.prog.cellsOf 3 = 1 := by kernel_rfl
theorem u8_bd {n : Int} (h : (Lit.int .u8 n).wf = true) : 0 ≤ n ∧ n < 256 := by
  have hmin : IntKind.u8.min = 0 := rfl
  have hmax : IntKind.u8.max = 255 := rfl
  simp only [Lit.wf, Bool.and_eq_true, decide_eq_true_eq] at h
  omega
theorem cells5 : Tryz.prog.cellsOf 5 = 1 := by kernel_rfl
theorem u16_bd {n : Int} (h : (Lit.int .u16 n).wf = true) : 0 ≤ n ∧ n < 65536 := by
  have hmin : IntKind.u16.min = 0 := rfl
  have hmax : IntKind.u16.max = 65535 := rfl
  simp only [Lit.wf, Bool.and_eq_true, decide_eq_true_eq] at h
  omega
theorem cells45 : Tryz.prog.cellsOf 45 = 1 := by kernel_rfl
theorem cells4 : Tryz.prog.cellsOf 4 = 1 := by kernel_rfl

section
variable {H : Type} {enc : TypeId × Value → H} {w : World} {base : Nat} {spare : Nat → Bool} {held : Bool} {fuel : Nat} {cs : List Value} {x : DataW H × List MemPlace}
theorem cell_i64 {t : TypeId} (ht : Tryz.prog.underlying t = some (.int .i64)) (h : DataW.trod enc Tryz.prog w base spare held fuel t cs = some x) : ∃ n, cs = [.int .i64 n] ∧ -9223372036854775808 ≤ n ∧ n < 9223372036854775808 := by
  obtain ⟨n, hc, _, hw⟩ := DataW.trod_int ht h
  exact ⟨n, hc, i64_bd hw⟩
theorem cell_u8 {t : TypeId} (ht : Tryz.prog.underlying t = some (.int .u8)) (h : DataW.trod enc Tryz.prog w base spare held fuel t cs = some x) : ∃ n, cs = [.int .u8 n] ∧ 0 ≤ n ∧ n < 256 := by
  obtain ⟨n, hc, _, hw⟩ := DataW.trod_int ht h
  exact ⟨n, hc, u8_bd hw⟩
theorem cell_u16 {t : TypeId} (ht : Tryz.prog.underlying t = some (.int .u16)) (h : DataW.trod enc Tryz.prog w base spare held fuel t cs = some x) : ∃ n, cs = [.int .u16 n] ∧ 0 ≤ n ∧ n < 65536 := by
  obtain ⟨n, hc, _, hw⟩ := DataW.trod_int ht h
  exact ⟨n, hc, u16_bd hw⟩
theorem cell_bool {t : TypeId} (ht : Tryz.prog.underlying t = some .bool) (h : DataW.trod enc Tryz.prog w base spare held fuel t cs = some x) : ∃ b : Bool, cs = [.bool b] := by
  obtain ⟨b, hc, _⟩ := DataW.trod_bool ht h
  exact ⟨b, hc⟩
theorem cells23 : Tryz.prog.cellsOf 23 = 11 := by kernel_rfl
theorem cells_terms (h : DataW.trod enc Tryz.prog w base spare held fuel 23 cs = some x) :
    ∃ x0 x1 x2 x3 x4 x5 x6 x7 x8 x9 x10, cs = [.int .i64 x0, .int .i64 x1, .int .i64 x2, .int .i64 x3, .int .i64 x4, .int .i64 x5, .int .i64 x6, .bool x7, .bool x8, .bool x9, .int .i64 x10] ∧ (-9223372036854775808 ≤ x0 ∧ x0 < 9223372036854775808) ∧ (-9223372036854775808 ≤ x1 ∧ x1 < 9223372036854775808) ∧ (-9223372036854775808 ≤ x2 ∧ x2 < 9223372036854775808) ∧ (-9223372036854775808 ≤ x3 ∧ x3 < 9223372036854775808) ∧ (-9223372036854775808 ≤ x4 ∧ x4 < 9223372036854775808) ∧ (-9223372036854775808 ≤ x5 ∧ x5 < 9223372036854775808) ∧ (-9223372036854775808 ≤ x6 ∧ x6 < 9223372036854775808) ∧ (-9223372036854775808 ≤ x10 ∧ x10 < 9223372036854775808) := by
  obtain ⟨xs, k, _, _, hl, hx, hf⟩ := DataW.trod_struct Tryz.underlying23 h
  rw [cells23] at hl
  have f0 := hf 0 _ rfl
  have f1 := hf 1 _ rfl
  have f2 := hf 2 _ rfl
  have f3 := hf 3 _ rfl
  have f4 := hf 4 _ rfl
  have f5 := hf 5 _ rfl
  have f6 := hf 6 _ rfl
  have f7 := hf 7 _ rfl
  have f8 := hf 8 _ rfl
  have f9 := hf 9 _ rfl
  have f10 := hf 10 _ rfl
  clear hf h
  match cs, hl with
  | [c0, c1, c2, c3, c4, c5, c6, c7, c8, c9, c10], _ =>
    have hx2 : xs.length = 11 := hx
    match xs, hx2 with
    | [y0, y1, y2, y3, y4, y5, y6, y7, y8, y9, y10], _ =>
      change DataW.trod enc Tryz.prog w base spare held k 3 (([c0, c1, c2, c3, c4, c5, c6, c7, c8, c9, c10].drop 0).take (Tryz.prog.cellsOf 3)) = some y0 at f0
      rw [cells3] at f0
      change DataW.trod enc Tryz.prog w base spare held k 3 (([c0, c1, c2, c3, c4, c5, c6, c7, c8, c9, c10].drop 1).take (Tryz.prog.cellsOf 3)) = some y1 at f1
      rw [cells3] at f1
      change DataW.trod enc Tryz.prog w base spare held k 3 (([c0, c1, c2, c3, c4, c5, c6, c7, c8, c9, c10].drop 2).take (Tryz.prog.cellsOf 3)) = some y2 at f2
      rw [cells3] at f2
      change DataW.trod enc Tryz.prog w base spare held k 3 (([c0, c1, c2, c3, c4, c5, c6, c7, c8, c9, c10].drop 3).take (Tryz.prog.cellsOf 3)) = some y3 at f3
      rw [cells3] at f3
      change DataW.trod enc Tryz.prog w base spare held k 3 (([c0, c1, c2, c3, c4, c5, c6, c7, c8, c9, c10].drop 4).take (Tryz.prog.cellsOf 3)) = some y4 at f4
      rw [cells3] at f4
      change DataW.trod enc Tryz.prog w base spare held k 3 (([c0, c1, c2, c3, c4, c5, c6, c7, c8, c9, c10].drop 5).take (Tryz.prog.cellsOf 3)) = some y5 at f5
      rw [cells3] at f5
      change DataW.trod enc Tryz.prog w base spare held k 3 (([c0, c1, c2, c3, c4, c5, c6, c7, c8, c9, c10].drop 6).take (Tryz.prog.cellsOf 3)) = some y6 at f6
      rw [cells3] at f6
      change DataW.trod enc Tryz.prog w base spare held k 4 (([c0, c1, c2, c3, c4, c5, c6, c7, c8, c9, c10].drop 7).take (Tryz.prog.cellsOf 4)) = some y7 at f7
      rw [cells4] at f7
      change DataW.trod enc Tryz.prog w base spare held k 4 (([c0, c1, c2, c3, c4, c5, c6, c7, c8, c9, c10].drop 8).take (Tryz.prog.cellsOf 4)) = some y8 at f8
      rw [cells4] at f8
      change DataW.trod enc Tryz.prog w base spare held k 4 (([c0, c1, c2, c3, c4, c5, c6, c7, c8, c9, c10].drop 9).take (Tryz.prog.cellsOf 4)) = some y9 at f9
      rw [cells4] at f9
      change DataW.trod enc Tryz.prog w base spare held k 3 (([c0, c1, c2, c3, c4, c5, c6, c7, c8, c9, c10].drop 10).take (Tryz.prog.cellsOf 3)) = some y10 at f10
      rw [cells3] at f10
      obtain ⟨x0, e0, g0⟩ := cell_i64 Tryz.underlying3 f0
      obtain ⟨x1, e1, g1⟩ := cell_i64 Tryz.underlying3 f1
      obtain ⟨x2, e2, g2⟩ := cell_i64 Tryz.underlying3 f2
      obtain ⟨x3, e3, g3⟩ := cell_i64 Tryz.underlying3 f3
      obtain ⟨x4, e4, g4⟩ := cell_i64 Tryz.underlying3 f4
      obtain ⟨x5, e5, g5⟩ := cell_i64 Tryz.underlying3 f5
      obtain ⟨x6, e6, g6⟩ := cell_i64 Tryz.underlying3 f6
      obtain ⟨x7, e7⟩ := cell_bool Tryz.underlying4 f7
      obtain ⟨x8, e8⟩ := cell_bool Tryz.underlying4 f8
      obtain ⟨x9, e9⟩ := cell_bool Tryz.underlying4 f9
      obtain ⟨x10, e10, g10⟩ := cell_i64 Tryz.underlying3 f10
      simp at e0 e1 e2 e3 e4 e5 e6 e7 e8 e9 e10
      subst e0
      subst e1
      subst e2
      subst e3
      subst e4
      subst e5
      subst e6
      subst e7
      subst e8
      subst e9
      subst e10
      exact ⟨x0, x1, x2, x3, x4, x5, x6, x7, x8, x9, x10, rfl, g0, g1, g2, g3, g4, g5, g6, g10⟩
theorem cells38 : Tryz.prog.cellsOf 38 = 4 := by kernel_rfl
theorem cells_many (h : DataW.trod enc Tryz.prog w base spare held fuel 38 cs = some x) :
    ∃ x0 x1 x2 x3, cs = [.int .i64 x0, .int .u8 x1, .int .u8 x2, .bool x3] ∧ (-9223372036854775808 ≤ x0 ∧ x0 < 9223372036854775808) ∧ (0 ≤ x1 ∧ x1 < 256) ∧ (0 ≤ x2 ∧ x2 < 256) := by
  obtain ⟨xs, k, _, _, hl, hx, hf⟩ := DataW.trod_struct Tryz.underlying38 h
  rw [cells38] at hl
  have f0 := hf 0 _ rfl
  have f1 := hf 1 _ rfl
  have f2 := hf 2 _ rfl
  have f3 := hf 3 _ rfl
  clear hf h
  match cs, hl with
  | [c0, c1, c2, c3], _ =>
    have hx2 : xs.length = 4 := hx
    match xs, hx2 with
    | [y0, y1, y2, y3], _ =>
      change DataW.trod enc Tryz.prog w base spare held k 3 (([c0, c1, c2, c3].drop 0).take (Tryz.prog.cellsOf 3)) = some y0 at f0
      rw [cells3] at f0
      change DataW.trod enc Tryz.prog w base spare held k 5 (([c0, c1, c2, c3].drop 1).take (Tryz.prog.cellsOf 5)) = some y1 at f1
      rw [cells5] at f1
      change DataW.trod enc Tryz.prog w base spare held k 5 (([c0, c1, c2, c3].drop 2).take (Tryz.prog.cellsOf 5)) = some y2 at f2
      rw [cells5] at f2
      change DataW.trod enc Tryz.prog w base spare held k 4 (([c0, c1, c2, c3].drop 3).take (Tryz.prog.cellsOf 4)) = some y3 at f3
      rw [cells4] at f3
      obtain ⟨x0, e0, g0⟩ := cell_i64 Tryz.underlying3 f0
      obtain ⟨x1, e1, g1⟩ := cell_u8 Tryz.underlying5 f1
      obtain ⟨x2, e2, g2⟩ := cell_u8 Tryz.underlying5 f2
      obtain ⟨x3, e3⟩ := cell_bool Tryz.underlying4 f3
      simp at e0 e1 e2 e3
      subst e0
      subst e1
      subst e2
      subst e3
      exact ⟨x0, x1, x2, x3, rfl, g0, g1, g2⟩
theorem cells47 : Tryz.prog.cellsOf 47 = 15 := by kernel_rfl
theorem cells_turn (h : DataW.trod enc Tryz.prog w base spare held fuel 47 cs = some x) :
    ∃ x0_0 x0_1 x0_2 x0_3 x0_4 x0_5 x0_6 x0_7 x0_8 x0_9 x0_10 x1 x2 x3 x4, cs = [.int .i64 x0_0, .int .i64 x0_1, .int .i64 x0_2, .int .i64 x0_3, .int .i64 x0_4, .int .i64 x0_5, .int .i64 x0_6, .bool x0_7, .bool x0_8, .bool x0_9, .int .i64 x0_10, .int .u8 x1, .int .u8 x2, .int .u8 x3, .int .u16 x4] ∧ (-9223372036854775808 ≤ x0_0 ∧ x0_0 < 9223372036854775808) ∧ (-9223372036854775808 ≤ x0_1 ∧ x0_1 < 9223372036854775808) ∧ (-9223372036854775808 ≤ x0_2 ∧ x0_2 < 9223372036854775808) ∧ (-9223372036854775808 ≤ x0_3 ∧ x0_3 < 9223372036854775808) ∧ (-9223372036854775808 ≤ x0_4 ∧ x0_4 < 9223372036854775808) ∧ (-9223372036854775808 ≤ x0_5 ∧ x0_5 < 9223372036854775808) ∧ (-9223372036854775808 ≤ x0_6 ∧ x0_6 < 9223372036854775808) ∧ (-9223372036854775808 ≤ x0_10 ∧ x0_10 < 9223372036854775808) ∧ (0 ≤ x1 ∧ x1 < 256) ∧ (0 ≤ x2 ∧ x2 < 256) ∧ (0 ≤ x3 ∧ x3 < 256) ∧ (0 ≤ x4 ∧ x4 < 65536) := by
  obtain ⟨xs, k, _, _, hl, hx, hf⟩ := DataW.trod_struct Tryz.underlying47 h
  rw [cells47] at hl
  have f0 := hf 0 _ rfl
  have f1 := hf 1 _ rfl
  have f2 := hf 2 _ rfl
  have f3 := hf 3 _ rfl
  have f4 := hf 4 _ rfl
  clear hf h
  match cs, hl with
  | [c0, c1, c2, c3, c4, c5, c6, c7, c8, c9, c10, c11, c12, c13, c14], _ =>
    have hx2 : xs.length = 5 := hx
    match xs, hx2 with
    | [y0, y1, y2, y3, y4], _ =>
      change DataW.trod enc Tryz.prog w base spare held k 23 (([c0, c1, c2, c3, c4, c5, c6, c7, c8, c9, c10, c11, c12, c13, c14].drop 0).take (Tryz.prog.cellsOf 23)) = some y0 at f0
      rw [cells23] at f0
      change DataW.trod enc Tryz.prog w base spare held k 5 (([c0, c1, c2, c3, c4, c5, c6, c7, c8, c9, c10, c11, c12, c13, c14].drop 11).take (Tryz.prog.cellsOf 5)) = some y1 at f1
      rw [cells5] at f1
      change DataW.trod enc Tryz.prog w base spare held k 5 (([c0, c1, c2, c3, c4, c5, c6, c7, c8, c9, c10, c11, c12, c13, c14].drop 12).take (Tryz.prog.cellsOf 5)) = some y2 at f2
      rw [cells5] at f2
      change DataW.trod enc Tryz.prog w base spare held k 5 (([c0, c1, c2, c3, c4, c5, c6, c7, c8, c9, c10, c11, c12, c13, c14].drop 13).take (Tryz.prog.cellsOf 5)) = some y3 at f3
      rw [cells5] at f3
      change DataW.trod enc Tryz.prog w base spare held k 45 (([c0, c1, c2, c3, c4, c5, c6, c7, c8, c9, c10, c11, c12, c13, c14].drop 14).take (Tryz.prog.cellsOf 45)) = some y4 at f4
      rw [cells45] at f4
      obtain ⟨x0_0, x0_1, x0_2, x0_3, x0_4, x0_5, x0_6, x0_7, x0_8, x0_9, x0_10, e0, g0_0, g0_1, g0_2, g0_3, g0_4, g0_5, g0_6, g0_10⟩ := cells_terms f0
      obtain ⟨x1, e1, g1⟩ := cell_u8 Tryz.underlying5 f1
      obtain ⟨x2, e2, g2⟩ := cell_u8 Tryz.underlying5 f2
      obtain ⟨x3, e3, g3⟩ := cell_u8 Tryz.underlying5 f3
      obtain ⟨x4, e4, g4⟩ := cell_u16 Tryz.underlying45 f4
      simp at e0 e1 e2 e3 e4
      obtain ⟨rfl, rfl, rfl, rfl, rfl, rfl, rfl, rfl, rfl, rfl, rfl⟩ := e0
      subst e1
      subst e2
      subst e3
      subst e4
      exact ⟨x0_0, x0_1, x0_2, x0_3, x0_4, x0_5, x0_6, x0_7, x0_8, x0_9, x0_10, x1, x2, x3, x4, rfl, g0_0, g0_1, g0_2, g0_3, g0_4, g0_5, g0_6, g0_10, g1, g2, g3, g4⟩
end

section
variable {H : Type} {enc : TypeId × Value → H} {w : World} {base : Nat} {spare : Nat → Bool} {held : Bool} {r : Reach} {b0 : Nat} {v : Value} {d : DataW H} {p : List MemPlace}
theorem open_i64 (hv : Value.okWide Tryz.prog w r b0 3 v) (h : DataW.Trod enc Tryz.prog w base spare held 3 v d p) : ∃ a, v = .int .i64 a ∧ -9223372036854775808 ≤ a ∧ a < 9223372036854775808 := by
  obtain ⟨a, rfl, _, _, wa⟩ := open_int Tryz.underlying3 hv h
  exact ⟨a, rfl, i64_bd wa⟩
theorem open_u8 (hv : Value.okWide Tryz.prog w r b0 5 v) (h : DataW.Trod enc Tryz.prog w base spare held 5 v d p) : ∃ a, v = .int .u8 a ∧ 0 ≤ a ∧ a < 256 := by
  obtain ⟨a, rfl, _, _, wa⟩ := open_int Tryz.underlying5 hv h
  exact ⟨a, rfl, u8_bd wa⟩
theorem open_u16 (hv : Value.okWide Tryz.prog w r b0 45 v) (h : DataW.Trod enc Tryz.prog w base spare held 45 v d p) : ∃ a, v = .int .u16 a ∧ 0 ≤ a ∧ a < 65536 := by
  obtain ⟨a, rfl, _, _, wa⟩ := open_int Tryz.underlying45 hv h
  exact ⟨a, rfl, u16_bd wa⟩
theorem open_terms (hv : Value.okWide Tryz.prog w r b0 23 v) (h : DataW.Trod enc Tryz.prog w base spare held 23 v d p) :
    ∃ x0 x1 x2 x3 x4 x5 x6 x7 x8 x9 x10, v = .agg #[.int .i64 x0, .int .i64 x1, .int .i64 x2, .int .i64 x3, .int .i64 x4, .int .i64 x5, .int .i64 x6, .bool x7, .bool x8, .bool x9, .int .i64 x10] ∧ (-9223372036854775808 ≤ x0 ∧ x0 < 9223372036854775808) ∧ (-9223372036854775808 ≤ x1 ∧ x1 < 9223372036854775808) ∧ (-9223372036854775808 ≤ x2 ∧ x2 < 9223372036854775808) ∧ (-9223372036854775808 ≤ x3 ∧ x3 < 9223372036854775808) ∧ (-9223372036854775808 ≤ x4 ∧ x4 < 9223372036854775808) ∧ (-9223372036854775808 ≤ x5 ∧ x5 < 9223372036854775808) ∧ (-9223372036854775808 ≤ x6 ∧ x6 < 9223372036854775808) ∧ (-9223372036854775808 ≤ x10 ∧ x10 < 9223372036854775808) := by
  obtain ⟨cs, rfl, _⟩ := okWide_struct Tryz.underlying23 hv
  obtain ⟨fuel, hf⟩ := h
  obtain ⟨x0, x1, x2, x3, x4, x5, x6, x7, x8, x9, x10, hc, hb⟩ := cells_terms hf
  refine ⟨x0, x1, x2, x3, x4, x5, x6, x7, x8, x9, x10, ?_, hb⟩
  simp [Value.cells] at hc
  obtain ⟨l⟩ := cs
  simp at hc
  rw [hc]
theorem open_many (hv : Value.okWide Tryz.prog w r b0 38 v) (h : DataW.Trod enc Tryz.prog w base spare held 38 v d p) :
    ∃ x0 x1 x2 x3, v = .agg #[.int .i64 x0, .int .u8 x1, .int .u8 x2, .bool x3] ∧ (-9223372036854775808 ≤ x0 ∧ x0 < 9223372036854775808) ∧ (0 ≤ x1 ∧ x1 < 256) ∧ (0 ≤ x2 ∧ x2 < 256) := by
  obtain ⟨cs, rfl, _⟩ := okWide_struct Tryz.underlying38 hv
  obtain ⟨fuel, hf⟩ := h
  obtain ⟨x0, x1, x2, x3, hc, hb⟩ := cells_many hf
  refine ⟨x0, x1, x2, x3, ?_, hb⟩
  simp [Value.cells] at hc
  obtain ⟨l⟩ := cs
  simp at hc
  rw [hc]
theorem open_turn (hv : Value.okWide Tryz.prog w r b0 47 v) (h : DataW.Trod enc Tryz.prog w base spare held 47 v d p) :
    ∃ x0_0 x0_1 x0_2 x0_3 x0_4 x0_5 x0_6 x0_7 x0_8 x0_9 x0_10 x1 x2 x3 x4, v = .agg #[.int .i64 x0_0, .int .i64 x0_1, .int .i64 x0_2, .int .i64 x0_3, .int .i64 x0_4, .int .i64 x0_5, .int .i64 x0_6, .bool x0_7, .bool x0_8, .bool x0_9, .int .i64 x0_10, .int .u8 x1, .int .u8 x2, .int .u8 x3, .int .u16 x4] ∧ (-9223372036854775808 ≤ x0_0 ∧ x0_0 < 9223372036854775808) ∧ (-9223372036854775808 ≤ x0_1 ∧ x0_1 < 9223372036854775808) ∧ (-9223372036854775808 ≤ x0_2 ∧ x0_2 < 9223372036854775808) ∧ (-9223372036854775808 ≤ x0_3 ∧ x0_3 < 9223372036854775808) ∧ (-9223372036854775808 ≤ x0_4 ∧ x0_4 < 9223372036854775808) ∧ (-9223372036854775808 ≤ x0_5 ∧ x0_5 < 9223372036854775808) ∧ (-9223372036854775808 ≤ x0_6 ∧ x0_6 < 9223372036854775808) ∧ (-9223372036854775808 ≤ x0_10 ∧ x0_10 < 9223372036854775808) ∧ (0 ≤ x1 ∧ x1 < 256) ∧ (0 ≤ x2 ∧ x2 < 256) ∧ (0 ≤ x3 ∧ x3 < 256) ∧ (0 ≤ x4 ∧ x4 < 65536) := by
  obtain ⟨cs, rfl, _⟩ := okWide_struct Tryz.underlying47 hv
  obtain ⟨fuel, hf⟩ := h
  obtain ⟨x0_0, x0_1, x0_2, x0_3, x0_4, x0_5, x0_6, x0_7, x0_8, x0_9, x0_10, x1, x2, x3, x4, hc, hb⟩ := cells_turn hf
  refine ⟨x0_0, x0_1, x0_2, x0_3, x0_4, x0_5, x0_6, x0_7, x0_8, x0_9, x0_10, x1, x2, x3, x4, ?_, hb⟩
  simp [Value.cells] at hc
  obtain ⟨l⟩ := cs
  simp at hc
  rw [hc]
end
/-- The list of the row. -/
def laidC : List (String × DataW Unit) := [("demurrage/civil.lengths", Rows.laid_demurrage_civil_lengths), ("errors.errorType", Rows.laid_errors_errorType), ("demurrage/actual.errDay", Rows.laid_demurrage_actual_errDay), ("demurrage/actual.errOrder", Rows.laid_demurrage_actual_errOrder), ("demurrage/icma.errNoDay", Rows.laid_demurrage_icma_errNoDay), ("demurrage/icma.errOrder", Rows.laid_demurrage_icma_errOrder), ("demurrage/icma.errMany", Rows.laid_demurrage_icma_errMany), ("demurrage/icma.errFalls", Rows.laid_demurrage_icma_errFalls), ("demurrage/icma.errEmpty", Rows.laid_demurrage_icma_errEmpty), ("demurrage/icma.errFreq", Rows.laid_demurrage_icma_errFreq), ("demurrage/icma.errOutside", Rows.laid_demurrage_icma_errOutside), ("demurrage/roll.names", Rows.laid_demurrage_roll_names), ("demurrage/terms.names", Rows.laid_demurrage_terms_names), ("demurrage/terms.errNone", Rows.laid_demurrage_terms_errNone), ("demurrage/terms.errDay", Rows.laid_demurrage_terms_errDay), ("demurrage/terms.errOrder", Rows.laid_demurrage_terms_errOrder), ("demurrage/terms.errBound", Rows.laid_demurrage_terms_errBound)]
theorem gLens : Tryz.prog.globalNamed "demurrage/civil.lengths" = some 7 := by kernel_rfl
theorem tLens : (Tryz.prog.globals[7]?).map (·.type) = some 145 := by kernel_rfl
theorem cells12 : Tryz.prog.cellsOf 145 = 12 := by kernel_rfl
/-- The door's own heap meets the condition. -/
theorem door_met (os : Os) (args : Array Value) : laidMetH Tryz.prog laidC ((World.doorLaid Tryz.prog 278 os).forCall (fun _ _ => 0) ⟨#[], args, []⟩).memory :=
  laidMetH_of_parts3 (fuel := 8) (laidMet_of_run' 8 (by kernel_rfl) (by kernel_rfl)) (by kernel_rfl) (by kernel_rfl)
theorem lit_of {H : Type} {enc : TypeId × Value → H} {w : World} {base : Nat} {spare : Nat → Bool} {held : Bool} {fuel : Nat} {cs : List Value} {x : DataW H × List MemPlace} {n : Int}
    (h : DataW.trod enc Tryz.prog w base spare held fuel 3 cs = some x) (hx : x.1 = .lit (.int .i64 n)) : cs = [.int .i64 n] := by
  obtain ⟨k, e1, e2, _⟩ := DataW.trod_int Tryz.underlying3 h
  rw [e2] at hx
  simp at hx
  rw [e1, hx]
/-- What the condition gives the walks. -/
theorem parts_laid {W : World} (h : laidMetH Tryz.prog laidC W) : laidMet Tryz.prog [("demurrage/civil.lengths", Rows.laid_demurrage_civil_lengths), ("demurrage/actual.errDay", Rows.laid_demurrage_actual_errDay), ("demurrage/actual.errOrder", Rows.laid_demurrage_actual_errOrder), ("demurrage/icma.errNoDay", Rows.laid_demurrage_icma_errNoDay), ("demurrage/icma.errOrder", Rows.laid_demurrage_icma_errOrder), ("demurrage/icma.errMany", Rows.laid_demurrage_icma_errMany), ("demurrage/icma.errFalls", Rows.laid_demurrage_icma_errFalls), ("demurrage/icma.errEmpty", Rows.laid_demurrage_icma_errEmpty), ("demurrage/icma.errFreq", Rows.laid_demurrage_icma_errFreq), ("demurrage/icma.errOutside", Rows.laid_demurrage_icma_errOutside), ("demurrage/roll.names", Rows.laid_demurrage_roll_names), ("demurrage/terms.names", Rows.laid_demurrage_terms_names), ("demurrage/terms.errNone", Rows.laid_demurrage_terms_errNone), ("demurrage/terms.errDay", Rows.laid_demurrage_terms_errDay), ("demurrage/terms.errOrder", Rows.laid_demurrage_terms_errOrder), ("demurrage/terms.errBound", Rows.laid_demurrage_terms_errBound)] W ∧ handlesMet Tryz.prog [("errors.errorType", Rows.laid_errors_errorType)] W := h
theorem lens_laid {W : World} (hH : laidMetH Tryz.prog laidC W) : Lens W := by
  have h := (parts_laid hH).1
  clear hH
  obtain ⟨ps, ⟨g0, t0, cs0, f0, p0, q0, hg0, ht0, hv0, hd0, _, _⟩, _, _⟩ := h
  obtain rfl := Option.some.inj (gLens.symm.trans hg0)
  obtain rfl := Option.some.inj (tLens.symm.trans ht0)
  obtain ⟨xs, m1, rfl, hx1, hlen, hn3, hel⟩ := DataW.trod_array Tryz.underlying145 hd0
  rw [cells12] at hlen
  have hc := fun i => World.var?_cell hg0 hv0 i
  simp only [Prod.mk.injEq, Rows.laid_demurrage_civil_lengths, DataW.agg.injEq] at hx1
  have hx := hx1.1
  clear hx1 hd0 hv0
  obtain ⟨l⟩ := cs0
  match xs, hn3, l, hlen with
  | [x0, x1, x2, x3, x4, x5, x6, x7, x8, x9, x10, x11], _, [c0, c1, c2, c3, c4, c5, c6, c7, c8, c9, c10, c11], _ =>
    simp only [List.map_cons, List.map_nil, List.cons.injEq, and_true] at hx
    obtain ⟨y0, y1, y2, y3, y4, y5, y6, y7, y8, y9, y10, y11⟩ := hx
    have e0 : c0 = .int .i64 31 := by
      have := hel 0 (by decide)
      rw [cells3] at this
      simpa using lit_of this y0.symm
    have e1 : c1 = .int .i64 28 := by
      have := hel 1 (by decide)
      rw [cells3] at this
      simpa using lit_of this y1.symm
    have e2 : c2 = .int .i64 31 := by
      have := hel 2 (by decide)
      rw [cells3] at this
      simpa using lit_of this y2.symm
    have e3 : c3 = .int .i64 30 := by
      have := hel 3 (by decide)
      rw [cells3] at this
      simpa using lit_of this y3.symm
    have e4 : c4 = .int .i64 31 := by
      have := hel 4 (by decide)
      rw [cells3] at this
      simpa using lit_of this y4.symm
    have e5 : c5 = .int .i64 30 := by
      have := hel 5 (by decide)
      rw [cells3] at this
      simpa using lit_of this y5.symm
    have e6 : c6 = .int .i64 31 := by
      have := hel 6 (by decide)
      rw [cells3] at this
      simpa using lit_of this y6.symm
    have e7 : c7 = .int .i64 31 := by
      have := hel 7 (by decide)
      rw [cells3] at this
      simpa using lit_of this y7.symm
    have e8 : c8 = .int .i64 30 := by
      have := hel 8 (by decide)
      rw [cells3] at this
      simpa using lit_of this y8.symm
    have e9 : c9 = .int .i64 31 := by
      have := hel 9 (by decide)
      rw [cells3] at this
      simpa using lit_of this y9.symm
    have e10 : c10 = .int .i64 30 := by
      have := hel 10 (by decide)
      rw [cells3] at this
      simpa using lit_of this y10.symm
    have e11 : c11 = .int .i64 31 := by
      have := hel 11 (by decide)
      rw [cells3] at this
      simpa using lit_of this y11.symm
    intro i hi
    rw [hc i]
    match i, hi with
    | 0, _ => simpa [l0] using e0
    | 1, _ => simpa [l0] using e1
    | 2, _ => simpa [l0] using e2
    | 3, _ => simpa [l0] using e3
    | 4, _ => simpa [l0] using e4
    | 5, _ => simpa [l0] using e5
    | 6, _ => simpa [l0] using e6
    | 7, _ => simpa [l0] using e7
    | 8, _ => simpa [l0] using e8
    | 9, _ => simpa [l0] using e9
    | 10, _ => simpa [l0] using e10
    | 11, _ => simpa [l0] using e11
theorem laidMet.skip {P : Program} {x y : String × DataW Unit} {r : List (String × DataW Unit)} {w : World} (h : laidMet P (x :: y :: r) w) : laidMet P (x :: r) w := by
  obtain ⟨ps, hv, hnd, hrows⟩ := h
  obtain ⟨n, d⟩ := x
  obtain ⟨m, e⟩ := y
  obtain ⟨g, t, cs, fuel, p, q, h1, h2, h3, h4, ⟨g', t', cs', fuel', p', q', _, _, _, _, hq', rfl⟩, rfl⟩ := hv
  refine ⟨MemPlace.row ⟨g, 0, none⟩ cs.size ++ p ++ q', ⟨g, t, cs, fuel, p, q', h1, h2, h3, h4, hq', rfl⟩, List.Nodup.sublist ((List.sublist_append_right (MemPlace.row ⟨g', 0, none⟩ cs'.size ++ p') q').append_left (MemPlace.row ⟨g, 0, none⟩ cs.size ++ p)) hnd, fun b off hm => hrows b off ?_⟩
  rcases List.mem_append.1 hm with k | k
  · exact List.mem_append_left _ k
  · exact List.mem_append_right _ (List.mem_append_right _ k)
theorem cells9 : Tryz.prog.cellsOf 9 = 1 := by kernel_rfl
theorem slit_of {H : Type} {enc : TypeId × Value → H} {w : World} {base : Nat} {spare : Nat → Bool} {held : Bool} {fuel : Nat} {cs : List Value} {x : DataW H × List MemPlace} {bs : List UInt8}
    (h : DataW.trod enc Tryz.prog w base spare held fuel 9 cs = some x) (hx : x.1 = .lit (.string bs)) : cs = [.string ⟨bs.toArray⟩] := by
  obtain ⟨s, e1, e2, _⟩ := DataW.trod_string Tryz.underlying9 h
  rw [e2] at hx
  simp at hx
  rw [e1, ← hx]
theorem g_namesR : Tryz.prog.globalNamed "demurrage/roll.names" = some 6 := by kernel_rfl
theorem t_namesR : (Tryz.prog.globals[6]?).map (·.type) = some 112 := by kernel_rfl
theorem cells112 : Tryz.prog.cellsOf 112 = 5 := by kernel_rfl
theorem namesR_laid {W : World} (hH : laidMetH Tryz.prog laidC W) : NamesR W := by
  have h := (parts_laid hH).1
  clear hH
  replace h := h.tail
  replace h := h.tail
  replace h := h.tail
  replace h := h.tail
  replace h := h.tail
  replace h := h.tail
  replace h := h.tail
  replace h := h.tail
  replace h := h.tail
  replace h := h.tail
  obtain ⟨ps, ⟨g0, t0, cs0, f0, p0, q0, hg0, ht0, hv0, hd0, _, _⟩, _, _⟩ := h
  obtain rfl := Option.some.inj (g_namesR.symm.trans hg0)
  obtain rfl := Option.some.inj (t_namesR.symm.trans ht0)
  obtain ⟨xs, m1, rfl, hx1, hlen, hn3, hel⟩ := DataW.trod_array Tryz.underlying112 hd0
  rw [cells112] at hlen
  have hc := fun i => World.var?_cell hg0 hv0 i
  simp only [Prod.mk.injEq, Rows.laid_demurrage_roll_names, DataW.agg.injEq] at hx1
  have hx := hx1.1
  clear hx1 hd0 hv0
  obtain ⟨l⟩ := cs0
  match xs, hn3, l, hlen with
  | [x0, x1, x2, x3, x4], _, [c0, c1, c2, c3, c4], _ =>
    simp only [List.map_cons, List.map_nil, List.cons.injEq, and_true] at hx
    obtain ⟨y0, y1, y2, y3, y4⟩ := hx
    have e0 : c0 = .string (rn 0) := by
      have := hel 0 (by decide)
      rw [cells9] at this
      rw [rn_0]
      simpa using slit_of this y0.symm
    have e1 : c1 = .string (rn 1) := by
      have := hel 1 (by decide)
      rw [cells9] at this
      rw [rn_1]
      simpa using slit_of this y1.symm
    have e2 : c2 = .string (rn 2) := by
      have := hel 2 (by decide)
      rw [cells9] at this
      rw [rn_2]
      simpa using slit_of this y2.symm
    have e3 : c3 = .string (rn 3) := by
      have := hel 3 (by decide)
      rw [cells9] at this
      rw [rn_3]
      simpa using slit_of this y3.symm
    have e4 : c4 = .string (rn 4) := by
      have := hel 4 (by decide)
      rw [cells9] at this
      rw [rn_4]
      simpa using slit_of this y4.symm
    intro i hi
    rw [hc i]
    match i, hi with
    | 0, _ => simpa using e0
    | 1, _ => simpa using e1
    | 2, _ => simpa using e2
    | 3, _ => simpa using e3
    | 4, _ => simpa using e4
theorem g_namesT : Tryz.prog.globalNamed "demurrage/terms.names" = some 5 := by kernel_rfl
theorem t_namesT : (Tryz.prog.globals[5]?).map (·.type) = some 105 := by kernel_rfl
theorem cells105 : Tryz.prog.cellsOf 105 = 3 := by kernel_rfl
theorem namesT_laid {W : World} (hH : laidMetH Tryz.prog laidC W) : NamesT W := by
  have h := (parts_laid hH).1
  clear hH
  replace h := h.tail
  replace h := h.tail
  replace h := h.tail
  replace h := h.tail
  replace h := h.tail
  replace h := h.tail
  replace h := h.tail
  replace h := h.tail
  replace h := h.tail
  replace h := h.tail
  replace h := h.tail
  obtain ⟨ps, ⟨g0, t0, cs0, f0, p0, q0, hg0, ht0, hv0, hd0, _, _⟩, _, _⟩ := h
  obtain rfl := Option.some.inj (g_namesT.symm.trans hg0)
  obtain rfl := Option.some.inj (t_namesT.symm.trans ht0)
  obtain ⟨xs, m1, rfl, hx1, hlen, hn3, hel⟩ := DataW.trod_array Tryz.underlying105 hd0
  rw [cells105] at hlen
  have hc := fun i => World.var?_cell hg0 hv0 i
  simp only [Prod.mk.injEq, Rows.laid_demurrage_terms_names, DataW.agg.injEq] at hx1
  have hx := hx1.1
  clear hx1 hd0 hv0
  obtain ⟨l⟩ := cs0
  match xs, hn3, l, hlen with
  | [x0, x1, x2], _, [c0, c1, c2], _ =>
    simp only [List.map_cons, List.map_nil, List.cons.injEq, and_true] at hx
    obtain ⟨y0, y1, y2⟩ := hx
    have e0 : c0 = .string (tn 0) := by
      have := hel 0 (by decide)
      rw [cells9] at this
      rw [tn_0]
      simpa using slit_of this y0.symm
    have e1 : c1 = .string (tn 1) := by
      have := hel 1 (by decide)
      rw [cells9] at this
      rw [tn_1]
      simpa using slit_of this y1.symm
    have e2 : c2 = .string (tn 2) := by
      have := hel 2 (by decide)
      rw [cells9] at this
      rw [tn_2]
      simpa using slit_of this y2.symm
    intro i hi
    rw [hc i]
    match i, hi with
    | 0, _ => simpa using e0
    | 1, _ => simpa using e1
    | 2, _ => simpa using e2
theorem star15 : "*" ++ "errors.errorString" = "*errors.errorString" := by decide
theorem row15 (u : TypeId) (h : Tryz.prog.typeName? 3 u = some "*errors.errorString") : u = 210 :=
  typeName_ptr_named (nm := "errors.errorString") (by rw [star15]; kernel_rfl) (by kernel_rfl) (by decide) u (by rw [star15]; exact h)
theorem cells1 : Tryz.prog.cellsOf 231 = 1 := by kernel_rfl
theorem gType : Tryz.prog.globalNamed "errors.errorType" = some 4 := by kernel_rfl
theorem rtype15 : (Tryz.prog.cutTypes.find? (·.1 == "internal/reflectlite.rtype")).map (·.2) = some 123 := by kernel_rfl
theorem size15 : Tryz.prog.types.size = 242 := by kernel_rfl
theorem oneRow15 : ((List.range 242).filter fun t => Tryz.prog.rowNamed t [101, 114, 114, 111, 114]) = [72] := by kernel_rfl
theorem handle15 : typeHandle Tryz.prog 72 = .pointer (some ⟨19, 72, none⟩) := by kernel_rfl
theorem type_laid {W : World} (h : handlesMet Tryz.prog [("errors.errorType", Rows.laid_errors_errorType)] W) : W.cell? ⟨4, 0, none⟩ = some (.iface 123 (.agg #[.pointer (some ⟨19, 72, none⟩)])) := by
  obtain ⟨name, u, ty, e1, e2, e3, e4, e5⟩ := h _ (List.mem_singleton.2 rfl)
  have en : name = [101, 114, 114, 111, 114] := (Option.some.inj e1).symm
  subst en
  obtain rfl := Option.some.inj (rtype15.symm.trans e2)
  have hm : ty ∈ (List.range 242).filter fun t => Tryz.prog.rowNamed t [101, 114, 114, 111, 114] := List.mem_filter.2 ⟨List.mem_range.2 (by rw [← size15]; exact e3), e4⟩
  rw [oneRow15] at hm
  obtain rfl := List.mem_singleton.1 hm
  rw [handle15] at e5
  simpa using World.var?_cell gType e5 0
theorem g_terms_errNone : Tryz.prog.globalNamed "demurrage/terms.errNone" = some 0 := by kernel_rfl
theorem t_terms_errNone : (Tryz.prog.globals[0]?).map (·.type) = some 72 := by kernel_rfl
theorem g_terms_errDay : Tryz.prog.globalNamed "demurrage/terms.errDay" = some 1 := by kernel_rfl
theorem t_terms_errDay : (Tryz.prog.globals[1]?).map (·.type) = some 72 := by kernel_rfl
theorem g_terms_errOrder : Tryz.prog.globalNamed "demurrage/terms.errOrder" = some 2 := by kernel_rfl
theorem t_terms_errOrder : (Tryz.prog.globals[2]?).map (·.type) = some 72 := by kernel_rfl
theorem g_terms_errBound : Tryz.prog.globalNamed "demurrage/terms.errBound" = some 3 := by kernel_rfl
theorem t_terms_errBound : (Tryz.prog.globals[3]?).map (·.type) = some 72 := by kernel_rfl
theorem ptr_same {W : World} {n : String} {a b : Addr} (h : W.var? Tryz.prog n = some #[.iface 210 (.pointer (some a))]) (k : W.var? Tryz.prog n = some #[.iface 210 (.pointer (some b))]) : a = b := by
  have := Option.some.inj (h.symm.trans k)
  simpa using this
theorem teerrs_laid {W : World} (hH : laidMetH Tryz.prog laidC W) : ErrsT W := by
  obtain ⟨h, ht⟩ := parts_laid hH
  clear hH
  replace h := h.tail
  replace h := h.tail
  replace h := h.tail
  replace h := h.tail
  replace h := h.tail
  replace h := h.tail
  replace h := h.tail
  replace h := h.tail
  replace h := h.tail
  replace h := h.tail
  replace h := h.tail
  replace h := h.tail
  obtain ⟨xA, yA, _, _, cxA, cyA, txA, tyA, vxA, vyA, -, -, -, -, -, -, neA, bxA, byA⟩ := laid_sentinels2 h g_terms_errNone t_terms_errNone g_terms_errDay t_terms_errDay Tryz.underlying72 row15 Tryz.underlying210 Tryz.underlying231 rfl rfl Tryz.underlying9 cells1 cells9
  obtain ⟨xB, yB, _, _, cxB, cyB, txB, tyB, vxB, vyB, -, -, -, -, -, -, neB, bxB, byB⟩ := laid_sentinels2 (laidMet.skip h) g_terms_errNone t_terms_errNone g_terms_errOrder t_terms_errOrder Tryz.underlying72 row15 Tryz.underlying210 Tryz.underlying231 rfl rfl Tryz.underlying9 cells1 cells9
  obtain ⟨xC, yC, _, _, cxC, cyC, txC, tyC, vxC, vyC, -, -, -, -, -, -, neC, bxC, byC⟩ := laid_sentinels2 (laidMet.skip (laidMet.skip h)) g_terms_errNone t_terms_errNone g_terms_errBound t_terms_errBound Tryz.underlying72 row15 Tryz.underlying210 Tryz.underlying231 rfl rfl Tryz.underlying9 cells1 cells9
  obtain ⟨xD, yD, _, _, cxD, cyD, txD, tyD, vxD, vyD, -, -, -, -, -, -, neD, bxD, byD⟩ := laid_sentinels2 h.tail g_terms_errDay t_terms_errDay g_terms_errOrder t_terms_errOrder Tryz.underlying72 row15 Tryz.underlying210 Tryz.underlying231 rfl rfl Tryz.underlying9 cells1 cells9
  obtain ⟨xE, yE, _, _, cxE, cyE, txE, tyE, vxE, vyE, -, -, -, -, -, -, neE, bxE, byE⟩ := laid_sentinels2 (laidMet.skip h.tail) g_terms_errDay t_terms_errDay g_terms_errBound t_terms_errBound Tryz.underlying72 row15 Tryz.underlying210 Tryz.underlying231 rfl rfl Tryz.underlying9 cells1 cells9
  obtain ⟨xF, yF, _, _, cxF, cyF, txF, tyF, vxF, vyF, -, -, -, -, -, -, neF, bxF, byF⟩ := laid_sentinels2 h.tail.tail g_terms_errOrder t_terms_errOrder g_terms_errBound t_terms_errBound Tryz.underlying72 row15 Tryz.underlying210 Tryz.underlying231 rfl rfl Tryz.underlying9 cells1 cells9
  obtain rfl := ptr_same vxA vxB
  obtain rfl := ptr_same vxA vxC
  obtain rfl := ptr_same vyA vxD
  obtain rfl := ptr_same vyA vxE
  obtain rfl := ptr_same vyB vyD
  obtain rfl := ptr_same vyB vxF
  obtain rfl := ptr_same vyC vyE
  obtain rfl := ptr_same vyC vyF
  refine ⟨xA, yA, yB, yC, type_laid ht, cxA, cyA, cyB, cyC, txA, tyA, tyB, tyC, ⟨?_, ?_, ?_, ?_⟩, ⟨neA, neB, neC, neD, neE, neF⟩, bxA, byA, byB, byC⟩
  · simpa using World.var?_cell g_terms_errNone vxA 0
  · simpa using World.var?_cell g_terms_errDay vyA 0
  · simpa using World.var?_cell g_terms_errOrder vyB 0
  · simpa using World.var?_cell g_terms_errBound vyC 0
/-- What the condition gives the walks. -/
theorem of_laid {W : World} (h : laidMetH Tryz.prog laidC W) : FactsT W := ⟨lens_laid h, namesR_laid h, namesT_laid h, teerrs_laid h⟩
end Go.Proofs.YtjijgcgbnmobfaaGreatDoor
