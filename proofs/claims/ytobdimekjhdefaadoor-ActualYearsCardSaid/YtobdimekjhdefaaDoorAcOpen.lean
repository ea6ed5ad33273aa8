/- What the arguments of layer 8's statements are, and what the listed table and both listed errors hold. -/
import Derived.Test.YtobdimekjhdefaaDoorAcShown
import Derived.Stop.LaidTwo
import Derived.Test.YtobdimekjhdefaaDoorRows
import Derived.Test.YtobdimekjhdefaaDoorTie
import Derived.Test.YtobdimekjhdefaaDoorCards
import Derived.ProofKit
import Derived.ChangeMaps5
import Derived.OpenShut
import Derived.ChangeOld
import Derived.Below
import Derived.LaidMore
import Derived.LaidOnce
import Derived.Stop.Joined
import Derived.MakeChecks
import Derived.SevenTiedAt
namespace Go.Proofs.YtobdimekjhdefaaDoor
open Go.ChangeShapes Go.WideShapes Go.ChangeAt Go.RowKit
set_option linter.unusedVariables false
set_option maxRecDepth 100000

theorem own : ownKnob Tryd.prog.godebug = none := by kernel_rfl
theorem laidOut : laidOutB Tryd.prog = true := by kernel_rfl

theorem i64_bd {n : Int} (h : (Lit.int .i64 n).wf = true) : -9223372036854775808 ≤ n ∧ n < 9223372036854775808 := by
  have hmin : IntKind.i64.min = -9223372036854775808 := rfl
  have hmax : IntKind.i64.max = 9223372036854775807 := rfl
  simp only [Lit.wf, Bool.and_eq_true, decide_eq_true_eq] at h
  omega
theorem cells3 : Tryd.prog.cellsOf 3 = 1 := by kernel_rfl
theorem u16_bd {n : Int} (h : (Lit.int .u16 n).wf = true) : 0 ≤ n ∧ n < 65536 := by
  have hmin : IntKind.u16.min = 0 := rfl
  have hmax : IntKind.u16.max = 65535 := rfl
  simp only [Lit.wf, Bool.and_eq_true, decide_eq_true_eq] at h
  omega
theorem cells34 : Tryd.prog.cellsOf 34 = 1 := by kernel_rfl

section
variable {H : Type} {enc : TypeId × Value → H} {w : World} {base : Nat} {spare : Nat → Bool} {held : Bool} {fuel : Nat} {cs : List Value} {x : DataW H × List MemPlace}
theorem cell_i64 {t : TypeId} (ht : Tryd.prog.underlying t = some (.int .i64)) (h : DataW.trod enc Tryd.prog w base spare held fuel t cs = some x) : ∃ n, cs = [.int .i64 n] ∧ -9223372036854775808 ≤ n ∧ n < 9223372036854775808 := by
  obtain ⟨n, hc, _, hw⟩ := DataW.trod_int ht h
  exact ⟨n, hc, i64_bd hw⟩
theorem cell_u16 {t : TypeId} (ht : Tryd.prog.underlying t = some (.int .u16)) (h : DataW.trod enc Tryd.prog w base spare held fuel t cs = some x) : ∃ n, cs = [.int .u16 n] ∧ 0 ≤ n ∧ n < 65536 := by
  obtain ⟨n, hc, _, hw⟩ := DataW.trod_int ht h
  exact ⟨n, hc, u16_bd hw⟩
theorem cells36 : Tryd.prog.cellsOf 36 = 4 := by kernel_rfl
theorem cells_years (h : DataW.trod enc Tryd.prog w base spare held fuel 36 cs = some x) :
    ∃ x0 x1 x2 x3, cs = [.int .u16 x0, .int .u16 x1, .int .u16 x2, .int .u16 x3] ∧ (0 ≤ x0 ∧ x0 < 65536) ∧ (0 ≤ x1 ∧ x1 < 65536) ∧ (0 ≤ x2 ∧ x2 < 65536) ∧ (0 ≤ x3 ∧ x3 < 65536) := by
  obtain ⟨xs, k, _, _, hl, hx, hf⟩ := DataW.trod_struct Tryd.underlying36 h
  rw [cells36] at hl
  have f0 := hf 0 _ rfl
  have f1 := hf 1 _ rfl
  have f2 := hf 2 _ rfl
  have f3 := hf 3 _ rfl
  clear hf h
  match cs, hl with
  | [c0, c1, c2, c3], _ =>
    have hx2 : xs.length = 4 := hx
    match xs, hx2 with
    | [y0, y1, y2, y3], _ =>
      change DataW.trod enc Tryd.prog w base spare held k 34 (([c0, c1, c2, c3].drop 0).take (Tryd.prog.cellsOf 34)) = some y0 at f0
      rw [cells34] at f0
      change DataW.trod enc Tryd.prog w base spare held k 34 (([c0, c1, c2, c3].drop 1).take (Tryd.prog.cellsOf 34)) = some y1 at f1
      rw [cells34] at f1
      change DataW.trod enc Tryd.prog w base spare held k 34 (([c0, c1, c2, c3].drop 2).take (Tryd.prog.cellsOf 34)) = some y2 at f2
      rw [cells34] at f2
      change DataW.trod enc Tryd.prog w base spare held k 34 (([c0, c1, c2, c3].drop 3).take (Tryd.prog.cellsOf 34)) = some y3 at f3
      rw [cells34] at f3
      obtain ⟨x0, e0, g0⟩ := cell_u16 Tryd.underlying34 f0
      obtain ⟨x1, e1, g1⟩ := cell_u16 Tryd.underlying34 f1
      obtain ⟨x2, e2, g2⟩ := cell_u16 Tryd.underlying34 f2
      obtain ⟨x3, e3, g3⟩ := cell_u16 Tryd.underlying34 f3
      simp at e0 e1 e2 e3
      subst e0
      subst e1
      subst e2
      subst e3
      exact ⟨x0, x1, x2, x3, rfl, g0, g1, g2, g3⟩
end

section
variable {H : Type} {enc : TypeId × Value → H} {w : World} {base : Nat} {spare : Nat → Bool} {held : Bool} {r : Reach} {b0 : Nat} {v : Value} {d : DataW H} {p : List MemPlace}
theorem open_i64 (hv : Value.okWide Tryd.prog w r b0 3 v) (h : DataW.Trod enc Tryd.prog w base spare held 3 v d p) : ∃ a, v = .int .i64 a ∧ -9223372036854775808 ≤ a ∧ a < 9223372036854775808 := by
  obtain ⟨a, rfl, _, _, wa⟩ := open_int Tryd.underlying3 hv h
  exact ⟨a, rfl, i64_bd wa⟩
theorem open_u16 (hv : Value.okWide Tryd.prog w r b0 34 v) (h : DataW.Trod enc Tryd.prog w base spare held 34 v d p) : ∃ a, v = .int .u16 a ∧ 0 ≤ a ∧ a < 65536 := by
  obtain ⟨a, rfl, _, _, wa⟩ := open_int Tryd.underlying34 hv h
  exact ⟨a, rfl, u16_bd wa⟩
theorem open_years (hv : Value.okWide Tryd.prog w r b0 36 v) (h : DataW.Trod enc Tryd.prog w base spare held 36 v d p) :
    ∃ x0 x1 x2 x3, v = .agg #[.int .u16 x0, .int .u16 x1, .int .u16 x2, .int .u16 x3] ∧ (0 ≤ x0 ∧ x0 < 65536) ∧ (0 ≤ x1 ∧ x1 < 65536) ∧ (0 ≤ x2 ∧ x2 < 65536) ∧ (0 ≤ x3 ∧ x3 < 65536) := by
  obtain ⟨cs, rfl, _⟩ := okWide_struct Tryd.underlying36 hv
  obtain ⟨fuel, hf⟩ := h
  obtain ⟨x0, x1, x2, x3, hc, hb⟩ := cells_years hf
  refine ⟨x0, x1, x2, x3, ?_, hb⟩
  simp [Value.cells] at hc
  obtain ⟨l⟩ := cs
  simp at hc
  rw [hc]
end
/-- The list of the row. -/
def laidC : List (String × DataW Unit) := [("demurrage/civil.lengths", Rows.laid_demurrage_civil_lengths), ("demurrage/actual.errDay", Rows.laid_demurrage_actual_errDay), ("demurrage/actual.errOrder", Rows.laid_demurrage_actual_errOrder)]
theorem gLens : Tryd.prog.globalNamed "demurrage/civil.lengths" = some 4 := by kernel_rfl
theorem tLens : (Tryd.prog.globals[4]?).map (·.type) = some 125 := by kernel_rfl
theorem cells12 : Tryd.prog.cellsOf 125 = 12 := by kernel_rfl
/-- The door's own heap meets the condition. -/
theorem door_met (os : Os) (args : Array Value) : laidMetH Tryd.prog laidC ((World.doorLaid Tryd.prog 52 os).forCall (fun _ _ => 0) ⟨#[], args, []⟩).memory :=
  laidMetH_of_parts3 (fuel := 8) (laidMet_of_run' 8 (by kernel_rfl) (by kernel_rfl)) (by kernel_rfl) (by kernel_rfl)
theorem lit_of {H : Type} {enc : TypeId × Value → H} {w : World} {base : Nat} {spare : Nat → Bool} {held : Bool} {fuel : Nat} {cs : List Value} {x : DataW H × List MemPlace} {n : Int}
    (h : DataW.trod enc Tryd.prog w base spare held fuel 3 cs = some x) (hx : x.1 = .lit (.int .i64 n)) : cs = [.int .i64 n] := by
  obtain ⟨k, e1, e2, _⟩ := DataW.trod_int Tryd.underlying3 h
  rw [e2] at hx
  simp at hx
  rw [e1, hx]
/-- What the condition gives the walks. -/
theorem lens_laid {W : World} (h : laidMetH Tryd.prog laidC W) : Lens W := by
  rw [MakeChecks.laidMetH_plain _ _ _ (by kernel_rfl)] at h
  obtain ⟨ps, ⟨g0, t0, cs0, f0, p0, q0, hg0, ht0, hv0, hd0, _, _⟩, _, _⟩ := h
  obtain rfl := Option.some.inj (gLens.symm.trans hg0)
  obtain rfl := Option.some.inj (tLens.symm.trans ht0)
  obtain ⟨xs, m1, rfl, hx1, hlen, hn3, hel⟩ := DataW.trod_array Tryd.underlying125 hd0
  rw [cells12] at hlen
  have hc := fun i => World.var?_cell hg0 hv0 i
  simp only [Prod.mk.injEq, Rows.laid_demurrage_civil_lengths, DataW.agg.injEq] at hx1
  have hx := hx1.1
  clear hx1 hd0 hv0
  obtain ⟨l⟩ := cs0
  match xs, hn3, l, hlen with
  | [x0, x1, x2, x3, x4, x5, x6, x7, x8, x9, x10, x11], _, [c0, c1, c2, c3, c4, c5, c6, c7, c8, c9, c10, c11], _ =>
    simp only [List.map_cons, List.map_nil, List.cons.injEq, and_true] at hx
    obtain ⟨y0, y1, y2, y3, y4, y5, y6, y7, y8, y9, y10, y11⟩ := hx
    have e0 : c0 = .int .i64 31 := by
      have := hel 0 (by decide)
      rw [cells3] at this
      simpa using lit_of this y0.symm
    have e1 : c1 = .int .i64 28 := by
      have := hel 1 (by decide)
      rw [cells3] at this
      simpa using lit_of this y1.symm
    have e2 : c2 = .int .i64 31 := by
      have := hel 2 (by decide)
      rw [cells3] at this
      simpa using lit_of this y2.symm
    have e3 : c3 = .int .i64 30 := by
      have := hel 3 (by decide)
      rw [cells3] at this
      simpa using lit_of this y3.symm
    have e4 : c4 = .int .i64 31 := by
      have := hel 4 (by decide)
      rw [cells3] at this
      simpa using lit_of this y4.symm
    have e5 : c5 = .int .i64 30 := by
      have := hel 5 (by decide)
      rw [cells3] at this
      simpa using lit_of this y5.symm
    have e6 : c6 = .int .i64 31 := by
      have := hel 6 (by decide)
      rw [cells3] at this
      simpa using lit_of this y6.symm
    have e7 : c7 = .int .i64 31 := by
      have := hel 7 (by decide)
      rw [cells3] at this
      simpa using lit_of this y7.symm
    have e8 : c8 = .int .i64 30 := by
      have := hel 8 (by decide)
      rw [cells3] at this
      simpa using lit_of this y8.symm
    have e9 : c9 = .int .i64 31 := by
      have := hel 9 (by decide)
      rw [cells3] at this
      simpa using lit_of this y9.symm
    have e10 : c10 = .int .i64 30 := by
      have := hel 10 (by decide)
      rw [cells3] at this
      simpa using lit_of this y10.symm
    have e11 : c11 = .int .i64 31 := by
      have := hel 11 (by decide)
      rw [cells3] at this
      simpa using lit_of this y11.symm
    intro i hi
    rw [hc i]
    match i, hi with
    | 0, _ => simpa [l0] using e0
    | 1, _ => simpa [l0] using e1
    | 2, _ => simpa [l0] using e2
    | 3, _ => simpa [l0] using e3
    | 4, _ => simpa [l0] using e4
    | 5, _ => simpa [l0] using e5
    | 6, _ => simpa [l0] using e6
    | 7, _ => simpa [l0] using e7
    | 8, _ => simpa [l0] using e8
    | 9, _ => simpa [l0] using e9
    | 10, _ => simpa [l0] using e10
    | 11, _ => simpa [l0] using e11
theorem star8 : "*" ++ "errors.errorString" = "*errors.errorString" := by decide
theorem row8 (u : TypeId) (h : Tryd.prog.typeName? 3 u = some "*errors.errorString") : u = 127 :=
  typeName_ptr_named (nm := "errors.errorString") (by rw [star8]; kernel_rfl) (by kernel_rfl) (by decide) u (by rw [star8]; exact h)
theorem gDay : Tryd.prog.globalNamed "demurrage/actual.errDay" = some 0 := by kernel_rfl
theorem gOrder : Tryd.prog.globalNamed "demurrage/actual.errOrder" = some 1 := by kernel_rfl
theorem tDay : (Tryd.prog.globals[0]?).map (·.type) = some 49 := by kernel_rfl
theorem tOrder : (Tryd.prog.globals[1]?).map (·.type) = some 49 := by kernel_rfl
theorem cells1 : Tryd.prog.cellsOf 153 = 1 := by kernel_rfl
theorem cellsS : Tryd.prog.cellsOf 9 = 1 := by kernel_rfl
theorem errs_laid {W : World} (h : laidMetH Tryd.prog laidC W) : Errs W := by
  rw [MakeChecks.laidMetH_plain _ _ _ (by kernel_rfl)] at h
  obtain ⟨a0, a1, s0, s1, c0, c1, t0, t1, hv0, hv1, -, -, -, -, -, -, hne, hb0, hb1⟩ := laid_sentinels2 h.tail gDay tDay gOrder tOrder Tryd.underlying49 row8 Tryd.underlying127 Tryd.underlying153 rfl rfl Tryd.underlying9 cells1 cellsS
  exact ⟨a0, a1, c0, c1, t0, t1, by simpa using World.var?_cell gDay hv0 0, by simpa using World.var?_cell gOrder hv1 0, hne, hb0, hb1⟩
/-- What the condition gives the walks. -/
theorem of_laid {W : World} (h : laidMetH Tryd.prog laidC W) : Facts W := ⟨lens_laid h, errs_laid h⟩
end Go.Proofs.YtobdimekjhdefaaDoor
