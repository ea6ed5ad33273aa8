/- What the arguments of layer 10's statements are, and what the listed table, handle and errors hold. -/
import Derived.Test.YtkmchbllnfoccaaGreatDoorCoShown
import Derived.Stop.LaidErr
import Derived.Stop.LaidTwo
import Derived.LaidHandle
import Derived.LaidLaws
import Derived.ChangeSlices
import Derived.Test.YtkmchbllnfoccaaGreatDoorRows
import Derived.Test.YtkmchbllnfoccaaGreatDoorTie
import Derived.Test.YtkmchbllnfoccaaGreatDoorCards
import Derived.ProofKit
import Derived.ChangeMaps5
import Derived.OpenShut
import Derived.ChangeOld
import Derived.Below
import Derived.LaidMore
import Derived.LaidOnce
import Derived.Stop.Joined
import Derived.MakeChecks
import Derived.SevenTiedAt
namespace Go.Proofs.YtkmchbllnfoccaaGreatDoor
open Go.ChangeShapes Go.WideShapes Go.ChangeAt Go.RowKit
set_option linter.unusedVariables false
set_option maxRecDepth 100000

theorem own : ownKnob Tryz.prog.godebug = none := by kernel_rfl
theorem laidOut : laidOutB Tryz.prog = true := by kernel_rfl

theorem i64_bd {n : Int} (h : (Lit.int .i64 n).wf = true) : -9223372036854775808 ≤ n ∧ n < 9223372036854775808 := by
  have hmin : IntKind.i64.min = -9223372036854775808 := rfl
  have hmax : IntKind.i64.max = 9223372036854775807 := rfl
  simp only [Lit.wf, Bool.and_eq_true, decide_eq_true_eq] at h
  omega
theorem cells3 : Tryz.prog.cellsOf 3 = 1 := by kernel_rfl
theorem u8_bd {n : Int} (h : (Lit.int .u8 n).wf = true) : 0 ≤ n ∧ n < 256 := by
  have hmin : IntKind.u8.min = 0 := rfl
  have hmax : IntKind.u8.max = 255 := rfl
  simp only [Lit.wf, Bool.and_eq_true, decide_eq_true_eq] at h
  omega
theorem cells5 : Tryz.prog.cellsOf 5 = 1 := by kernel_rfl
theorem cells4 : Tryz.prog.cellsOf 4 = 1 := by kernel_rfl

section
variable {H : Type} {enc : TypeId × Value → H} {w : World} {base : Nat} {spare : Nat → Bool} {held : Bool} {fuel : Nat} {cs : List Value} {x : DataW H × List MemPlace}
theorem cell_i64 {t : TypeId} (ht : Tryz.prog.underlying t = some (.int .i64)) (h : DataW.trod enc Tryz.prog w base spare held fuel t cs = some x) : ∃ n, cs = [.int .i64 n] ∧ -9223372036854775808 ≤ n ∧ n < 9223372036854775808 := by
  obtain ⟨n, hc, _, hw⟩ := DataW.trod_int ht h
  exact ⟨n, hc, i64_bd hw⟩
theorem cell_u8 {t : TypeId} (ht : Tryz.prog.underlying t = some (.int .u8)) (h : DataW.trod enc Tryz.prog w base spare held fuel t cs = some x) : ∃ n, cs = [.int .u8 n] ∧ 0 ≤ n ∧ n < 256 := by
  obtain ⟨n, hc, _, hw⟩ := DataW.trod_int ht h
  exact ⟨n, hc, u8_bd hw⟩
theorem cell_bool {t : TypeId} (ht : Tryz.prog.underlying t = some .bool) (h : DataW.trod enc Tryz.prog w base spare held fuel t cs = some x) : ∃ b : Bool, cs = [.bool b] := by
  obtain ⟨b, hc, _⟩ := DataW.trod_bool ht h
  exact ⟨b, hc⟩
end

section
variable {H : Type} {enc : TypeId × Value → H} {w : World} {base : Nat} {spare : Nat → Bool} {held : Bool} {r : Reach} {b0 : Nat} {v : Value} {d : DataW H} {p : List MemPlace}
theorem open_i64 (hv : Value.okWide Tryz.prog w r b0 3 v) (h : DataW.Trod enc Tryz.prog w base spare held 3 v d p) : ∃ a, v = .int .i64 a ∧ -9223372036854775808 ≤ a ∧ a < 9223372036854775808 := by
  obtain ⟨a, rfl, _, _, wa⟩ := open_int Tryz.underlying3 hv h
  exact ⟨a, rfl, i64_bd wa⟩
theorem open_u8 (hv : Value.okWide Tryz.prog w r b0 5 v) (h : DataW.Trod enc Tryz.prog w base spare held 5 v d p) : ∃ a, v = .int .u8 a ∧ 0 ≤ a ∧ a < 256 := by
  obtain ⟨a, rfl, _, _, wa⟩ := open_int Tryz.underlying5 hv h
  exact ⟨a, rfl, u8_bd wa⟩
end
/-- The list of the row. -/
def laidC : List (String × DataW Unit) := [("demurrage/civil.lengths", Rows.laid_demurrage_civil_lengths), ("errors.errorType", Rows.laid_errors_errorType), ("demurrage/actual.errDay", Rows.laid_demurrage_actual_errDay), ("demurrage/actual.errOrder", Rows.laid_demurrage_actual_errOrder), ("demurrage/icma.errNoDay", Rows.laid_demurrage_icma_errNoDay), ("demurrage/icma.errOrder", Rows.laid_demurrage_icma_errOrder), ("demurrage/icma.errMany", Rows.laid_demurrage_icma_errMany), ("demurrage/icma.errFalls", Rows.laid_demurrage_icma_errFalls), ("demurrage/icma.errEmpty", Rows.laid_demurrage_icma_errEmpty), ("demurrage/icma.errFreq", Rows.laid_demurrage_icma_errFreq), ("demurrage/icma.errOutside", Rows.laid_demurrage_icma_errOutside)]
theorem gLens : Tryz.prog.globalNamed "demurrage/civil.lengths" = some 12 := by kernel_rfl
theorem tLens : (Tryz.prog.globals[12]?).map (·.type) = some 192 := by kernel_rfl
theorem cells12 : Tryz.prog.cellsOf 192 = 12 := by kernel_rfl
/-- The door's own heap meets the condition. -/
theorem door_met (os : Os) (args : Array Value) : laidMetH Tryz.prog laidC ((World.doorLaid Tryz.prog 192 os).forCall (fun _ _ => 0) ⟨#[], args, []⟩).memory :=
  laidMetH_of_parts3 (fuel := 8) (laidMet_of_run' 8 (by kernel_rfl) (by kernel_rfl)) (by kernel_rfl) (by kernel_rfl)
theorem lit_of {H : Type} {enc : TypeId × Value → H} {w : World} {base : Nat} {spare : Nat → Bool} {held : Bool} {fuel : Nat} {cs : List Value} {x : DataW H × List MemPlace} {n : Int}
    (h : DataW.trod enc Tryz.prog w base spare held fuel 3 cs = some x) (hx : x.1 = .lit (.int .i64 n)) : cs = [.int .i64 n] := by
  obtain ⟨k, e1, e2, _⟩ := DataW.trod_int Tryz.underlying3 h
  rw [e2] at hx
  simp at hx
  rw [e1, hx]
/-- What the condition gives the walks. -/
theorem parts_laid {W : World} (h : laidMetH Tryz.prog laidC W) : laidMet Tryz.prog [("demurrage/civil.lengths", Rows.laid_demurrage_civil_lengths), ("demurrage/actual.errDay", Rows.laid_demurrage_actual_errDay), ("demurrage/actual.errOrder", Rows.laid_demurrage_actual_errOrder), ("demurrage/icma.errNoDay", Rows.laid_demurrage_icma_errNoDay), ("demurrage/icma.errOrder", Rows.laid_demurrage_icma_errOrder), ("demurrage/icma.errMany", Rows.laid_demurrage_icma_errMany), ("demurrage/icma.errFalls", Rows.laid_demurrage_icma_errFalls), ("demurrage/icma.errEmpty", Rows.laid_demurrage_icma_errEmpty), ("demurrage/icma.errFreq", Rows.laid_demurrage_icma_errFreq), ("demurrage/icma.errOutside", Rows.laid_demurrage_icma_errOutside)] W ∧ handlesMet Tryz.prog [("errors.errorType", Rows.laid_errors_errorType)] W := h
theorem lens_laid {W : World} (hH : laidMetH Tryz.prog laidC W) : Lens W := by
  have h := (parts_laid hH).1
  clear hH
  obtain ⟨ps, ⟨g0, t0, cs0, f0, p0, q0, hg0, ht0, hv0, hd0, _, _⟩, _, _⟩ := h
  obtain rfl := Option.some.inj (gLens.symm.trans hg0)
  obtain rfl := Option.some.inj (tLens.symm.trans ht0)
  obtain ⟨xs, m1, rfl, hx1, hlen, hn3, hel⟩ := DataW.trod_array Tryz.underlying192 hd0
  rw [cells12] at hlen
  have hc := fun i => World.var?_cell hg0 hv0 i
  simp only [Prod.mk.injEq, Rows.laid_demurrage_civil_lengths, DataW.agg.injEq] at hx1
  have hx := hx1.1
  clear hx1 hd0 hv0
  obtain ⟨l⟩ := cs0
  match xs, hn3, l, hlen with
  | [x0, x1, x2, x3, x4, x5, x6, x7, x8, x9, x10, x11], _, [c0, c1, c2, c3, c4, c5, c6, c7, c8, c9, c10, c11], _ =>
    simp only [List.map_cons, List.map_nil, List.cons.injEq, and_true] at hx
    obtain ⟨y0, y1, y2, y3, y4, y5, y6, y7, y8, y9, y10, y11⟩ := hx
    have e0 : c0 = .int .i64 31 := by
      have := hel 0 (by decide)
      rw [cells3] at this
      simpa using lit_of this y0.symm
    have e1 : c1 = .int .i64 28 := by
      have := hel 1 (by decide)
      rw [cells3] at this
      simpa using lit_of this y1.symm
    have e2 : c2 = .int .i64 31 := by
      have := hel 2 (by decide)
      rw [cells3] at this
      simpa using lit_of this y2.symm
    have e3 : c3 = .int .i64 30 := by
      have := hel 3 (by decide)
      rw [cells3] at this
      simpa using lit_of this y3.symm
    have e4 : c4 = .int .i64 31 := by
      have := hel 4 (by decide)
      rw [cells3] at this
      simpa using lit_of this y4.symm
    have e5 : c5 = .int .i64 30 := by
      have := hel 5 (by decide)
      rw [cells3] at this
      simpa using lit_of this y5.symm
    have e6 : c6 = .int .i64 31 := by
      have := hel 6 (by decide)
      rw [cells3] at this
      simpa using lit_of this y6.symm
    have e7 : c7 = .int .i64 31 := by
      have := hel 7 (by decide)
      rw [cells3] at this
      simpa using lit_of this y7.symm
    have e8 : c8 = .int .i64 30 := by
      have := hel 8 (by decide)
      rw [cells3] at this
      simpa using lit_of this y8.symm
    have e9 : c9 = .int .i64 31 := by
      have := hel 9 (by decide)
      rw [cells3] at this
      simpa using lit_of this y9.symm
    have e10 : c10 = .int .i64 30 := by
      have := hel 10 (by decide)
      rw [cells3] at this
      simpa using lit_of this y10.symm
    have e11 : c11 = .int .i64 31 := by
      have := hel 11 (by decide)
      rw [cells3] at this
      simpa using lit_of this y11.symm
    intro i hi
    rw [hc i]
    match i, hi with
    | 0, _ => simpa [l0] using e0
    | 1, _ => simpa [l0] using e1
    | 2, _ => simpa [l0] using e2
    | 3, _ => simpa [l0] using e3
    | 4, _ => simpa [l0] using e4
    | 5, _ => simpa [l0] using e5
    | 6, _ => simpa [l0] using e6
    | 7, _ => simpa [l0] using e7
    | 8, _ => simpa [l0] using e8
    | 9, _ => simpa [l0] using e9
    | 10, _ => simpa [l0] using e10
    | 11, _ => simpa [l0] using e11

theorem add_plain10 (b off j : Nat) : (⟨b, off, none⟩ : Addr).add j = ⟨b, off + j, none⟩ := by simp [Addr.add]
theorem cells22 : Tryz.prog.cellsOf 22 = 1 := by kernel_rfl
theorem cells9 : Tryz.prog.cellsOf 9 = 1 := by kernel_rfl
section
variable {H : Type} {enc : TypeId × Value → H} {w : World} {base : Nat} {spare : Nat → Bool} {held : Bool} {fuel : Nat} {cs : List Value} {x : DataW H × List MemPlace}
theorem cell_ints (h : DataW.trod enc Tryz.prog w base spare held fuel 22 cs = some x) : ∃ ao n cap X, cs = [.slice ao n cap] ∧ RowAt w ao X n cap := by
  rcases open_ints Tryz.underlying22 Tryz.underlying3 cells3 h with ⟨rfl, _⟩ | ⟨⟨b, off, sp⟩, len, cap, zs, rfl, _, hl, _, hz, _, hc, _⟩
  · exact ⟨none, 0, 0, fun _ => 0, rfl, Nat.le_refl _, fun k => absurd k (by omega)⟩
  · have hzl : len ≤ zs.length := by rw [hz]; split <;> omega
    refine ⟨some ⟨b, off, sp⟩, len, cap, fun i => zs.getD i 0, rfl, hl, fun k => ?_⟩
    have h0 := hc 0 (by omega)
    have hs : sp = none := by
      cases sp with
      | none => rfl
      | some q =>
        have := World.cell?_spot h0
        simp [Addr.add] at this
    subst hs
    exact ⟨b, off, rfl, fun j hj => by have := hc j (by omega); rwa [add_plain10] at this⟩
theorem cell_str (h : DataW.trod enc Tryz.prog w base spare held fuel 9 cs = some x) : ∃ s, cs = [.string s] := by
  obtain ⟨s, hc, _⟩ := DataW.trod_string Tryz.underlying9 h
  exact ⟨s, hc⟩
theorem cells24 : Tryz.prog.cellsOf 24 = 4 := by kernel_rfl
theorem cells_side (h : DataW.trod enc Tryz.prog w base spare held fuel 24 cs = some x) :
    ∃ x0 x1 x2 ox3 nx3 cx3 Xx3, cs = [.bool x0, .int .i64 x1, .int .i64 x2, .slice ox3 nx3 cx3] ∧ (-9223372036854775808 ≤ x1 ∧ x1 < 9223372036854775808) ∧ (-9223372036854775808 ≤ x2 ∧ x2 < 9223372036854775808) ∧ RowAt w ox3 Xx3 nx3 cx3 := by
  obtain ⟨xs, k, _, _, hl, hx, hf⟩ := DataW.trod_struct Tryz.underlying24 h
  rw [cells24] at hl
  have f0 := hf 0 _ rfl
  have f1 := hf 1 _ rfl
  have f2 := hf 2 _ rfl
  have f3 := hf 3 _ rfl
  clear hf h
  match cs, hl with
  | [c0, c1, c2, c3], _ =>
    have hx2 : xs.length = 4 := hx
    match xs, hx2 with
    | [y0, y1, y2, y3], _ =>
      change DataW.trod enc Tryz.prog w base spare held k 4 (([c0, c1, c2, c3].drop 0).take (Tryz.prog.cellsOf 4)) = some y0 at f0
      rw [cells4] at f0
      change DataW.trod enc Tryz.prog w base spare held k 3 (([c0, c1, c2, c3].drop 1).take (Tryz.prog.cellsOf 3)) = some y1 at f1
      rw [cells3] at f1
      change DataW.trod enc Tryz.prog w base spare held k 3 (([c0, c1, c2, c3].drop 2).take (Tryz.prog.cellsOf 3)) = some y2 at f2
      rw [cells3] at f2
      change DataW.trod enc Tryz.prog w base spare held k 22 (([c0, c1, c2, c3].drop 3).take (Tryz.prog.cellsOf 22)) = some y3 at f3
      rw [cells22] at f3
      obtain ⟨x0, e0⟩ := cell_bool Tryz.underlying4 f0
      obtain ⟨x1, e1, g1_0⟩ := cell_i64 Tryz.underlying3 f1
      obtain ⟨x2, e2, g2_0⟩ := cell_i64 Tryz.underlying3 f2
      obtain ⟨ox3, nx3, cx3, Xx3, e3, g3_0⟩ := cell_ints f3
      simp at e0 e1 e2 e3
      subst e0
      subst e1
      subst e2
      subst e3
      exact ⟨x0, x1, x2, ox3, nx3, cx3, Xx3, rfl, g1_0, g2_0, g3_0⟩
theorem cells26 : Tryz.prog.cellsOf 26 = 8 := by kernel_rfl
theorem cells_tells (h : DataW.trod enc Tryz.prog w base spare held fuel 26 cs = some x) :
    ∃ x0 x1 x2 x3_0 x3_1 x3_2 ox3_3 nx3_3 cx3_3 Xx3_3 sx4, cs = [.int .i64 x0, .int .i64 x1, .int .i64 x2, .bool x3_0, .int .i64 x3_1, .int .i64 x3_2, .slice ox3_3 nx3_3 cx3_3, .string sx4] ∧ (-9223372036854775808 ≤ x0 ∧ x0 < 9223372036854775808) ∧ (-9223372036854775808 ≤ x1 ∧ x1 < 9223372036854775808) ∧ (-9223372036854775808 ≤ x2 ∧ x2 < 9223372036854775808) ∧ (-9223372036854775808 ≤ x3_1 ∧ x3_1 < 9223372036854775808) ∧ (-9223372036854775808 ≤ x3_2 ∧ x3_2 < 9223372036854775808) ∧ RowAt w ox3_3 Xx3_3 nx3_3 cx3_3 := by
  obtain ⟨xs, k, _, _, hl, hx, hf⟩ := DataW.trod_struct Tryz.underlying26 h
  rw [cells26] at hl
  have f0 := hf 0 _ rfl
  have f1 := hf 1 _ rfl
  have f2 := hf 2 _ rfl
  have f3 := hf 3 _ rfl
  have f4 := hf 4 _ rfl
  clear hf h
  match cs, hl with
  | [c0, c1, c2, c3, c4, c5, c6, c7], _ =>
    have hx2 : xs.length = 5 := hx
    match xs, hx2 with
    | [y0, y1, y2, y3, y4], _ =>
      change DataW.trod enc Tryz.prog w base spare held k 3 (([c0, c1, c2, c3, c4, c5, c6, c7].drop 0).take (Tryz.prog.cellsOf 3)) = some y0 at f0
      rw [cells3] at f0
      change DataW.trod enc Tryz.prog w base spare held k 3 (([c0, c1, c2, c3, c4, c5, c6, c7].drop 1).take (Tryz.prog.cellsOf 3)) = some y1 at f1
      rw [cells3] at f1
      change DataW.trod enc Tryz.prog w base spare held k 3 (([c0, c1, c2, c3, c4, c5, c6, c7].drop 2).take (Tryz.prog.cellsOf 3)) = some y2 at f2
      rw [cells3] at f2
      change DataW.trod enc Tryz.prog w base spare held k 24 (([c0, c1, c2, c3, c4, c5, c6, c7].drop 3).take (Tryz.prog.cellsOf 24)) = some y3 at f3
      rw [cells24] at f3
      change DataW.trod enc Tryz.prog w base spare held k 9 (([c0, c1, c2, c3, c4, c5, c6, c7].drop 7).take (Tryz.prog.cellsOf 9)) = some y4 at f4
      rw [cells9] at f4
      obtain ⟨x0, e0, g0_0⟩ := cell_i64 Tryz.underlying3 f0
      obtain ⟨x1, e1, g1_0⟩ := cell_i64 Tryz.underlying3 f1
      obtain ⟨x2, e2, g2_0⟩ := cell_i64 Tryz.underlying3 f2
      obtain ⟨x3_0, x3_1, x3_2, ox3_3, nx3_3, cx3_3, Xx3_3, e3, g3_0, g3_1, g3_2⟩ := cells_side f3
      obtain ⟨sx4, e4⟩ := cell_str f4
      simp at e0 e1 e2 e3 e4
      subst e0
      subst e1
      subst e2
      obtain ⟨rfl, rfl, rfl, rfl⟩ := e3
      subst e4
      exact ⟨x0, x1, x2, x3_0, x3_1, x3_2, ox3_3, nx3_3, cx3_3, Xx3_3, sx4, rfl, g0_0, g1_0, g2_0, g3_0, g3_1, g3_2⟩
theorem cells43 : Tryz.prog.cellsOf 43 = 11 := by kernel_rfl
theorem cells_beside (h : DataW.trod enc Tryz.prog w base spare held fuel 43 cs = some x) :
    ∃ x0 x1 x2 x3_0 x3_1 x3_2 ox3_3 nx3_3 cx3_3 Xx3_3 x4_0 x4_1 x4_2 ox4_3 nx4_3 cx4_3 Xx4_3, cs = [.int .u8 x0, .int .i64 x1, .int .i64 x2, .bool x3_0, .int .i64 x3_1, .int .i64 x3_2, .slice ox3_3 nx3_3 cx3_3, .bool x4_0, .int .i64 x4_1, .int .i64 x4_2, .slice ox4_3 nx4_3 cx4_3] ∧ (0 ≤ x0 ∧ x0 < 256) ∧ (-9223372036854775808 ≤ x1 ∧ x1 < 9223372036854775808) ∧ (-9223372036854775808 ≤ x2 ∧ x2 < 9223372036854775808) ∧ (-9223372036854775808 ≤ x3_1 ∧ x3_1 < 9223372036854775808) ∧ (-9223372036854775808 ≤ x3_2 ∧ x3_2 < 9223372036854775808) ∧ RowAt w ox3_3 Xx3_3 nx3_3 cx3_3 ∧ (-9223372036854775808 ≤ x4_1 ∧ x4_1 < 9223372036854775808) ∧ (-9223372036854775808 ≤ x4_2 ∧ x4_2 < 9223372036854775808) ∧ RowAt w ox4_3 Xx4_3 nx4_3 cx4_3 := by
  obtain ⟨xs, k, _, _, hl, hx, hf⟩ := DataW.trod_struct Tryz.underlying43 h
  rw [cells43] at hl
  have f0 := hf 0 _ rfl
  have f1 := hf 1 _ rfl
  have f2 := hf 2 _ rfl
  have f3 := hf 3 _ rfl
  have f4 := hf 4 _ rfl
  clear hf h
  match cs, hl with
  | [c0, c1, c2, c3, c4, c5, c6, c7, c8, c9, c10], _ =>
    have hx2 : xs.length = 5 := hx
    match xs, hx2 with
    | [y0, y1, y2, y3, y4], _ =>
      change DataW.trod enc Tryz.prog w base spare held k 5 (([c0, c1, c2, c3, c4, c5, c6, c7, c8, c9, c10].drop 0).take (Tryz.prog.cellsOf 5)) = some y0 at f0
      rw [cells5] at f0
      change DataW.trod enc Tryz.prog w base spare held k 3 (([c0, c1, c2, c3, c4, c5, c6, c7, c8, c9, c10].drop 1).take (Tryz.prog.cellsOf 3)) = some y1 at f1
      rw [cells3] at f1
      change DataW.trod enc Tryz.prog w base spare held k 3 (([c0, c1, c2, c3, c4, c5, c6, c7, c8, c9, c10].drop 2).take (Tryz.prog.cellsOf 3)) = some y2 at f2
      rw [cells3] at f2
      change DataW.trod enc Tryz.prog w base spare held k 24 (([c0, c1, c2, c3, c4, c5, c6, c7, c8, c9, c10].drop 3).take (Tryz.prog.cellsOf 24)) = some y3 at f3
      rw [cells24] at f3
      change DataW.trod enc Tryz.prog w base spare held k 24 (([c0, c1, c2, c3, c4, c5, c6, c7, c8, c9, c10].drop 7).take (Tryz.prog.cellsOf 24)) = some y4 at f4
      rw [cells24] at f4
      obtain ⟨x0, e0, g0_0⟩ := cell_u8 Tryz.underlying5 f0
      obtain ⟨x1, e1, g1_0⟩ := cell_i64 Tryz.underlying3 f1
      obtain ⟨x2, e2, g2_0⟩ := cell_i64 Tryz.underlying3 f2
      obtain ⟨x3_0, x3_1, x3_2, ox3_3, nx3_3, cx3_3, Xx3_3, e3, g3_0, g3_1, g3_2⟩ := cells_side f3
      obtain ⟨x4_0, x4_1, x4_2, ox4_3, nx4_3, cx4_3, Xx4_3, e4, g4_0, g4_1, g4_2⟩ := cells_side f4
      simp at e0 e1 e2 e3 e4
      subst e0
      subst e1
      subst e2
      obtain ⟨rfl, rfl, rfl, rfl⟩ := e3
      obtain ⟨rfl, rfl, rfl, rfl⟩ := e4
      exact ⟨x0, x1, x2, x3_0, x3_1, x3_2, ox3_3, nx3_3, cx3_3, Xx3_3, x4_0, x4_1, x4_2, ox4_3, nx4_3, cx4_3, Xx4_3, rfl, g0_0, g1_0, g2_0, g3_0, g3_1, g3_2, g4_0, g4_1, g4_2⟩
theorem cells46 : Tryz.prog.cellsOf 46 = 7 := by kernel_rfl
theorem cells_zero (h : DataW.trod enc Tryz.prog w base spare held fuel 46 cs = some x) :
    ∃ x0 x1 x2 x3_0 x3_1 x3_2 ox3_3 nx3_3 cx3_3 Xx3_3, cs = [.int .u8 x0, .int .i64 x1, .int .i64 x2, .bool x3_0, .int .i64 x3_1, .int .i64 x3_2, .slice ox3_3 nx3_3 cx3_3] ∧ (0 ≤ x0 ∧ x0 < 256) ∧ (-9223372036854775808 ≤ x1 ∧ x1 < 9223372036854775808) ∧ (-9223372036854775808 ≤ x2 ∧ x2 < 9223372036854775808) ∧ (-9223372036854775808 ≤ x3_1 ∧ x3_1 < 9223372036854775808) ∧ (-9223372036854775808 ≤ x3_2 ∧ x3_2 < 9223372036854775808) ∧ RowAt w ox3_3 Xx3_3 nx3_3 cx3_3 := by
  obtain ⟨xs, k, _, _, hl, hx, hf⟩ := DataW.trod_struct Tryz.underlying46 h
  rw [cells46] at hl
  have f0 := hf 0 _ rfl
  have f1 := hf 1 _ rfl
  have f2 := hf 2 _ rfl
  have f3 := hf 3 _ rfl
  clear hf h
  match cs, hl with
  | [c0, c1, c2, c3, c4, c5, c6], _ =>
    have hx2 : xs.length = 4 := hx
    match xs, hx2 with
    | [y0, y1, y2, y3], _ =>
      change DataW.trod enc Tryz.prog w base spare held k 5 (([c0, c1, c2, c3, c4, c5, c6].drop 0).take (Tryz.prog.cellsOf 5)) = some y0 at f0
      rw [cells5] at f0
      change DataW.trod enc Tryz.prog w base spare held k 3 (([c0, c1, c2, c3, c4, c5, c6].drop 1).take (Tryz.prog.cellsOf 3)) = some y1 at f1
      rw [cells3] at f1
      change DataW.trod enc Tryz.prog w base spare held k 3 (([c0, c1, c2, c3, c4, c5, c6].drop 2).take (Tryz.prog.cellsOf 3)) = some y2 at f2
      rw [cells3] at f2
      change DataW.trod enc Tryz.prog w base spare held k 24 (([c0, c1, c2, c3, c4, c5, c6].drop 3).take (Tryz.prog.cellsOf 24)) = some y3 at f3
      rw [cells24] at f3
      obtain ⟨x0, e0, g0_0⟩ := cell_u8 Tryz.underlying5 f0
      obtain ⟨x1, e1, g1_0⟩ := cell_i64 Tryz.underlying3 f1
      obtain ⟨x2, e2, g2_0⟩ := cell_i64 Tryz.underlying3 f2
      obtain ⟨x3_0, x3_1, x3_2, ox3_3, nx3_3, cx3_3, Xx3_3, e3, g3_0, g3_1, g3_2⟩ := cells_side f3
      simp at e0 e1 e2 e3
      subst e0
      subst e1
      subst e2
      obtain ⟨rfl, rfl, rfl, rfl⟩ := e3
      exact ⟨x0, x1, x2, x3_0, x3_1, x3_2, ox3_3, nx3_3, cx3_3, Xx3_3, rfl, g0_0, g1_0, g2_0, g3_0, g3_1, g3_2⟩
theorem cells51 : Tryz.prog.cellsOf 51 = 5 := by kernel_rfl
theorem cells_adds (h : DataW.trod enc Tryz.prog w base spare held fuel 51 cs = some x) :
    ∃ x0 x1 x2 x3 x4, cs = [.int .u8 x0, .int .i64 x1, .int .i64 x2, .int .i64 x3, .int .u8 x4] ∧ (0 ≤ x0 ∧ x0 < 256) ∧ (-9223372036854775808 ≤ x1 ∧ x1 < 9223372036854775808) ∧ (-9223372036854775808 ≤ x2 ∧ x2 < 9223372036854775808) ∧ (-9223372036854775808 ≤ x3 ∧ x3 < 9223372036854775808) ∧ (0 ≤ x4 ∧ x4 < 256) := by
  obtain ⟨xs, k, _, _, hl, hx, hf⟩ := DataW.trod_struct Tryz.underlying51 h
  rw [cells51] at hl
  have f0 := hf 0 _ rfl
  have f1 := hf 1 _ rfl
  have f2 := hf 2 _ rfl
  have f3 := hf 3 _ rfl
  have f4 := hf 4 _ rfl
  clear hf h
  match cs, hl with
  | [c0, c1, c2, c3, c4], _ =>
    have hx2 : xs.length = 5 := hx
    match xs, hx2 with
    | [y0, y1, y2, y3, y4], _ =>
      change DataW.trod enc Tryz.prog w base spare held k 5 (([c0, c1, c2, c3, c4].drop 0).take (Tryz.prog.cellsOf 5)) = some y0 at f0
      rw [cells5] at f0
      change DataW.trod enc Tryz.prog w base spare held k 3 (([c0, c1, c2, c3, c4].drop 1).take (Tryz.prog.cellsOf 3)) = some y1 at f1
      rw [cells3] at f1
      change DataW.trod enc Tryz.prog w base spare held k 3 (([c0, c1, c2, c3, c4].drop 2).take (Tryz.prog.cellsOf 3)) = some y2 at f2
      rw [cells3] at f2
      change DataW.trod enc Tryz.prog w base spare held k 3 (([c0, c1, c2, c3, c4].drop 3).take (Tryz.prog.cellsOf 3)) = some y3 at f3
      rw [cells3] at f3
      change DataW.trod enc Tryz.prog w base spare held k 5 (([c0, c1, c2, c3, c4].drop 4).take (Tryz.prog.cellsOf 5)) = some y4 at f4
      rw [cells5] at f4
      obtain ⟨x0, e0, g0_0⟩ := cell_u8 Tryz.underlying5 f0
      obtain ⟨x1, e1, g1_0⟩ := cell_i64 Tryz.underlying3 f1
      obtain ⟨x2, e2, g2_0⟩ := cell_i64 Tryz.underlying3 f2
      obtain ⟨x3, e3, g3_0⟩ := cell_i64 Tryz.underlying3 f3
      obtain ⟨x4, e4, g4_0⟩ := cell_u8 Tryz.underlying5 f4
      simp at e0 e1 e2 e3 e4
      subst e0
      subst e1
      subst e2
      subst e3
      subst e4
      exact ⟨x0, x1, x2, x3, x4, rfl, g0_0, g1_0, g2_0, g3_0, g4_0⟩
theorem cells54 : Tryz.prog.cellsOf 54 = 7 := by kernel_rfl
theorem cells_right (h : DataW.trod enc Tryz.prog w base spare held fuel 54 cs = some x) :
    ∃ x0 x1 x2 x3_0 x3_1 x3_2 ox3_3 nx3_3 cx3_3 Xx3_3, cs = [.int .u8 x0, .int .i64 x1, .int .i64 x2, .bool x3_0, .int .i64 x3_1, .int .i64 x3_2, .slice ox3_3 nx3_3 cx3_3] ∧ (0 ≤ x0 ∧ x0 < 256) ∧ (-9223372036854775808 ≤ x1 ∧ x1 < 9223372036854775808) ∧ (-9223372036854775808 ≤ x2 ∧ x2 < 9223372036854775808) ∧ (-9223372036854775808 ≤ x3_1 ∧ x3_1 < 9223372036854775808) ∧ (-9223372036854775808 ≤ x3_2 ∧ x3_2 < 9223372036854775808) ∧ RowAt w ox3_3 Xx3_3 nx3_3 cx3_3 := by
  obtain ⟨xs, k, _, _, hl, hx, hf⟩ := DataW.trod_struct Tryz.underlying54 h
  rw [cells54] at hl
  have f0 := hf 0 _ rfl
  have f1 := hf 1 _ rfl
  have f2 := hf 2 _ rfl
  have f3 := hf 3 _ rfl
  clear hf h
  match cs, hl with
  | [c0, c1, c2, c3, c4, c5, c6], _ =>
    have hx2 : xs.length = 4 := hx
    match xs, hx2 with
    | [y0, y1, y2, y3], _ =>
      change DataW.trod enc Tryz.prog w base spare held k 5 (([c0, c1, c2, c3, c4, c5, c6].drop 0).take (Tryz.prog.cellsOf 5)) = some y0 at f0
      rw [cells5] at f0
      change DataW.trod enc Tryz.prog w base spare held k 3 (([c0, c1, c2, c3, c4, c5, c6].drop 1).take (Tryz.prog.cellsOf 3)) = some y1 at f1
      rw [cells3] at f1
      change DataW.trod enc Tryz.prog w base spare held k 3 (([c0, c1, c2, c3, c4, c5, c6].drop 2).take (Tryz.prog.cellsOf 3)) = some y2 at f2
      rw [cells3] at f2
      change DataW.trod enc Tryz.prog w base spare held k 24 (([c0, c1, c2, c3, c4, c5, c6].drop 3).take (Tryz.prog.cellsOf 24)) = some y3 at f3
      rw [cells24] at f3
      obtain ⟨x0, e0, g0_0⟩ := cell_u8 Tryz.underlying5 f0
      obtain ⟨x1, e1, g1_0⟩ := cell_i64 Tryz.underlying3 f1
      obtain ⟨x2, e2, g2_0⟩ := cell_i64 Tryz.underlying3 f2
      obtain ⟨x3_0, x3_1, x3_2, ox3_3, nx3_3, cx3_3, Xx3_3, e3, g3_0, g3_1, g3_2⟩ := cells_side f3
      simp at e0 e1 e2 e3
      subst e0
      subst e1
      subst e2
      obtain ⟨rfl, rfl, rfl, rfl⟩ := e3
      exact ⟨x0, x1, x2, x3_0, x3_1, x3_2, ox3_3, nx3_3, cx3_3, Xx3_3, rfl, g0_0, g1_0, g2_0, g3_0, g3_1, g3_2⟩
end
section
variable {H : Type} {enc : TypeId × Value → H} {w : World} {base : Nat} {spare : Nat → Bool} {held : Bool} {r : Reach} {b0 : Nat} {v : Value} {d : DataW H} {p : List MemPlace}
theorem open_i64_10 (hv : Value.okWide Tryz.prog w r b0 3 v) (h : DataW.Trod enc Tryz.prog w base spare held 3 v d p) : ∃ a, v = .int .i64 a ∧ -9223372036854775808 ≤ a ∧ a < 9223372036854775808 := open_i64 hv h
theorem open_tells (hv : Value.okWide Tryz.prog w r b0 26 v) (h : DataW.Trod enc Tryz.prog w base spare held 26 v d p) :
    ∃ x0 x1 x2 x3_0 x3_1 x3_2 ox3_3 nx3_3 cx3_3 Xx3_3 sx4, v = .agg #[.int .i64 x0, .int .i64 x1, .int .i64 x2, .bool x3_0, .int .i64 x3_1, .int .i64 x3_2, .slice ox3_3 nx3_3 cx3_3, .string sx4] ∧ (-9223372036854775808 ≤ x0 ∧ x0 < 9223372036854775808) ∧ (-9223372036854775808 ≤ x1 ∧ x1 < 9223372036854775808) ∧ (-9223372036854775808 ≤ x2 ∧ x2 < 9223372036854775808) ∧ (-9223372036854775808 ≤ x3_1 ∧ x3_1 < 9223372036854775808) ∧ (-9223372036854775808 ≤ x3_2 ∧ x3_2 < 9223372036854775808) ∧ RowAt w ox3_3 Xx3_3 nx3_3 cx3_3 := by
  obtain ⟨cs, rfl, _⟩ := okWide_struct Tryz.underlying26 hv
  obtain ⟨fuel, hf⟩ := h
  obtain ⟨x0, x1, x2, x3_0, x3_1, x3_2, ox3_3, nx3_3, cx3_3, Xx3_3, sx4, hc, hb⟩ := cells_tells hf
  refine ⟨x0, x1, x2, x3_0, x3_1, x3_2, ox3_3, nx3_3, cx3_3, Xx3_3, sx4, ?_, hb⟩
  simp [Value.cells] at hc
  obtain ⟨l⟩ := cs
  simp at hc
  rw [hc]
theorem open_beside (hv : Value.okWide Tryz.prog w r b0 43 v) (h : DataW.Trod enc Tryz.prog w base spare held 43 v d p) :
    ∃ x0 x1 x2 x3_0 x3_1 x3_2 ox3_3 nx3_3 cx3_3 Xx3_3 x4_0 x4_1 x4_2 ox4_3 nx4_3 cx4_3 Xx4_3, v = .agg #[.int .u8 x0, .int .i64 x1, .int .i64 x2, .bool x3_0, .int .i64 x3_1, .int .i64 x3_2, .slice ox3_3 nx3_3 cx3_3, .bool x4_0, .int .i64 x4_1, .int .i64 x4_2, .slice ox4_3 nx4_3 cx4_3] ∧ (0 ≤ x0 ∧ x0 < 256) ∧ (-9223372036854775808 ≤ x1 ∧ x1 < 9223372036854775808) ∧ (-9223372036854775808 ≤ x2 ∧ x2 < 9223372036854775808) ∧ (-9223372036854775808 ≤ x3_1 ∧ x3_1 < 9223372036854775808) ∧ (-9223372036854775808 ≤ x3_2 ∧ x3_2 < 9223372036854775808) ∧ RowAt w ox3_3 Xx3_3 nx3_3 cx3_3 ∧ (-9223372036854775808 ≤ x4_1 ∧ x4_1 < 9223372036854775808) ∧ (-9223372036854775808 ≤ x4_2 ∧ x4_2 < 9223372036854775808) ∧ RowAt w ox4_3 Xx4_3 nx4_3 cx4_3 := by
  obtain ⟨cs, rfl, _⟩ := okWide_struct Tryz.underlying43 hv
  obtain ⟨fuel, hf⟩ := h
  obtain ⟨x0, x1, x2, x3_0, x3_1, x3_2, ox3_3, nx3_3, cx3_3, Xx3_3, x4_0, x4_1, x4_2, ox4_3, nx4_3, cx4_3, Xx4_3, hc, hb⟩ := cells_beside hf
  refine ⟨x0, x1, x2, x3_0, x3_1, x3_2, ox3_3, nx3_3, cx3_3, Xx3_3, x4_0, x4_1, x4_2, ox4_3, nx4_3, cx4_3, Xx4_3, ?_, hb⟩
  simp [Value.cells] at hc
  obtain ⟨l⟩ := cs
  simp at hc
  rw [hc]
theorem open_zero (hv : Value.okWide Tryz.prog w r b0 46 v) (h : DataW.Trod enc Tryz.prog w base spare held 46 v d p) :
    ∃ x0 x1 x2 x3_0 x3_1 x3_2 ox3_3 nx3_3 cx3_3 Xx3_3, v = .agg #[.int .u8 x0, .int .i64 x1, .int .i64 x2, .bool x3_0, .int .i64 x3_1, .int .i64 x3_2, .slice ox3_3 nx3_3 cx3_3] ∧ (0 ≤ x0 ∧ x0 < 256) ∧ (-9223372036854775808 ≤ x1 ∧ x1 < 9223372036854775808) ∧ (-9223372036854775808 ≤ x2 ∧ x2 < 9223372036854775808) ∧ (-9223372036854775808 ≤ x3_1 ∧ x3_1 < 9223372036854775808) ∧ (-9223372036854775808 ≤ x3_2 ∧ x3_2 < 9223372036854775808) ∧ RowAt w ox3_3 Xx3_3 nx3_3 cx3_3 := by
  obtain ⟨cs, rfl, _⟩ := okWide_struct Tryz.underlying46 hv
  obtain ⟨fuel, hf⟩ := h
  obtain ⟨x0, x1, x2, x3_0, x3_1, x3_2, ox3_3, nx3_3, cx3_3, Xx3_3, hc, hb⟩ := cells_zero hf
  refine ⟨x0, x1, x2, x3_0, x3_1, x3_2, ox3_3, nx3_3, cx3_3, Xx3_3, ?_, hb⟩
  simp [Value.cells] at hc
  obtain ⟨l⟩ := cs
  simp at hc
  rw [hc]
theorem open_adds (hv : Value.okWide Tryz.prog w r b0 51 v) (h : DataW.Trod enc Tryz.prog w base spare held 51 v d p) :
    ∃ x0 x1 x2 x3 x4, v = .agg #[.int .u8 x0, .int .i64 x1, .int .i64 x2, .int .i64 x3, .int .u8 x4] ∧ (0 ≤ x0 ∧ x0 < 256) ∧ (-9223372036854775808 ≤ x1 ∧ x1 < 9223372036854775808) ∧ (-9223372036854775808 ≤ x2 ∧ x2 < 9223372036854775808) ∧ (-9223372036854775808 ≤ x3 ∧ x3 < 9223372036854775808) ∧ (0 ≤ x4 ∧ x4 < 256) := by
  obtain ⟨cs, rfl, _⟩ := okWide_struct Tryz.underlying51 hv
  obtain ⟨fuel, hf⟩ := h
  obtain ⟨x0, x1, x2, x3, x4, hc, hb⟩ := cells_adds hf
  refine ⟨x0, x1, x2, x3, x4, ?_, hb⟩
  simp [Value.cells] at hc
  obtain ⟨l⟩ := cs
  simp at hc
  rw [hc]
theorem open_right (hv : Value.okWide Tryz.prog w r b0 54 v) (h : DataW.Trod enc Tryz.prog w base spare held 54 v d p) :
    ∃ x0 x1 x2 x3_0 x3_1 x3_2 ox3_3 nx3_3 cx3_3 Xx3_3, v = .agg #[.int .u8 x0, .int .i64 x1, .int .i64 x2, .bool x3_0, .int .i64 x3_1, .int .i64 x3_2, .slice ox3_3 nx3_3 cx3_3] ∧ (0 ≤ x0 ∧ x0 < 256) ∧ (-9223372036854775808 ≤ x1 ∧ x1 < 9223372036854775808) ∧ (-9223372036854775808 ≤ x2 ∧ x2 < 9223372036854775808) ∧ (-9223372036854775808 ≤ x3_1 ∧ x3_1 < 9223372036854775808) ∧ (-9223372036854775808 ≤ x3_2 ∧ x3_2 < 9223372036854775808) ∧ RowAt w ox3_3 Xx3_3 nx3_3 cx3_3 := by
  obtain ⟨cs, rfl, _⟩ := okWide_struct Tryz.underlying54 hv
  obtain ⟨fuel, hf⟩ := h
  obtain ⟨x0, x1, x2, x3_0, x3_1, x3_2, ox3_3, nx3_3, cx3_3, Xx3_3, hc, hb⟩ := cells_right hf
  refine ⟨x0, x1, x2, x3_0, x3_1, x3_2, ox3_3, nx3_3, cx3_3, Xx3_3, ?_, hb⟩
  simp [Value.cells] at hc
  obtain ⟨l⟩ := cs
  simp at hc
  rw [hc]
end
theorem star10 : "*" ++ "errors.errorString" = "*errors.errorString" := by decide
theorem row10 (u : TypeId) (h : Tryz.prog.typeName? 3 u = some "*errors.errorString") : u = 199 :=
  typeName_ptr_named (nm := "errors.errorString") (by rw [star10]; kernel_rfl) (by kernel_rfl) (by decide) u (by rw [star10]; exact h)
theorem cells1 : Tryz.prog.cellsOf 220 = 1 := by kernel_rfl
theorem gType : Tryz.prog.globalNamed "errors.errorType" = some 7 := by kernel_rfl
theorem rtype10 : (Tryz.prog.cutTypes.find? (·.1 == "internal/reflectlite.rtype")).map (·.2) = some 167 := by kernel_rfl
theorem size10 : Tryz.prog.types.size = 232 := by kernel_rfl
theorem oneRow10 : ((List.range 232).filter fun t => Tryz.prog.rowNamed t [101, 114, 114, 111, 114]) = [110] := by kernel_rfl
theorem handle10 : typeHandle Tryz.prog 110 = .pointer (some ⟨13, 110, none⟩) := by kernel_rfl
theorem type_laid {W : World} (h : handlesMet Tryz.prog [("errors.errorType", Rows.laid_errors_errorType)] W) : W.cell? ⟨7, 0, none⟩ = some (.iface 167 (.agg #[.pointer (some ⟨13, 110, none⟩)])) := by
  obtain ⟨name, u, ty, e1, e2, e3, e4, e5⟩ := h _ (List.mem_singleton.2 rfl)
  have en : name = [101, 114, 114, 111, 114] := (Option.some.inj e1).symm
  subst en
  obtain rfl := Option.some.inj (rtype10.symm.trans e2)
  have hm : ty ∈ (List.range 232).filter fun t => Tryz.prog.rowNamed t [101, 114, 114, 111, 114] := List.mem_filter.2 ⟨List.mem_range.2 (by rw [← size10]; exact e3), e4⟩
  rw [oneRow10] at hm
  obtain rfl := List.mem_singleton.1 hm
  rw [handle10] at e5
  simpa using World.var?_cell gType e5 0
theorem g_actual_errDay : Tryz.prog.globalNamed "demurrage/actual.errDay" = some 0 := by kernel_rfl
theorem t_actual_errDay : (Tryz.prog.globals[0]?).map (·.type) = some 110 := by kernel_rfl
theorem g_actual_errOrder : Tryz.prog.globalNamed "demurrage/actual.errOrder" = some 1 := by kernel_rfl
theorem t_actual_errOrder : (Tryz.prog.globals[1]?).map (·.type) = some 110 := by kernel_rfl
theorem g_icma_errNoDay : Tryz.prog.globalNamed "demurrage/icma.errNoDay" = some 2 := by kernel_rfl
theorem t_icma_errNoDay : (Tryz.prog.globals[2]?).map (·.type) = some 110 := by kernel_rfl
theorem g_icma_errOrder : Tryz.prog.globalNamed "demurrage/icma.errOrder" = some 3 := by kernel_rfl
theorem t_icma_errOrder : (Tryz.prog.globals[3]?).map (·.type) = some 110 := by kernel_rfl
theorem g_icma_errMany : Tryz.prog.globalNamed "demurrage/icma.errMany" = some 8 := by kernel_rfl
theorem t_icma_errMany : (Tryz.prog.globals[8]?).map (·.type) = some 110 := by kernel_rfl
theorem g_icma_errFalls : Tryz.prog.globalNamed "demurrage/icma.errFalls" = some 9 := by kernel_rfl
theorem t_icma_errFalls : (Tryz.prog.globals[9]?).map (·.type) = some 110 := by kernel_rfl
theorem g_icma_errEmpty : Tryz.prog.globalNamed "demurrage/icma.errEmpty" = some 10 := by kernel_rfl
theorem t_icma_errEmpty : (Tryz.prog.globals[10]?).map (·.type) = some 110 := by kernel_rfl
theorem g_icma_errFreq : Tryz.prog.globalNamed "demurrage/icma.errFreq" = some 11 := by kernel_rfl
theorem t_icma_errFreq : (Tryz.prog.globals[11]?).map (·.type) = some 110 := by kernel_rfl
theorem g_icma_errOutside : Tryz.prog.globalNamed "demurrage/icma.errOutside" = some 4 := by kernel_rfl
theorem t_icma_errOutside : (Tryz.prog.globals[4]?).map (·.type) = some 110 := by kernel_rfl
theorem acerrs_laid {W : World} (hH : laidMetH Tryz.prog laidC W) : Errs_ac W := by
  have h := (parts_laid hH).1
  clear hH
  replace h := h.tail
  obtain ⟨a0, a1, s0, s1, c0, c1, t0, t1, hv0, hv1, -, -, -, -, -, -, hne, hb0, hb1⟩ := laid_sentinels2 h g_actual_errDay t_actual_errDay g_actual_errOrder t_actual_errOrder Tryz.underlying110 row10 Tryz.underlying199 Tryz.underlying220 rfl rfl Tryz.underlying9 cells1 cells9
  exact ⟨a0, a1, c0, c1, t0, t1, by simpa using World.var?_cell g_actual_errDay hv0 0, by simpa using World.var?_cell g_actual_errOrder hv1 0, hne, hb0, hb1⟩
theorem icerrs_laid {W : World} (hH : laidMetH Tryz.prog laidC W) : Errs W := by
  obtain ⟨h, ht⟩ := parts_laid hH
  clear hH
  replace h := h.tail
  replace h := h.tail
  replace h := h.tail
  obtain ⟨_, _, v_icma_errNoDay, -, -, -⟩ := laid_sentinel h g_icma_errNoDay t_icma_errNoDay Tryz.underlying110 row10 Tryz.underlying199 Tryz.underlying220 rfl rfl Tryz.underlying9 cells1 cells9
  replace h := h.tail
  obtain ⟨_, _, v_icma_errOrder, -, -, -⟩ := laid_sentinel h g_icma_errOrder t_icma_errOrder Tryz.underlying110 row10 Tryz.underlying199 Tryz.underlying220 rfl rfl Tryz.underlying9 cells1 cells9
  replace h := h.tail
  obtain ⟨_, _, v_icma_errMany, -, -, -⟩ := laid_sentinel h g_icma_errMany t_icma_errMany Tryz.underlying110 row10 Tryz.underlying199 Tryz.underlying220 rfl rfl Tryz.underlying9 cells1 cells9
  replace h := h.tail
  obtain ⟨_, _, v_icma_errFalls, -, -, -⟩ := laid_sentinel h g_icma_errFalls t_icma_errFalls Tryz.underlying110 row10 Tryz.underlying199 Tryz.underlying220 rfl rfl Tryz.underlying9 cells1 cells9
  replace h := h.tail
  obtain ⟨_, _, v_icma_errEmpty, -, -, -⟩ := laid_sentinel h g_icma_errEmpty t_icma_errEmpty Tryz.underlying110 row10 Tryz.underlying199 Tryz.underlying220 rfl rfl Tryz.underlying9 cells1 cells9
  replace h := h.tail
  obtain ⟨_, _, v_icma_errFreq, -, -, -⟩ := laid_sentinel h g_icma_errFreq t_icma_errFreq Tryz.underlying110 row10 Tryz.underlying199 Tryz.underlying220 rfl rfl Tryz.underlying9 cells1 cells9
  replace h := h.tail
  obtain ⟨_, _, v_icma_errOutside, -, -, -⟩ := laid_sentinel h g_icma_errOutside t_icma_errOutside Tryz.underlying110 row10 Tryz.underlying199 Tryz.underlying220 rfl rfl Tryz.underlying9 cells1 cells9
  exact ⟨type_laid ht, _, _, _, _, _, _, _, by simpa using World.var?_cell g_icma_errNoDay v_icma_errNoDay 0, by simpa using World.var?_cell g_icma_errOrder v_icma_errOrder 0, by simpa using World.var?_cell g_icma_errOutside v_icma_errOutside 0, by simpa using World.var?_cell g_icma_errMany v_icma_errMany 0, by simpa using World.var?_cell g_icma_errFalls v_icma_errFalls 0, by simpa using World.var?_cell g_icma_errEmpty v_icma_errEmpty 0, by simpa using World.var?_cell g_icma_errFreq v_icma_errFreq 0⟩
/-- What the condition gives the walks. -/
theorem of_laid {W : World} (h : laidMetH Tryz.prog laidC W) : FactsC W := ⟨lens_laid h, acerrs_laid h, icerrs_laid h⟩
end Go.Proofs.YtkmchbllnfoccaaGreatDoor
