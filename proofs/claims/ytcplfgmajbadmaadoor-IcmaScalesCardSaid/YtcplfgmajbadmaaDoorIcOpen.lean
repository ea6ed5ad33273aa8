/- What the arguments of layer 9's statements are, and what the listed table, handle and errors hold. -/
import Derived.Test.YtcplfgmajbadmaaDoorIcShown
import Derived.Test.YtcplfgmajbadmaaDoorIcOwn
import Derived.Stop.LaidErr
import Derived.LaidHandle
import Derived.LaidLaws
import Derived.ChangeSlices
import Derived.Test.YtcplfgmajbadmaaDoorRows
import Derived.Test.YtcplfgmajbadmaaDoorTie
import Derived.Test.YtcplfgmajbadmaaDoorCards
import Derived.ProofKit
import Derived.ChangeMaps5
import Derived.OpenShut
import Derived.ChangeOld
import Derived.Below
import Derived.LaidMore
import Derived.LaidOnce
import Derived.Stop.Joined
import Derived.MakeChecks
import Derived.SevenTiedAt
namespace Go.Proofs.YtcplfgmajbadmaaDoor
open Go.ChangeShapes Go.WideShapes Go.ChangeAt Go.RowKit
set_option linter.unusedVariables false
set_option maxRecDepth 100000

theorem own : ownKnob Tryd.prog.godebug = none := by kernel_rfl
theorem laidOut : laidOutB Tryd.prog = true := by kernel_rfl

theorem i64_bd {n : Int} (h : (Lit.int .i64 n).wf = true) : -9223372036854775808 ≤ n ∧ n < 9223372036854775808 := by
  have hmin : IntKind.i64.min = -9223372036854775808 := rfl
  have hmax : IntKind.i64.max = 9223372036854775807 := rfl
  simp only [Lit.wf, Bool.and_eq_true, decide_eq_true_eq] at h
  omega
theorem cells3 : Tryd.prog.cellsOf 3 = 1 := by kernel_rfl
theorem u16_bd {n : Int} (h : (Lit.int .u16 n).wf = true) : 0 ≤ n ∧ n < 65536 := by
  have hmin : IntKind.u16.min = 0 := rfl
  have hmax : IntKind.u16.max = 65535 := rfl
  simp only [Lit.wf, Bool.and_eq_true, decide_eq_true_eq] at h
  omega
theorem cells40 : Tryd.prog.cellsOf 40 = 1 := by kernel_rfl
theorem u8_bd {n : Int} (h : (Lit.int .u8 n).wf = true) : 0 ≤ n ∧ n < 256 := by
  have hmin : IntKind.u8.min = 0 := rfl
  have hmax : IntKind.u8.max = 255 := rfl
  simp only [Lit.wf, Bool.and_eq_true, decide_eq_true_eq] at h
  omega
theorem cells5 : Tryd.prog.cellsOf 5 = 1 := by kernel_rfl
theorem cells4 : Tryd.prog.cellsOf 4 = 1 := by kernel_rfl

section
variable {H : Type} {enc : TypeId × Value → H} {w : World} {base : Nat} {spare : Nat → Bool} {held : Bool} {fuel : Nat} {cs : List Value} {x : DataW H × List MemPlace}
theorem cell_i64 {t : TypeId} (ht : Tryd.prog.underlying t = some (.int .i64)) (h : DataW.trod enc Tryd.prog w base spare held fuel t cs = some x) : ∃ n, cs = [.int .i64 n] ∧ -9223372036854775808 ≤ n ∧ n < 9223372036854775808 := by
  obtain ⟨n, hc, _, hw⟩ := DataW.trod_int ht h
  exact ⟨n, hc, i64_bd hw⟩
theorem cell_u16 {t : TypeId} (ht : Tryd.prog.underlying t = some (.int .u16)) (h : DataW.trod enc Tryd.prog w base spare held fuel t cs = some x) : ∃ n, cs = [.int .u16 n] ∧ 0 ≤ n ∧ n < 65536 := by
  obtain ⟨n, hc, _, hw⟩ := DataW.trod_int ht h
  exact ⟨n, hc, u16_bd hw⟩
theorem cell_u8 {t : TypeId} (ht : Tryd.prog.underlying t = some (.int .u8)) (h : DataW.trod enc Tryd.prog w base spare held fuel t cs = some x) : ∃ n, cs = [.int .u8 n] ∧ 0 ≤ n ∧ n < 256 := by
  obtain ⟨n, hc, _, hw⟩ := DataW.trod_int ht h
  exact ⟨n, hc, u8_bd hw⟩
theorem cell_bool {t : TypeId} (ht : Tryd.prog.underlying t = some .bool) (h : DataW.trod enc Tryd.prog w base spare held fuel t cs = some x) : ∃ b : Bool, cs = [.bool b] := by
  obtain ⟨b, hc, _⟩ := DataW.trod_bool ht h
  exact ⟨b, hc⟩
end

section
variable {H : Type} {enc : TypeId × Value → H} {w : World} {base : Nat} {spare : Nat → Bool} {held : Bool} {r : Reach} {b0 : Nat} {v : Value} {d : DataW H} {p : List MemPlace}
theorem open_i64 (hv : Value.okWide Tryd.prog w r b0 3 v) (h : DataW.Trod enc Tryd.prog w base spare held 3 v d p) : ∃ a, v = .int .i64 a ∧ -9223372036854775808 ≤ a ∧ a < 9223372036854775808 := by
  obtain ⟨a, rfl, _, _, wa⟩ := open_int Tryd.underlying3 hv h
  exact ⟨a, rfl, i64_bd wa⟩
theorem open_u16 (hv : Value.okWide Tryd.prog w r b0 40 v) (h : DataW.Trod enc Tryd.prog w base spare held 40 v d p) : ∃ a, v = .int .u16 a ∧ 0 ≤ a ∧ a < 65536 := by
  obtain ⟨a, rfl, _, _, wa⟩ := open_int Tryd.underlying40 hv h
  exact ⟨a, rfl, u16_bd wa⟩
theorem open_u8 (hv : Value.okWide Tryd.prog w r b0 5 v) (h : DataW.Trod enc Tryd.prog w base spare held 5 v d p) : ∃ a, v = .int .u8 a ∧ 0 ≤ a ∧ a < 256 := by
  obtain ⟨a, rfl, _, _, wa⟩ := open_int Tryd.underlying5 hv h
  exact ⟨a, rfl, u8_bd wa⟩
end
/-- The list of the row. -/
def laidC : List (String × DataW Unit) := [("demurrage/civil.lengths", Rows.laid_demurrage_civil_lengths), ("errors.errorType", Rows.laid_errors_errorType), ("demurrage/icma.errNoDay", Rows.laid_demurrage_icma_errNoDay), ("demurrage/icma.errOrder", Rows.laid_demurrage_icma_errOrder), ("demurrage/icma.errMany", Rows.laid_demurrage_icma_errMany), ("demurrage/icma.errFalls", Rows.laid_demurrage_icma_errFalls), ("demurrage/icma.errEmpty", Rows.laid_demurrage_icma_errEmpty), ("demurrage/icma.errFreq", Rows.laid_demurrage_icma_errFreq), ("demurrage/icma.errOutside", Rows.laid_demurrage_icma_errOutside)]
theorem gLens : Tryd.prog.globalNamed "demurrage/civil.lengths" = some 10 := by kernel_rfl
theorem tLens : (Tryd.prog.globals[10]?).map (·.type) = some 147 := by kernel_rfl
theorem cells12 : Tryd.prog.cellsOf 147 = 12 := by kernel_rfl
/-- The door's own heap meets the condition. -/
theorem door_met (os : Os) (args : Array Value) : laidMetH Tryd.prog laidC ((World.doorLaid Tryd.prog 154 os).forCall (fun _ _ => 0) ⟨#[], args, []⟩).memory :=
  laidMetH_of_parts3 (fuel := 8) (laidMet_of_run' 8 (by kernel_rfl) (by kernel_rfl)) (by kernel_rfl) (by kernel_rfl)
theorem lit_of {H : Type} {enc : TypeId × Value → H} {w : World} {base : Nat} {spare : Nat → Bool} {held : Bool} {fuel : Nat} {cs : List Value} {x : DataW H × List MemPlace} {n : Int}
    (h : DataW.trod enc Tryd.prog w base spare held fuel 3 cs = some x) (hx : x.1 = .lit (.int .i64 n)) : cs = [.int .i64 n] := by
  obtain ⟨k, e1, e2, _⟩ := DataW.trod_int Tryd.underlying3 h
  rw [e2] at hx
  simp at hx
  rw [e1, hx]
/-- What the condition gives the walks. -/
theorem parts_laid {W : World} (h : laidMetH Tryd.prog laidC W) : laidMet Tryd.prog [("demurrage/civil.lengths", Rows.laid_demurrage_civil_lengths), ("demurrage/icma.errNoDay", Rows.laid_demurrage_icma_errNoDay), ("demurrage/icma.errOrder", Rows.laid_demurrage_icma_errOrder), ("demurrage/icma.errMany", Rows.laid_demurrage_icma_errMany), ("demurrage/icma.errFalls", Rows.laid_demurrage_icma_errFalls), ("demurrage/icma.errEmpty", Rows.laid_demurrage_icma_errEmpty), ("demurrage/icma.errFreq", Rows.laid_demurrage_icma_errFreq), ("demurrage/icma.errOutside", Rows.laid_demurrage_icma_errOutside)] W ∧ handlesMet Tryd.prog [("errors.errorType", Rows.laid_errors_errorType)] W := h
theorem lens_laid {W : World} (hH : laidMetH Tryd.prog laidC W) : Lens W := by
  have h := (parts_laid hH).1
  clear hH
  obtain ⟨ps, ⟨g0, t0, cs0, f0, p0, q0, hg0, ht0, hv0, hd0, _, _⟩, _, _⟩ := h
  obtain rfl := Option.some.inj (gLens.symm.trans hg0)
  obtain rfl := Option.some.inj (tLens.symm.trans ht0)
  obtain ⟨xs, m1, rfl, hx1, hlen, hn3, hel⟩ := DataW.trod_array Tryd.underlying147 hd0
  rw [cells12] at hlen
  have hc := fun i => World.var?_cell hg0 hv0 i
  simp only [Prod.mk.injEq, Rows.laid_demurrage_civil_lengths, DataW.agg.injEq] at hx1
  have hx := hx1.1
  clear hx1 hd0 hv0
  obtain ⟨l⟩ := cs0
  match xs, hn3, l, hlen with
  | [x0, x1, x2, x3, x4, x5, x6, x7, x8, x9, x10, x11], _, [c0, c1, c2, c3, c4, c5, c6, c7, c8, c9, c10, c11], _ =>
    simp only [List.map_cons, List.map_nil, List.cons.injEq, and_true] at hx
    obtain ⟨y0, y1, y2, y3, y4, y5, y6, y7, y8, y9, y10, y11⟩ := hx
    have e0 : c0 = .int .i64 31 := by
      have := hel 0 (by decide)
      rw [cells3] at this
      simpa using lit_of this y0.symm
    have e1 : c1 = .int .i64 28 := by
      have := hel 1 (by decide)
      rw [cells3] at this
      simpa using lit_of this y1.symm
    have e2 : c2 = .int .i64 31 := by
      have := hel 2 (by decide)
      rw [cells3] at this
      simpa using lit_of this y2.symm
    have e3 : c3 = .int .i64 30 := by
      have := hel 3 (by decide)
      rw [cells3] at this
      simpa using lit_of this y3.symm
    have e4 : c4 = .int .i64 31 := by
      have := hel 4 (by decide)
      rw [cells3] at this
      simpa using lit_of this y4.symm
    have e5 : c5 = .int .i64 30 := by
      have := hel 5 (by decide)
      rw [cells3] at this
      simpa using lit_of this y5.symm
    have e6 : c6 = .int .i64 31 := by
      have := hel 6 (by decide)
      rw [cells3] at this
      simpa using lit_of this y6.symm
    have e7 : c7 = .int .i64 31 := by
      have := hel 7 (by decide)
      rw [cells3] at this
      simpa using lit_of this y7.symm
    have e8 : c8 = .int .i64 30 := by
      have := hel 8 (by decide)
      rw [cells3] at this
      simpa using lit_of this y8.symm
    have e9 : c9 = .int .i64 31 := by
      have := hel 9 (by decide)
      rw [cells3] at this
      simpa using lit_of this y9.symm
    have e10 : c10 = .int .i64 30 := by
      have := hel 10 (by decide)
      rw [cells3] at this
      simpa using lit_of this y10.symm
    have e11 : c11 = .int .i64 31 := by
      have := hel 11 (by decide)
      rw [cells3] at this
      simpa using lit_of this y11.symm
    intro i hi
    rw [hc i]
    match i, hi with
    | 0, _ => simpa [l0] using e0
    | 1, _ => simpa [l0] using e1
    | 2, _ => simpa [l0] using e2
    | 3, _ => simpa [l0] using e3
    | 4, _ => simpa [l0] using e4
    | 5, _ => simpa [l0] using e5
    | 6, _ => simpa [l0] using e6
    | 7, _ => simpa [l0] using e7
    | 8, _ => simpa [l0] using e8
    | 9, _ => simpa [l0] using e9
    | 10, _ => simpa [l0] using e10
    | 11, _ => simpa [l0] using e11

theorem cells22 : Tryd.prog.cellsOf 22 = 1 := by kernel_rfl
section
variable {H : Type} {enc : TypeId × Value → H} {w : World} {base : Nat} {spare : Nat → Bool} {held : Bool} {fuel : Nat} {cs : List Value} {x : DataW H × List MemPlace}
theorem cell_ints (h : DataW.trod enc Tryd.prog w base spare held fuel 22 cs = some x) : ∃ ao n cap X, cs = [.slice ao n cap] ∧ RowAt w ao X n cap := by
  rcases open_ints Tryd.underlying22 Tryd.underlying3 cells3 h with ⟨rfl, _⟩ | ⟨⟨b, off, sp⟩, len, cap, zs, rfl, _, hl, _, hz, _, hc, _⟩
  · exact ⟨none, 0, 0, fun _ => 0, rfl, Nat.le_refl _, fun k => absurd k (by omega)⟩
  · have hzl : len ≤ zs.length := by rw [hz]; split <;> omega
    refine ⟨some ⟨b, off, sp⟩, len, cap, fun i => zs.getD i 0, rfl, hl, fun k => ?_⟩
    have h0 := hc 0 (by omega)
    have hs : sp = none := by
      cases sp with
      | none => rfl
      | some q =>
        have := World.cell?_spot h0
        simp [Addr.add] at this
    subst hs
    exact ⟨b, off, rfl, fun j hj => by have := hc j (by omega); rwa [add_plain9] at this⟩
theorem cells24 : Tryd.prog.cellsOf 24 = 4 := by kernel_rfl
theorem cells_tells (h : DataW.trod enc Tryd.prog w base spare held fuel 24 cs = some x) :
    ∃ x0 x1 ao n cap X x3, cs = [.int .i64 x0, .int .i64 x1, .slice ao n cap, .int .i64 x3] ∧ RowAt w ao X n cap ∧ (-9223372036854775808 ≤ x0 ∧ x0 < 9223372036854775808) ∧ (-9223372036854775808 ≤ x1 ∧ x1 < 9223372036854775808) ∧ (-9223372036854775808 ≤ x3 ∧ x3 < 9223372036854775808) := by
  obtain ⟨xs, k, _, _, hl, hx, hf⟩ := DataW.trod_struct Tryd.underlying24 h
  rw [cells24] at hl
  have f0 := hf 0 _ rfl
  have f1 := hf 1 _ rfl
  have f2 := hf 2 _ rfl
  have f3 := hf 3 _ rfl
  clear hf h
  match cs, hl with
  | [c0, c1, c2, c3], _ =>
    have hx2 : xs.length = 4 := hx
    match xs, hx2 with
    | [y0, y1, y2, y3], _ =>
      change DataW.trod enc Tryd.prog w base spare held k 3 (([c0, c1, c2, c3].drop 0).take (Tryd.prog.cellsOf 3)) = some y0 at f0
      rw [cells3] at f0
      change DataW.trod enc Tryd.prog w base spare held k 3 (([c0, c1, c2, c3].drop 1).take (Tryd.prog.cellsOf 3)) = some y1 at f1
      rw [cells3] at f1
      change DataW.trod enc Tryd.prog w base spare held k 22 (([c0, c1, c2, c3].drop 2).take (Tryd.prog.cellsOf 22)) = some y2 at f2
      rw [cells22] at f2
      change DataW.trod enc Tryd.prog w base spare held k 3 (([c0, c1, c2, c3].drop 3).take (Tryd.prog.cellsOf 3)) = some y3 at f3
      rw [cells3] at f3
      obtain ⟨x0, e0, g0⟩ := cell_i64 Tryd.underlying3 f0
      obtain ⟨x1, e1, g1⟩ := cell_i64 Tryd.underlying3 f1
      obtain ⟨ao, n, cap, X, e2, g2⟩ := cell_ints f2
      obtain ⟨x3, e3, g3⟩ := cell_i64 Tryd.underlying3 f3
      simp at e0 e1 e2 e3
      subst e0
      subst e1
      subst e2
      subst e3
      exact ⟨x0, x1, ao, n, cap, X, x3, rfl, g2, g0, g1, g3⟩
theorem cells36 : Tryd.prog.cellsOf 36 = 5 := by kernel_rfl
theorem cells_adds (h : DataW.trod enc Tryd.prog w base spare held fuel 36 cs = some x) :
    ∃ x0 x1 x2 ao n cap X x4, cs = [.int .i64 x0, .int .i64 x1, .int .i64 x2, .slice ao n cap, .int .i64 x4] ∧ RowAt w ao X n cap ∧ (-9223372036854775808 ≤ x0 ∧ x0 < 9223372036854775808) ∧ (-9223372036854775808 ≤ x1 ∧ x1 < 9223372036854775808) ∧ (-9223372036854775808 ≤ x2 ∧ x2 < 9223372036854775808) ∧ (-9223372036854775808 ≤ x4 ∧ x4 < 9223372036854775808) := by
  obtain ⟨xs, k, _, _, hl, hx, hf⟩ := DataW.trod_struct Tryd.underlying36 h
  rw [cells36] at hl
  have f0 := hf 0 _ rfl
  have f1 := hf 1 _ rfl
  have f2 := hf 2 _ rfl
  have f3 := hf 3 _ rfl
  have f4 := hf 4 _ rfl
  clear hf h
  match cs, hl with
  | [c0, c1, c2, c3, c4], _ =>
    have hx2 : xs.length = 5 := hx
    match xs, hx2 with
    | [y0, y1, y2, y3, y4], _ =>
      change DataW.trod enc Tryd.prog w base spare held k 3 (([c0, c1, c2, c3, c4].drop 0).take (Tryd.prog.cellsOf 3)) = some y0 at f0
      rw [cells3] at f0
      change DataW.trod enc Tryd.prog w base spare held k 3 (([c0, c1, c2, c3, c4].drop 1).take (Tryd.prog.cellsOf 3)) = some y1 at f1
      rw [cells3] at f1
      change DataW.trod enc Tryd.prog w base spare held k 3 (([c0, c1, c2, c3, c4].drop 2).take (Tryd.prog.cellsOf 3)) = some y2 at f2
      rw [cells3] at f2
      change DataW.trod enc Tryd.prog w base spare held k 22 (([c0, c1, c2, c3, c4].drop 3).take (Tryd.prog.cellsOf 22)) = some y3 at f3
      rw [cells22] at f3
      change DataW.trod enc Tryd.prog w base spare held k 3 (([c0, c1, c2, c3, c4].drop 4).take (Tryd.prog.cellsOf 3)) = some y4 at f4
      rw [cells3] at f4
      obtain ⟨x0, e0, g0⟩ := cell_i64 Tryd.underlying3 f0
      obtain ⟨x1, e1, g1⟩ := cell_i64 Tryd.underlying3 f1
      obtain ⟨x2, e2, g2⟩ := cell_i64 Tryd.underlying3 f2
      obtain ⟨ao, n, cap, X, e3, g3⟩ := cell_ints f3
      obtain ⟨x4, e4, g4⟩ := cell_i64 Tryd.underlying3 f4
      simp at e0 e1 e2 e3 e4
      subst e0
      subst e1
      subst e2
      subst e3
      subst e4
      exact ⟨x0, x1, x2, ao, n, cap, X, x4, rfl, g3, g0, g1, g2, g4⟩
theorem cells42 : Tryd.prog.cellsOf 42 = 6 := by kernel_rfl
theorem cells_whole (h : DataW.trod enc Tryd.prog w base spare held fuel 42 cs = some x) :
    ∃ x0 x1 x2 x3 x4 x5, cs = [.int .i64 x0, .int .u16 x1, .int .u16 x2, .int .u16 x3, .int .u8 x4, .bool x5] ∧ (-9223372036854775808 ≤ x0 ∧ x0 < 9223372036854775808) ∧ (0 ≤ x1 ∧ x1 < 65536) ∧ (0 ≤ x2 ∧ x2 < 65536) ∧ (0 ≤ x3 ∧ x3 < 65536) ∧ (0 ≤ x4 ∧ x4 < 256) := by
  obtain ⟨xs, k, _, _, hl, hx, hf⟩ := DataW.trod_struct Tryd.underlying42 h
  rw [cells42] at hl
  have f0 := hf 0 _ rfl
  have f1 := hf 1 _ rfl
  have f2 := hf 2 _ rfl
  have f3 := hf 3 _ rfl
  have f4 := hf 4 _ rfl
  have f5 := hf 5 _ rfl
  clear hf h
  match cs, hl with
  | [c0, c1, c2, c3, c4, c5], _ =>
    have hx2 : xs.length = 6 := hx
    match xs, hx2 with
    | [y0, y1, y2, y3, y4, y5], _ =>
      change DataW.trod enc Tryd.prog w base spare held k 3 (([c0, c1, c2, c3, c4, c5].drop 0).take (Tryd.prog.cellsOf 3)) = some y0 at f0
      rw [cells3] at f0
      change DataW.trod enc Tryd.prog w base spare held k 40 (([c0, c1, c2, c3, c4, c5].drop 1).take (Tryd.prog.cellsOf 40)) = some y1 at f1
      rw [cells40] at f1
      change DataW.trod enc Tryd.prog w base spare held k 40 (([c0, c1, c2, c3, c4, c5].drop 2).take (Tryd.prog.cellsOf 40)) = some y2 at f2
      rw [cells40] at f2
      change DataW.trod enc Tryd.prog w base spare held k 40 (([c0, c1, c2, c3, c4, c5].drop 3).take (Tryd.prog.cellsOf 40)) = some y3 at f3
      rw [cells40] at f3
      change DataW.trod enc Tryd.prog w base spare held k 5 (([c0, c1, c2, c3, c4, c5].drop 4).take (Tryd.prog.cellsOf 5)) = some y4 at f4
      rw [cells5] at f4
      change DataW.trod enc Tryd.prog w base spare held k 4 (([c0, c1, c2, c3, c4, c5].drop 5).take (Tryd.prog.cellsOf 4)) = some y5 at f5
      rw [cells4] at f5
      obtain ⟨x0, e0, g0⟩ := cell_i64 Tryd.underlying3 f0
      obtain ⟨x1, e1, g1⟩ := cell_u16 Tryd.underlying40 f1
      obtain ⟨x2, e2, g2⟩ := cell_u16 Tryd.underlying40 f2
      obtain ⟨x3, e3, g3⟩ := cell_u16 Tryd.underlying40 f3
      obtain ⟨x4, e4, g4⟩ := cell_u8 Tryd.underlying5 f4
      obtain ⟨x5, e5⟩ := cell_bool Tryd.underlying4 f5
      simp at e0 e1 e2 e3 e4 e5
      subst e0
      subst e1
      subst e2
      subst e3
      subst e4
      subst e5
      exact ⟨x0, x1, x2, x3, x4, x5, rfl, g0, g1, g2, g3, g4⟩
theorem cells46 : Tryd.prog.cellsOf 46 = 6 := by kernel_rfl
theorem cells_split (h : DataW.trod enc Tryd.prog w base spare held fuel 46 cs = some x) :
    ∃ x0 x1 ao n cap X x3 x4 x5, cs = [.int .i64 x0, .int .i64 x1, .slice ao n cap, .int .i64 x3, .int .u8 x4, .int .u16 x5] ∧ RowAt w ao X n cap ∧ (-9223372036854775808 ≤ x0 ∧ x0 < 9223372036854775808) ∧ (-9223372036854775808 ≤ x1 ∧ x1 < 9223372036854775808) ∧ (-9223372036854775808 ≤ x3 ∧ x3 < 9223372036854775808) ∧ (0 ≤ x4 ∧ x4 < 256) ∧ (0 ≤ x5 ∧ x5 < 65536) := by
  obtain ⟨xs, k, _, _, hl, hx, hf⟩ := DataW.trod_struct Tryd.underlying46 h
  rw [cells46] at hl
  have f0 := hf 0 _ rfl
  have f1 := hf 1 _ rfl
  have f2 := hf 2 _ rfl
  have f3 := hf 3 _ rfl
  have f4 := hf 4 _ rfl
  have f5 := hf 5 _ rfl
  clear hf h
  match cs, hl with
  | [c0, c1, c2, c3, c4, c5], _ =>
    have hx2 : xs.length = 6 := hx
    match xs, hx2 with
    | [y0, y1, y2, y3, y4, y5], _ =>
      change DataW.trod enc Tryd.prog w base spare held k 3 (([c0, c1, c2, c3, c4, c5].drop 0).take (Tryd.prog.cellsOf 3)) = some y0 at f0
      rw [cells3] at f0
      change DataW.trod enc Tryd.prog w base spare held k 3 (([c0, c1, c2, c3, c4, c5].drop 1).take (Tryd.prog.cellsOf 3)) = some y1 at f1
      rw [cells3] at f1
      change DataW.trod enc Tryd.prog w base spare held k 22 (([c0, c1, c2, c3, c4, c5].drop 2).take (Tryd.prog.cellsOf 22)) = some y2 at f2
      rw [cells22] at f2
      change DataW.trod enc Tryd.prog w base spare held k 3 (([c0, c1, c2, c3, c4, c5].drop 3).take (Tryd.prog.cellsOf 3)) = some y3 at f3
      rw [cells3] at f3
      change DataW.trod enc Tryd.prog w base spare held k 5 (([c0, c1, c2, c3, c4, c5].drop 4).take (Tryd.prog.cellsOf 5)) = some y4 at f4
      rw [cells5] at f4
      change DataW.trod enc Tryd.prog w base spare held k 40 (([c0, c1, c2, c3, c4, c5].drop 5).take (Tryd.prog.cellsOf 40)) = some y5 at f5
      rw [cells40] at f5
      obtain ⟨x0, e0, g0⟩ := cell_i64 Tryd.underlying3 f0
      obtain ⟨x1, e1, g1⟩ := cell_i64 Tryd.underlying3 f1
      obtain ⟨ao, n, cap, X, e2, g2⟩ := cell_ints f2
      obtain ⟨x3, e3, g3⟩ := cell_i64 Tryd.underlying3 f3
      obtain ⟨x4, e4, g4⟩ := cell_u8 Tryd.underlying5 f4
      obtain ⟨x5, e5, g5⟩ := cell_u16 Tryd.underlying40 f5
      simp at e0 e1 e2 e3 e4 e5
      subst e0
      subst e1
      subst e2
      subst e3
      subst e4
      subst e5
      exact ⟨x0, x1, ao, n, cap, X, x3, x4, x5, rfl, g2, g0, g1, g3, g4, g5⟩
theorem cells49 : Tryd.prog.cellsOf 49 = 5 := by kernel_rfl
theorem cells_scales (h : DataW.trod enc Tryd.prog w base spare held fuel 49 cs = some x) :
    ∃ x0 x1 ao n cap X x3 x4, cs = [.int .i64 x0, .int .i64 x1, .slice ao n cap, .int .u8 x3, .int .u16 x4] ∧ RowAt w ao X n cap ∧ (-9223372036854775808 ≤ x0 ∧ x0 < 9223372036854775808) ∧ (-9223372036854775808 ≤ x1 ∧ x1 < 9223372036854775808) ∧ (0 ≤ x3 ∧ x3 < 256) ∧ (0 ≤ x4 ∧ x4 < 65536) := by
  obtain ⟨xs, k, _, _, hl, hx, hf⟩ := DataW.trod_struct Tryd.underlying49 h
  rw [cells49] at hl
  have f0 := hf 0 _ rfl
  have f1 := hf 1 _ rfl
  have f2 := hf 2 _ rfl
  have f3 := hf 3 _ rfl
  have f4 := hf 4 _ rfl
  clear hf h
  match cs, hl with
  | [c0, c1, c2, c3, c4], _ =>
    have hx2 : xs.length = 5 := hx
    match xs, hx2 with
    | [y0, y1, y2, y3, y4], _ =>
      change DataW.trod enc Tryd.prog w base spare held k 3 (([c0, c1, c2, c3, c4].drop 0).take (Tryd.prog.cellsOf 3)) = some y0 at f0
      rw [cells3] at f0
      change DataW.trod enc Tryd.prog w base spare held k 3 (([c0, c1, c2, c3, c4].drop 1).take (Tryd.prog.cellsOf 3)) = some y1 at f1
      rw [cells3] at f1
      change DataW.trod enc Tryd.prog w base spare held k 22 (([c0, c1, c2, c3, c4].drop 2).take (Tryd.prog.cellsOf 22)) = some y2 at f2
      rw [cells22] at f2
      change DataW.trod enc Tryd.prog w base spare held k 5 (([c0, c1, c2, c3, c4].drop 3).take (Tryd.prog.cellsOf 5)) = some y3 at f3
      rw [cells5] at f3
      change DataW.trod enc Tryd.prog w base spare held k 40 (([c0, c1, c2, c3, c4].drop 4).take (Tryd.prog.cellsOf 40)) = some y4 at f4
      rw [cells40] at f4
      obtain ⟨x0, e0, g0⟩ := cell_i64 Tryd.underlying3 f0
      obtain ⟨x1, e1, g1⟩ := cell_i64 Tryd.underlying3 f1
      obtain ⟨ao, n, cap, X, e2, g2⟩ := cell_ints f2
      obtain ⟨x3, e3, g3⟩ := cell_u8 Tryd.underlying5 f3
      obtain ⟨x4, e4, g4⟩ := cell_u16 Tryd.underlying40 f4
      simp at e0 e1 e2 e3 e4
      subst e0
      subst e1
      subst e2
      subst e3
      subst e4
      exact ⟨x0, x1, ao, n, cap, X, x3, x4, rfl, g2, g0, g1, g3, g4⟩
end
section
variable {H : Type} {enc : TypeId × Value → H} {w : World} {base : Nat} {spare : Nat → Bool} {held : Bool} {r : Reach} {b0 : Nat} {v : Value} {d : DataW H} {p : List MemPlace}
theorem open_tells (hv : Value.okWide Tryd.prog w r b0 24 v) (h : DataW.Trod enc Tryd.prog w base spare held 24 v d p) :
    ∃ x0 x1 ao n cap X x3, v = .agg #[.int .i64 x0, .int .i64 x1, .slice ao n cap, .int .i64 x3] ∧ RowAt w ao X n cap ∧ (-9223372036854775808 ≤ x0 ∧ x0 < 9223372036854775808) ∧ (-9223372036854775808 ≤ x1 ∧ x1 < 9223372036854775808) ∧ (-9223372036854775808 ≤ x3 ∧ x3 < 9223372036854775808) := by
  obtain ⟨cs, rfl, _⟩ := okWide_struct Tryd.underlying24 hv
  obtain ⟨fuel, hf⟩ := h
  obtain ⟨x0, x1, ao, n, cap, X, x3, hc, hb⟩ := cells_tells hf
  refine ⟨x0, x1, ao, n, cap, X, x3, ?_, hb⟩
  simp [Value.cells] at hc
  obtain ⟨l⟩ := cs
  simp at hc
  rw [hc]
theorem open_adds (hv : Value.okWide Tryd.prog w r b0 36 v) (h : DataW.Trod enc Tryd.prog w base spare held 36 v d p) :
    ∃ x0 x1 x2 ao n cap X x4, v = .agg #[.int .i64 x0, .int .i64 x1, .int .i64 x2, .slice ao n cap, .int .i64 x4] ∧ RowAt w ao X n cap ∧ (-9223372036854775808 ≤ x0 ∧ x0 < 9223372036854775808) ∧ (-9223372036854775808 ≤ x1 ∧ x1 < 9223372036854775808) ∧ (-9223372036854775808 ≤ x2 ∧ x2 < 9223372036854775808) ∧ (-9223372036854775808 ≤ x4 ∧ x4 < 9223372036854775808) := by
  obtain ⟨cs, rfl, _⟩ := okWide_struct Tryd.underlying36 hv
  obtain ⟨fuel, hf⟩ := h
  obtain ⟨x0, x1, x2, ao, n, cap, X, x4, hc, hb⟩ := cells_adds hf
  refine ⟨x0, x1, x2, ao, n, cap, X, x4, ?_, hb⟩
  simp [Value.cells] at hc
  obtain ⟨l⟩ := cs
  simp at hc
  rw [hc]
theorem open_whole (hv : Value.okWide Tryd.prog w r b0 42 v) (h : DataW.Trod enc Tryd.prog w base spare held 42 v d p) :
    ∃ x0 x1 x2 x3 x4 x5, v = .agg #[.int .i64 x0, .int .u16 x1, .int .u16 x2, .int .u16 x3, .int .u8 x4, .bool x5] ∧ (-9223372036854775808 ≤ x0 ∧ x0 < 9223372036854775808) ∧ (0 ≤ x1 ∧ x1 < 65536) ∧ (0 ≤ x2 ∧ x2 < 65536) ∧ (0 ≤ x3 ∧ x3 < 65536) ∧ (0 ≤ x4 ∧ x4 < 256) := by
  obtain ⟨cs, rfl, _⟩ := okWide_struct Tryd.underlying42 hv
  obtain ⟨fuel, hf⟩ := h
  obtain ⟨x0, x1, x2, x3, x4, x5, hc, hb⟩ := cells_whole hf
  refine ⟨x0, x1, x2, x3, x4, x5, ?_, hb⟩
  simp [Value.cells] at hc
  obtain ⟨l⟩ := cs
  simp at hc
  rw [hc]
theorem open_split (hv : Value.okWide Tryd.prog w r b0 46 v) (h : DataW.Trod enc Tryd.prog w base spare held 46 v d p) :
    ∃ x0 x1 ao n cap X x3 x4 x5, v = .agg #[.int .i64 x0, .int .i64 x1, .slice ao n cap, .int .i64 x3, .int .u8 x4, .int .u16 x5] ∧ RowAt w ao X n cap ∧ (-9223372036854775808 ≤ x0 ∧ x0 < 9223372036854775808) ∧ (-9223372036854775808 ≤ x1 ∧ x1 < 9223372036854775808) ∧ (-9223372036854775808 ≤ x3 ∧ x3 < 9223372036854775808) ∧ (0 ≤ x4 ∧ x4 < 256) ∧ (0 ≤ x5 ∧ x5 < 65536) := by
  obtain ⟨cs, rfl, _⟩ := okWide_struct Tryd.underlying46 hv
  obtain ⟨fuel, hf⟩ := h
  obtain ⟨x0, x1, ao, n, cap, X, x3, x4, x5, hc, hb⟩ := cells_split hf
  refine ⟨x0, x1, ao, n, cap, X, x3, x4, x5, ?_, hb⟩
  simp [Value.cells] at hc
  obtain ⟨l⟩ := cs
  simp at hc
  rw [hc]
theorem open_scales (hv : Value.okWide Tryd.prog w r b0 49 v) (h : DataW.Trod enc Tryd.prog w base spare held 49 v d p) :
    ∃ x0 x1 ao n cap X x3 x4, v = .agg #[.int .i64 x0, .int .i64 x1, .slice ao n cap, .int .u8 x3, .int .u16 x4] ∧ RowAt w ao X n cap ∧ (-9223372036854775808 ≤ x0 ∧ x0 < 9223372036854775808) ∧ (-9223372036854775808 ≤ x1 ∧ x1 < 9223372036854775808) ∧ (0 ≤ x3 ∧ x3 < 256) ∧ (0 ≤ x4 ∧ x4 < 65536) := by
  obtain ⟨cs, rfl, _⟩ := okWide_struct Tryd.underlying49 hv
  obtain ⟨fuel, hf⟩ := h
  obtain ⟨x0, x1, ao, n, cap, X, x3, x4, hc, hb⟩ := cells_scales hf
  refine ⟨x0, x1, ao, n, cap, X, x3, x4, ?_, hb⟩
  simp [Value.cells] at hc
  obtain ⟨l⟩ := cs
  simp at hc
  rw [hc]
end
theorem star9 : "*" ++ "errors.errorString" = "*errors.errorString" := by decide
theorem row9 (u : TypeId) (h : Tryd.prog.typeName? 3 u = some "*errors.errorString") : u = 148 :=
  typeName_ptr_named (nm := "errors.errorString") (by rw [star9]; kernel_rfl) (by kernel_rfl) (by decide) u (by rw [star9]; exact h)
theorem cells1 : Tryd.prog.cellsOf 170 = 1 := by kernel_rfl
theorem cellsS : Tryd.prog.cellsOf 9 = 1 := by kernel_rfl
theorem gType : Tryd.prog.globalNamed "errors.errorType" = some 7 := by kernel_rfl
theorem rtype9 : (Tryd.prog.cutTypes.find? (·.1 == "internal/reflectlite.rtype")).map (·.2) = some 127 := by kernel_rfl
theorem size9 : Tryd.prog.types.size = 181 := by kernel_rfl
theorem oneRow9 : ((List.range 181).filter fun t => Tryd.prog.rowNamed t [101, 114, 114, 111, 114]) = [54] := by kernel_rfl
theorem handle9 : typeHandle Tryd.prog 54 = .pointer (some ⟨11, 54, none⟩) := by kernel_rfl
theorem type_laid {W : World} (h : handlesMet Tryd.prog [("errors.errorType", Rows.laid_errors_errorType)] W) : W.cell? ⟨7, 0, none⟩ = some (.iface 127 (.agg #[.pointer (some ⟨11, 54, none⟩)])) := by
  obtain ⟨name, u, ty, e1, e2, e3, e4, e5⟩ := h _ (List.mem_singleton.2 rfl)
  have en : name = [101, 114, 114, 111, 114] := (Option.some.inj e1).symm
  subst en
  obtain rfl := Option.some.inj (rtype9.symm.trans e2)
  have hm : ty ∈ (List.range 181).filter fun t => Tryd.prog.rowNamed t [101, 114, 114, 111, 114] := List.mem_filter.2 ⟨List.mem_range.2 (by rw [← size9]; exact e3), e4⟩
  rw [oneRow9] at hm
  obtain rfl := List.mem_singleton.1 hm
  rw [handle9] at e5
  simpa using World.var?_cell gType e5 0
theorem gerrNoDay : Tryd.prog.globalNamed "demurrage/icma.errNoDay" = some 0 := by kernel_rfl
theorem terrNoDay : (Tryd.prog.globals[0]?).map (·.type) = some 54 := by kernel_rfl
theorem gerrOrder : Tryd.prog.globalNamed "demurrage/icma.errOrder" = some 1 := by kernel_rfl
theorem terrOrder : (Tryd.prog.globals[1]?).map (·.type) = some 54 := by kernel_rfl
theorem gerrMany : Tryd.prog.globalNamed "demurrage/icma.errMany" = some 3 := by kernel_rfl
theorem terrMany : (Tryd.prog.globals[3]?).map (·.type) = some 54 := by kernel_rfl
theorem gerrFalls : Tryd.prog.globalNamed "demurrage/icma.errFalls" = some 4 := by kernel_rfl
theorem terrFalls : (Tryd.prog.globals[4]?).map (·.type) = some 54 := by kernel_rfl
theorem gerrEmpty : Tryd.prog.globalNamed "demurrage/icma.errEmpty" = some 5 := by kernel_rfl
theorem terrEmpty : (Tryd.prog.globals[5]?).map (·.type) = some 54 := by kernel_rfl
theorem gerrFreq : Tryd.prog.globalNamed "demurrage/icma.errFreq" = some 6 := by kernel_rfl
theorem terrFreq : (Tryd.prog.globals[6]?).map (·.type) = some 54 := by kernel_rfl
theorem gerrOutside : Tryd.prog.globalNamed "demurrage/icma.errOutside" = some 2 := by kernel_rfl
theorem terrOutside : (Tryd.prog.globals[2]?).map (·.type) = some 54 := by kernel_rfl
theorem errs_laid {W : World} (hH : laidMetH Tryd.prog laidC W) : Errs W := by
  obtain ⟨h0, ht⟩ := parts_laid hH
  clear hH
  have h := h0.tail
  clear h0
  obtain ⟨_, _, verrNoDay, -, -, -⟩ := laid_sentinel h gerrNoDay terrNoDay Tryd.underlying54 row9 Tryd.underlying148 Tryd.underlying170 rfl rfl Tryd.underlying9 cells1 cellsS
  replace h := h.tail
  obtain ⟨_, _, verrOrder, -, -, -⟩ := laid_sentinel h gerrOrder terrOrder Tryd.underlying54 row9 Tryd.underlying148 Tryd.underlying170 rfl rfl Tryd.underlying9 cells1 cellsS
  replace h := h.tail
  obtain ⟨_, _, verrMany, -, -, -⟩ := laid_sentinel h gerrMany terrMany Tryd.underlying54 row9 Tryd.underlying148 Tryd.underlying170 rfl rfl Tryd.underlying9 cells1 cellsS
  replace h := h.tail
  obtain ⟨_, _, verrFalls, -, -, -⟩ := laid_sentinel h gerrFalls terrFalls Tryd.underlying54 row9 Tryd.underlying148 Tryd.underlying170 rfl rfl Tryd.underlying9 cells1 cellsS
  replace h := h.tail
  obtain ⟨_, _, verrEmpty, -, -, -⟩ := laid_sentinel h gerrEmpty terrEmpty Tryd.underlying54 row9 Tryd.underlying148 Tryd.underlying170 rfl rfl Tryd.underlying9 cells1 cellsS
  replace h := h.tail
  obtain ⟨_, _, verrFreq, -, -, -⟩ := laid_sentinel h gerrFreq terrFreq Tryd.underlying54 row9 Tryd.underlying148 Tryd.underlying170 rfl rfl Tryd.underlying9 cells1 cellsS
  replace h := h.tail
  obtain ⟨_, _, verrOutside, -, -, -⟩ := laid_sentinel h gerrOutside terrOutside Tryd.underlying54 row9 Tryd.underlying148 Tryd.underlying170 rfl rfl Tryd.underlying9 cells1 cellsS
  exact ⟨type_laid ht, _, _, _, _, _, _, _, by simpa using World.var?_cell gerrNoDay verrNoDay 0, by simpa using World.var?_cell gerrOrder verrOrder 0, by simpa using World.var?_cell gerrOutside verrOutside 0, by simpa using World.var?_cell gerrMany verrMany 0, by simpa using World.var?_cell gerrFalls verrFalls 0, by simpa using World.var?_cell gerrEmpty verrEmpty 0, by simpa using World.var?_cell gerrFreq verrFreq 0⟩
/-- What the condition gives the walks. -/
theorem of_laid {W : World} (h : laidMetH Tryd.prog laidC W) : Facts W := ⟨lens_laid h, errs_laid h⟩
end Go.Proofs.YtcplfgmajbadmaaDoor
