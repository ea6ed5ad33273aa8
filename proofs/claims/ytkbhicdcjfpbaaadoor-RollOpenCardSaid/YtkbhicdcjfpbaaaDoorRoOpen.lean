/- What the arguments of layer 14's statements are, and what the listed tables hold. -/
import Derived.Test.YtkbhicdcjfpbaaaDoorRoShown
import Derived.ChangeSlices
import Derived.Deep.Slices
import Derived.Stop.LaidErr
import Derived.LaidLaws
import Derived.Test.YtkbhicdcjfpbaaaDoorRows
import Derived.Test.YtkbhicdcjfpbaaaDoorTie
import Derived.Test.YtkbhicdcjfpbaaaDoorCards
import Derived.ProofKit
import Derived.ChangeMaps5
import Derived.OpenShut
import Derived.ChangeOld
import Derived.Below
import Derived.LaidMore
import Derived.LaidOnce
import Derived.Stop.Joined
import Derived.MakeChecks
import Derived.SevenTiedAt
namespace Go.Proofs.YtkbhicdcjfpbaaaDoor
open Go.ChangeShapes Go.WideShapes Go.ChangeAt Go.RowKit
set_option linter.unusedVariables false
set_option maxRecDepth 100000

theorem own : ownKnob Tryd.prog.godebug = none := by kernel_rfl
theorem laidOut : laidOutB Tryd.prog = true := by kernel_rfl

theorem i64_bd {n : Int} (h : (Lit.int .i64 n).wf = true) : -9223372036854775808 ≤ n ∧ n < 9223372036854775808 := by
  have hmin : IntKind.i64.min = -9223372036854775808 := rfl
  have hmax : IntKind.i64.max = 9223372036854775807 := rfl
  simp only [Lit.wf, Bool.and_eq_true, decide_eq_true_eq] at h
  omega
theorem cells3 : Tryd.prog.cellsOf 3 = 1 := by kernel_rfl
theorem u8_bd {n : Int} (h : (Lit.int .u8 n).wf = true) : 0 ≤ n ∧ n < 256 := by
  have hmin : IntKind.u8.min = 0 := rfl
  have hmax : IntKind.u8.max = 255 := rfl
  simp only [Lit.wf, Bool.and_eq_true, decide_eq_true_eq] at h
  omega
theorem cells5 : Tryd.prog.cellsOf 5 = 1 := by kernel_rfl

section
variable {H : Type} {enc : TypeId × Value → H} {w : World} {base : Nat} {spare : Nat → Bool} {held : Bool} {fuel : Nat} {cs : List Value} {x : DataW H × List MemPlace}
theorem cell_i64 {t : TypeId} (ht : Tryd.prog.underlying t = some (.int .i64)) (h : DataW.trod enc Tryd.prog w base spare held fuel t cs = some x) : ∃ n, cs = [.int .i64 n] ∧ -9223372036854775808 ≤ n ∧ n < 9223372036854775808 := by
  obtain ⟨n, hc, _, hw⟩ := DataW.trod_int ht h
  exact ⟨n, hc, i64_bd hw⟩
theorem cell_u8 {t : TypeId} (ht : Tryd.prog.underlying t = some (.int .u8)) (h : DataW.trod enc Tryd.prog w base spare held fuel t cs = some x) : ∃ n, cs = [.int .u8 n] ∧ 0 ≤ n ∧ n < 256 := by
  obtain ⟨n, hc, _, hw⟩ := DataW.trod_int ht h
  exact ⟨n, hc, u8_bd hw⟩
theorem cells57 : Tryd.prog.cellsOf 57 = 8 := by kernel_rfl
theorem cells_rule (h : DataW.trod enc Tryd.prog w base spare held fuel 57 cs = some x) :
    ∃ x0 x1 x2 x3 x4 x5 x6 x7, cs = [.int .i64 x0, .int .i64 x1, .int .i64 x2, .int .i64 x3, .int .i64 x4, .int .i64 x5, .int .i64 x6, .int .i64 x7] ∧ (-9223372036854775808 ≤ x0 ∧ x0 < 9223372036854775808) ∧ (-9223372036854775808 ≤ x1 ∧ x1 < 9223372036854775808) ∧ (-9223372036854775808 ≤ x2 ∧ x2 < 9223372036854775808) ∧ (-9223372036854775808 ≤ x3 ∧ x3 < 9223372036854775808) ∧ (-9223372036854775808 ≤ x4 ∧ x4 < 9223372036854775808) ∧ (-9223372036854775808 ≤ x5 ∧ x5 < 9223372036854775808) ∧ (-9223372036854775808 ≤ x6 ∧ x6 < 9223372036854775808) ∧ (-9223372036854775808 ≤ x7 ∧ x7 < 9223372036854775808) := by
  obtain ⟨xs, k, _, _, hl, hx, hf⟩ := DataW.trod_struct Tryd.underlying57 h
  rw [cells57] at hl
  have f0 := hf 0 _ rfl
  have f1 := hf 1 _ rfl
  have f2 := hf 2 _ rfl
  have f3 := hf 3 _ rfl
  have f4 := hf 4 _ rfl
  have f5 := hf 5 _ rfl
  have f6 := hf 6 _ rfl
  have f7 := hf 7 _ rfl
  clear hf h
  match cs, hl with
  | [c0, c1, c2, c3, c4, c5, c6, c7], _ =>
    have hx2 : xs.length = 8 := hx
    match xs, hx2 with
    | [y0, y1, y2, y3, y4, y5, y6, y7], _ =>
      change DataW.trod enc Tryd.prog w base spare held k 3 (([c0, c1, c2, c3, c4, c5, c6, c7].drop 0).take (Tryd.prog.cellsOf 3)) = some y0 at f0
      rw [cells3] at f0
      change DataW.trod enc Tryd.prog w base spare held k 3 (([c0, c1, c2, c3, c4, c5, c6, c7].drop 1).take (Tryd.prog.cellsOf 3)) = some y1 at f1
      rw [cells3] at f1
      change DataW.trod enc Tryd.prog w base spare held k 3 (([c0, c1, c2, c3, c4, c5, c6, c7].drop 2).take (Tryd.prog.cellsOf 3)) = some y2 at f2
      rw [cells3] at f2
      change DataW.trod enc Tryd.prog w base spare held k 3 (([c0, c1, c2, c3, c4, c5, c6, c7].drop 3).take (Tryd.prog.cellsOf 3)) = some y3 at f3
      rw [cells3] at f3
      change DataW.trod enc Tryd.prog w base spare held k 3 (([c0, c1, c2, c3, c4, c5, c6, c7].drop 4).take (Tryd.prog.cellsOf 3)) = some y4 at f4
      rw [cells3] at f4
      change DataW.trod enc Tryd.prog w base spare held k 3 (([c0, c1, c2, c3, c4, c5, c6, c7].drop 5).take (Tryd.prog.cellsOf 3)) = some y5 at f5
      rw [cells3] at f5
      change DataW.trod enc Tryd.prog w base spare held k 3 (([c0, c1, c2, c3, c4, c5, c6, c7].drop 6).take (Tryd.prog.cellsOf 3)) = some y6 at f6
      rw [cells3] at f6
      change DataW.trod enc Tryd.prog w base spare held k 3 (([c0, c1, c2, c3, c4, c5, c6, c7].drop 7).take (Tryd.prog.cellsOf 3)) = some y7 at f7
      rw [cells3] at f7
      obtain ⟨x0, e0, g0⟩ := cell_i64 Tryd.underlying3 f0
      obtain ⟨x1, e1, g1⟩ := cell_i64 Tryd.underlying3 f1
      obtain ⟨x2, e2, g2⟩ := cell_i64 Tryd.underlying3 f2
      obtain ⟨x3, e3, g3⟩ := cell_i64 Tryd.underlying3 f3
      obtain ⟨x4, e4, g4⟩ := cell_i64 Tryd.underlying3 f4
      obtain ⟨x5, e5, g5⟩ := cell_i64 Tryd.underlying3 f5
      obtain ⟨x6, e6, g6⟩ := cell_i64 Tryd.underlying3 f6
      obtain ⟨x7, e7, g7⟩ := cell_i64 Tryd.underlying3 f7
      simp at e0 e1 e2 e3 e4 e5 e6 e7
      subst e0
      subst e1
      subst e2
      subst e3
      subst e4
      subst e5
      subst e6
      subst e7
      exact ⟨x0, x1, x2, x3, x4, x5, x6, x7, rfl, g0, g1, g2, g3, g4, g5, g6, g7⟩
end

section
variable {H : Type} {enc : TypeId × Value → H} {w : World} {base : Nat} {spare : Nat → Bool} {held : Bool} {r : Reach} {b0 : Nat} {v : Value} {d : DataW H} {p : List MemPlace}
theorem open_i64 (hv : Value.okWide Tryd.prog w r b0 3 v) (h : DataW.Trod enc Tryd.prog w base spare held 3 v d p) : ∃ a, v = .int .i64 a ∧ -9223372036854775808 ≤ a ∧ a < 9223372036854775808 := by
  obtain ⟨a, rfl, _, _, wa⟩ := open_int Tryd.underlying3 hv h
  exact ⟨a, rfl, i64_bd wa⟩
theorem open_u8 (hv : Value.okWide Tryd.prog w r b0 5 v) (h : DataW.Trod enc Tryd.prog w base spare held 5 v d p) : ∃ a, v = .int .u8 a ∧ 0 ≤ a ∧ a < 256 := by
  obtain ⟨a, rfl, _, _, wa⟩ := open_int Tryd.underlying5 hv h
  exact ⟨a, rfl, u8_bd wa⟩
theorem open_rule (hv : Value.okWide Tryd.prog w r b0 57 v) (h : DataW.Trod enc Tryd.prog w base spare held 57 v d p) :
    ∃ x0 x1 x2 x3 x4 x5 x6 x7, v = .agg #[.int .i64 x0, .int .i64 x1, .int .i64 x2, .int .i64 x3, .int .i64 x4, .int .i64 x5, .int .i64 x6, .int .i64 x7] ∧ (-9223372036854775808 ≤ x0 ∧ x0 < 9223372036854775808) ∧ (-9223372036854775808 ≤ x1 ∧ x1 < 9223372036854775808) ∧ (-9223372036854775808 ≤ x2 ∧ x2 < 9223372036854775808) ∧ (-9223372036854775808 ≤ x3 ∧ x3 < 9223372036854775808) ∧ (-9223372036854775808 ≤ x4 ∧ x4 < 9223372036854775808) ∧ (-9223372036854775808 ≤ x5 ∧ x5 < 9223372036854775808) ∧ (-9223372036854775808 ≤ x6 ∧ x6 < 9223372036854775808) ∧ (-9223372036854775808 ≤ x7 ∧ x7 < 9223372036854775808) := by
  obtain ⟨cs, rfl, _⟩ := okWide_struct Tryd.underlying57 hv
  obtain ⟨fuel, hf⟩ := h
  obtain ⟨x0, x1, x2, x3, x4, x5, x6, x7, hc, hb⟩ := cells_rule hf
  refine ⟨x0, x1, x2, x3, x4, x5, x6, x7, ?_, hb⟩
  simp [Value.cells] at hc
  obtain ⟨l⟩ := cs
  simp at hc
  rw [hc]
end
/-- The list of the row. -/
def laidC : List (String × DataW Unit) := [("demurrage/civil.lengths", Rows.laid_demurrage_civil_lengths), ("demurrage/roll.names", Rows.laid_demurrage_roll_names)]
theorem gLens : Tryd.prog.globalNamed "demurrage/civil.lengths" = some 1 := by kernel_rfl
theorem tLens : (Tryd.prog.globals[1]?).map (·.type) = some 79 := by kernel_rfl
theorem cells12 : Tryd.prog.cellsOf 79 = 12 := by kernel_rfl
/-- The door's own heap meets the condition. -/
theorem door_met (os : Os) (args : Array Value) : laidMetH Tryd.prog laidC ((World.doorLaid Tryd.prog 19 os).forCall (fun _ _ => 0) ⟨#[], args, []⟩).memory :=
  laidMetH_of_parts3 (fuel := 8) (laidMet_of_run' 8 (by kernel_rfl) (by kernel_rfl)) (by kernel_rfl) (by kernel_rfl)
theorem lit_of {H : Type} {enc : TypeId × Value → H} {w : World} {base : Nat} {spare : Nat → Bool} {held : Bool} {fuel : Nat} {cs : List Value} {x : DataW H × List MemPlace} {n : Int}
    (h : DataW.trod enc Tryd.prog w base spare held fuel 3 cs = some x) (hx : x.1 = .lit (.int .i64 n)) : cs = [.int .i64 n] := by
  obtain ⟨k, e1, e2, _⟩ := DataW.trod_int Tryd.underlying3 h
  rw [e2] at hx
  simp at hx
  rw [e1, hx]
/-- What the condition gives the walks. -/
theorem lens_laid {W : World} (h : laidMetH Tryd.prog laidC W) : Lens W := by
  rw [MakeChecks.laidMetH_plain _ _ _ (by kernel_rfl)] at h
  obtain ⟨ps, ⟨g0, t0, cs0, f0, p0, q0, hg0, ht0, hv0, hd0, _, _⟩, _, _⟩ := h
  obtain rfl := Option.some.inj (gLens.symm.trans hg0)
  obtain rfl := Option.some.inj (tLens.symm.trans ht0)
  obtain ⟨xs, m1, rfl, hx1, hlen, hn3, hel⟩ := DataW.trod_array Tryd.underlying79 hd0
  rw [cells12] at hlen
  have hc := fun i => World.var?_cell hg0 hv0 i
  simp only [Prod.mk.injEq, Rows.laid_demurrage_civil_lengths, DataW.agg.injEq] at hx1
  have hx := hx1.1
  clear hx1 hd0 hv0
  obtain ⟨l⟩ := cs0
  match xs, hn3, l, hlen with
  | [x0, x1, x2, x3, x4, x5, x6, x7, x8, x9, x10, x11], _, [c0, c1, c2, c3, c4, c5, c6, c7, c8, c9, c10, c11], _ =>
    simp only [List.map_cons, List.map_nil, List.cons.injEq, and_true] at hx
    obtain ⟨y0, y1, y2, y3, y4, y5, y6, y7, y8, y9, y10, y11⟩ := hx
    have e0 : c0 = .int .i64 31 := by
      have := hel 0 (by decide)
      rw [cells3] at this
      simpa using lit_of this y0.symm
    have e1 : c1 = .int .i64 28 := by
      have := hel 1 (by decide)
      rw [cells3] at this
      simpa using lit_of this y1.symm
    have e2 : c2 = .int .i64 31 := by
      have := hel 2 (by decide)
      rw [cells3] at this
      simpa using lit_of this y2.symm
    have e3 : c3 = .int .i64 30 := by
      have := hel 3 (by decide)
      rw [cells3] at this
      simpa using lit_of this y3.symm
    have e4 : c4 = .int .i64 31 := by
      have := hel 4 (by decide)
      rw [cells3] at this
      simpa using lit_of this y4.symm
    have e5 : c5 = .int .i64 30 := by
      have := hel 5 (by decide)
      rw [cells3] at this
      simpa using lit_of this y5.symm
    have e6 : c6 = .int .i64 31 := by
      have := hel 6 (by decide)
      rw [cells3] at this
      simpa using lit_of this y6.symm
    have e7 : c7 = .int .i64 31 := by
      have := hel 7 (by decide)
      rw [cells3] at this
      simpa using lit_of this y7.symm
    have e8 : c8 = .int .i64 30 := by
      have := hel 8 (by decide)
      rw [cells3] at this
      simpa using lit_of this y8.symm
    have e9 : c9 = .int .i64 31 := by
      have := hel 9 (by decide)
      rw [cells3] at this
      simpa using lit_of this y9.symm
    have e10 : c10 = .int .i64 30 := by
      have := hel 10 (by decide)
      rw [cells3] at this
      simpa using lit_of this y10.symm
    have e11 : c11 = .int .i64 31 := by
      have := hel 11 (by decide)
      rw [cells3] at this
      simpa using lit_of this y11.symm
    intro i hi
    rw [hc i]
    match i, hi with
    | 0, _ => simpa [l0] using e0
    | 1, _ => simpa [l0] using e1
    | 2, _ => simpa [l0] using e2
    | 3, _ => simpa [l0] using e3
    | 4, _ => simpa [l0] using e4
    | 5, _ => simpa [l0] using e5
    | 6, _ => simpa [l0] using e6
    | 7, _ => simpa [l0] using e7
    | 8, _ => simpa [l0] using e8
    | 9, _ => simpa [l0] using e9
    | 10, _ => simpa [l0] using e10
    | 11, _ => simpa [l0] using e11

instance : Inhabited Ru := ⟨⟨0, 0, 0, 0, 0, 0, 0, 0⟩⟩
def off7 (l : List Bool) (i : Nat) : Bool := l.getD i true
theorem cells4 : Tryd.prog.cellsOf 4 = 1 := by kernel_rfl
theorem cells22 : Tryd.prog.cellsOf 22 = 7 := by kernel_rfl
theorem cells23 : Tryd.prog.cellsOf 23 = 1 := by kernel_rfl
theorem cells24 : Tryd.prog.cellsOf 24 = 1 := by kernel_rfl
theorem cells26 : Tryd.prog.cellsOf 26 = 9 := by kernel_rfl
theorem cells9 : Tryd.prog.cellsOf 9 = 1 := by kernel_rfl
section
variable {H : Type} {enc : TypeId × Value → H} {w : World} {base : Nat} {spare : Nat → Bool} {held : Bool} {fuel : Nat} {cs : List Value} {x : DataW H × List MemPlace}
theorem cell_week (h : DataW.trod enc Tryd.prog w base spare held fuel 22 cs = some x) : ∃ o : Nat → Bool, cs = [.bool (o 0), .bool (o 1), .bool (o 2), .bool (o 3), .bool (o 4), .bool (o 5), .bool (o 6)] := by
  obtain ⟨xs, k, _, _, hl, hx, hf⟩ := DataW.trod_array Tryd.underlying22 h
  rw [cells22] at hl
  have g : ∀ i, i < 7 → ∃ b : Bool, (cs.drop i).take 1 = [.bool b] := fun i hi => by
    have e := hf i hi
    rw [cells4, Nat.mul_one] at e
    rw [List.getElem?_eq_getElem (by omega)] at e
    obtain ⟨b, hb, _⟩ := DataW.trod_bool Tryd.underlying4 e
    exact ⟨b, hb⟩
  match cs, hl with
  | [c0, c1, c2, c3, c4, c5, c6], _ =>
    obtain ⟨b0, e0⟩ := g 0 (by decide)
    obtain ⟨b1, e1⟩ := g 1 (by decide)
    obtain ⟨b2, e2⟩ := g 2 (by decide)
    obtain ⟨b3, e3⟩ := g 3 (by decide)
    obtain ⟨b4, e4⟩ := g 4 (by decide)
    obtain ⟨b5, e5⟩ := g 5 (by decide)
    obtain ⟨b6, e6⟩ := g 6 (by decide)
    simp at e0 e1 e2 e3 e4 e5 e6
    subst e0 e1 e2 e3 e4 e5 e6
    exact ⟨off7 [b0, b1, b2, b3, b4, b5, b6], rfl⟩
theorem spot13 {W : World} {b off : Nat} {sp : Option Nat} {v : Value} (h : W.cell? ⟨b, off, sp⟩ = some v) : sp = none := by
  cases sp with
  | none => rfl
  | some q =>
    have := World.cell?_spot h
    simp at this
theorem cell_str (h : DataW.trod enc Tryd.prog w base spare held fuel 9 cs = some x) : ∃ s : ByteArray, cs = [.string s] := by
  obtain ⟨s, hc, _⟩ := DataW.trod_string Tryd.underlying9 h
  exact ⟨s, hc⟩
theorem cell_days (h : DataW.trod enc Tryd.prog w base spare held fuel 24 cs = some x) : ∃ ao n cap X, cs = [.slice ao n cap] ∧ DaysAt w ao X n cap := by
  rcases open_ints Tryd.underlying24 Tryd.underlying3 cells3 h with ⟨rfl, _⟩ | ⟨⟨b, off, sp⟩, len, cap, zs, rfl, _, hl, _, hz, _, hc, _⟩
  · exact ⟨none, 0, 0, fun _ => 0, rfl, Nat.le_refl _, fun k => absurd k (by omega)⟩
  · have hzl : len ≤ zs.length := by rw [hz]; split <;> omega
    refine ⟨some ⟨b, off, sp⟩, len, cap, fun i => zs.getD i 0, rfl, hl, fun k => ?_⟩
    have h0 := hc 0 (by omega)
    have hs : sp = none := by
      cases sp with
      | none => rfl
      | some q =>
        have := World.cell?_spot h0
        simp [Addr.add] at this
    subst hs
    exact ⟨b, off, rfl, fun j hj => by have := hc j (by omega); rwa [add_plain13] at this⟩
theorem cell_rules (h : DataW.trod enc Tryd.prog w base spare held fuel 23 cs = some x) : ∃ ao n cap R, cs = [.slice ao n cap] ∧ RulesAt w ao R n cap := by
  rcases Go.Deep.open_slice Tryd.underlying23 h with ⟨rfl, _⟩ | ⟨⟨b, off, sp⟩, len, cap, m, k, D, Pl, rfl, _, hl, _, hm, _, hx⟩
  · exact ⟨none, 0, 0, fun _ => default, rfl, Nat.le_refl _, fun k => absurd k (by omega)⟩
  · have hlm : len ≤ m := by rw [hm]; split <;> omega
    rw [cells57] at hx
    rcases Nat.eq_zero_or_pos m with h0 | hmp
    · exact ⟨some ⟨b, off, sp⟩, len, cap, fun _ => default, rfl, hl, fun hp => absurd hp (by omega)⟩
    have hs : sp = none := by
      obtain ⟨cs', h1, h2⟩ := hx 0 hmp
      obtain ⟨_, hlen, hcell⟩ := World.cells?_some h1
      obtain ⟨x0, x1, x2, x3, x4, x5, x6, x7, rfl, _⟩ := cells_rule h2
      have h0 := hcell 0 (by omega)
      cases sp with
      | none => rfl
      | some q =>
        have := World.cell?_spot h0
        simp [Addr.add] at this
    subst hs
    have each : ∀ i, i < m → ∃ r : Ru, RCell w b (off + i * 8) r := fun i hi => by
      obtain ⟨cs', h1, h2⟩ := hx i hi
      obtain ⟨_, hlen, hcell⟩ := World.cells?_some h1
      obtain ⟨x0, x1, x2, x3, x4, x5, x6, x7, rfl, _⟩ := cells_rule h2
      refine ⟨⟨x0, x1, x2, x3, x4, x5, x6, x7⟩, ?_⟩
      have q0 := hcell 0 (by omega)
      rw [add_plain13, add_plain13] at q0
      have q1 := hcell 1 (by omega)
      rw [add_plain13, add_plain13] at q1
      have q2 := hcell 2 (by omega)
      rw [add_plain13, add_plain13] at q2
      have q3 := hcell 3 (by omega)
      rw [add_plain13, add_plain13] at q3
      have q4 := hcell 4 (by omega)
      rw [add_plain13, add_plain13] at q4
      have q5 := hcell 5 (by omega)
      rw [add_plain13, add_plain13] at q5
      have q6 := hcell 6 (by omega)
      rw [add_plain13, add_plain13] at q6
      have q7 := hcell 7 (by omega)
      rw [add_plain13, add_plain13] at q7
      exact ⟨q0, q1, q2, q3, q4, q5, q6, q7⟩
    obtain ⟨R, hR⟩ := Go.Deep.choose_lt each
    exact ⟨some ⟨b, off, none⟩, len, cap, R, rfl, hl, fun hp => ⟨b, off, rfl, fun j hj => hR j (by omega)⟩⟩
theorem cells_cal (h : DataW.trod enc Tryd.prog w base spare held fuel 26 cs = some x) :
    ∃ (c : Ca) (aR : Option Addr) (cR : Nat) (aD : Option Addr) (cD : Nat), cs = [.bool (c.o 0), .bool (c.o 1), .bool (c.o 2), .bool (c.o 3), .bool (c.o 4), .bool (c.o 5), .bool (c.o 6), .slice aR c.nr cR, .slice aD c.nd cD] ∧ CalAt w c aR cR aD cD := by
  obtain ⟨xs, k, _, _, hl, hx, hf⟩ := DataW.trod_struct Tryd.underlying26 h
  rw [cells26] at hl
  have f0 := hf 0 _ rfl
  have f1 := hf 1 _ rfl
  have f2 := hf 2 _ rfl
  clear hf h
  match cs, hl with
  | [c0, c1, c2, c3, c4, c5, c6, c7, c8], _ =>
    have hx2 : xs.length = 3 := hx
    match xs, hx2 with
    | [y0, y1, y2], _ =>
      change DataW.trod enc Tryd.prog w base spare held k 22 (([c0, c1, c2, c3, c4, c5, c6, c7, c8].drop 0).take (Tryd.prog.cellsOf 22)) = some y0 at f0
      rw [cells22] at f0
      change DataW.trod enc Tryd.prog w base spare held k 23 (([c0, c1, c2, c3, c4, c5, c6, c7, c8].drop 7).take (Tryd.prog.cellsOf 23)) = some y1 at f1
      rw [cells23] at f1
      change DataW.trod enc Tryd.prog w base spare held k 24 (([c0, c1, c2, c3, c4, c5, c6, c7, c8].drop 8).take (Tryd.prog.cellsOf 24)) = some y2 at f2
      rw [cells24] at f2
      obtain ⟨o, e0⟩ := cell_week f0
      obtain ⟨aR, nr, cR, R, e1, g1⟩ := cell_rules f1
      obtain ⟨aD, nd, cD, X, e2, g2⟩ := cell_days f2
      simp at e0 e1 e2
      obtain ⟨rfl, rfl, rfl, rfl, rfl, rfl, rfl⟩ := e0
      subst e1 e2
      exact ⟨⟨o, nr, R, nd, X⟩, aR, cR, aD, cD, rfl, g1, g2⟩
theorem cells28 : Tryd.prog.cellsOf 28 = 12 := by kernel_rfl
theorem cells_tells (h : DataW.trod enc Tryd.prog w base spare held fuel 28 cs = some x) :
    ∃ (c0 : Ca) (aR0 : Option Addr) (cR0 : Nat) (aD0 : Option Addr) (cD0 : Nat) (x1 : Int) (x2 : Int) (s3 : ByteArray), cs = [.bool (c0.o 0), .bool (c0.o 1), .bool (c0.o 2), .bool (c0.o 3), .bool (c0.o 4), .bool (c0.o 5), .bool (c0.o 6), .slice aR0 c0.nr cR0, .slice aD0 c0.nd cD0, .int .i64 x1, .int .i64 x2, .string s3] ∧ CalAt w c0 aR0 cR0 aD0 cD0 ∧ (-9223372036854775808 ≤ x1 ∧ x1 < 9223372036854775808) ∧ (-9223372036854775808 ≤ x2 ∧ x2 < 9223372036854775808) := by
  obtain ⟨xs, k, _, _, hl, hx, hf⟩ := DataW.trod_struct Tryd.underlying28 h
  rw [cells28] at hl
  have f0 := hf 0 _ rfl
  have f1 := hf 1 _ rfl
  have f2 := hf 2 _ rfl
  have f3 := hf 3 _ rfl
  clear hf h
  match cs, hl with
  | [d0, d1, d2, d3, d4, d5, d6, d7, d8, d9, d10, d11], _ =>
    have hx2 : xs.length = 4 := hx
    match xs, hx2 with
    | [y0, y1, y2, y3], _ =>
      change DataW.trod enc Tryd.prog w base spare held k 26 (([d0, d1, d2, d3, d4, d5, d6, d7, d8, d9, d10, d11].drop 0).take (Tryd.prog.cellsOf 26)) = some y0 at f0
      rw [cells26] at f0
      change DataW.trod enc Tryd.prog w base spare held k 3 (([d0, d1, d2, d3, d4, d5, d6, d7, d8, d9, d10, d11].drop 9).take (Tryd.prog.cellsOf 3)) = some y1 at f1
      rw [cells3] at f1
      change DataW.trod enc Tryd.prog w base spare held k 3 (([d0, d1, d2, d3, d4, d5, d6, d7, d8, d9, d10, d11].drop 10).take (Tryd.prog.cellsOf 3)) = some y2 at f2
      rw [cells3] at f2
      change DataW.trod enc Tryd.prog w base spare held k 9 (([d0, d1, d2, d3, d4, d5, d6, d7, d8, d9, d10, d11].drop 11).take (Tryd.prog.cellsOf 9)) = some y3 at f3
      rw [cells9] at f3
      obtain ⟨c0, aR0, cR0, aD0, cD0, e0, g0⟩ := cells_cal f0
      obtain ⟨x1, e1, g1⟩ := cell_i64 Tryd.underlying3 f1
      obtain ⟨x2, e2, g2⟩ := cell_i64 Tryd.underlying3 f2
      obtain ⟨s3, e3⟩ := cell_str f3
      simp at e0 e1 e2 e3
      obtain ⟨rfl, rfl, rfl, rfl, rfl, rfl, rfl, rfl, rfl⟩ := e0
      subst e1
      subst e2
      subst e3
      exact ⟨c0, aR0, cR0, aD0, cD0, x1, x2, s3, rfl, g0, g1, g2⟩
theorem cells50 : Tryd.prog.cellsOf 50 = 12 := by kernel_rfl
theorem cells_rises (h : DataW.trod enc Tryd.prog w base spare held fuel 50 cs = some x) :
    ∃ (c0 : Ca) (aR0 : Option Addr) (cR0 : Nat) (aD0 : Option Addr) (cD0 : Nat) (x1 : Int) (x2 : Int) (x3 : Int), cs = [.bool (c0.o 0), .bool (c0.o 1), .bool (c0.o 2), .bool (c0.o 3), .bool (c0.o 4), .bool (c0.o 5), .bool (c0.o 6), .slice aR0 c0.nr cR0, .slice aD0 c0.nd cD0, .int .i64 x1, .int .u8 x2, .int .u8 x3] ∧ CalAt w c0 aR0 cR0 aD0 cD0 ∧ (-9223372036854775808 ≤ x1 ∧ x1 < 9223372036854775808) ∧ (0 ≤ x2 ∧ x2 < 256) ∧ (0 ≤ x3 ∧ x3 < 256) := by
  obtain ⟨xs, k, _, _, hl, hx, hf⟩ := DataW.trod_struct Tryd.underlying50 h
  rw [cells50] at hl
  have f0 := hf 0 _ rfl
  have f1 := hf 1 _ rfl
  have f2 := hf 2 _ rfl
  have f3 := hf 3 _ rfl
  clear hf h
  match cs, hl with
  | [d0, d1, d2, d3, d4, d5, d6, d7, d8, d9, d10, d11], _ =>
    have hx2 : xs.length = 4 := hx
    match xs, hx2 with
    | [y0, y1, y2, y3], _ =>
      change DataW.trod enc Tryd.prog w base spare held k 26 (([d0, d1, d2, d3, d4, d5, d6, d7, d8, d9, d10, d11].drop 0).take (Tryd.prog.cellsOf 26)) = some y0 at f0
      rw [cells26] at f0
      change DataW.trod enc Tryd.prog w base spare held k 3 (([d0, d1, d2, d3, d4, d5, d6, d7, d8, d9, d10, d11].drop 9).take (Tryd.prog.cellsOf 3)) = some y1 at f1
      rw [cells3] at f1
      change DataW.trod enc Tryd.prog w base spare held k 5 (([d0, d1, d2, d3, d4, d5, d6, d7, d8, d9, d10, d11].drop 10).take (Tryd.prog.cellsOf 5)) = some y2 at f2
      rw [cells5] at f2
      change DataW.trod enc Tryd.prog w base spare held k 5 (([d0, d1, d2, d3, d4, d5, d6, d7, d8, d9, d10, d11].drop 11).take (Tryd.prog.cellsOf 5)) = some y3 at f3
      rw [cells5] at f3
      obtain ⟨c0, aR0, cR0, aD0, cD0, e0, g0⟩ := cells_cal f0
      obtain ⟨x1, e1, g1⟩ := cell_i64 Tryd.underlying3 f1
      obtain ⟨x2, e2, g2⟩ := cell_u8 Tryd.underlying5 f2
      obtain ⟨x3, e3, g3⟩ := cell_u8 Tryd.underlying5 f3
      simp at e0 e1 e2 e3
      obtain ⟨rfl, rfl, rfl, rfl, rfl, rfl, rfl, rfl, rfl⟩ := e0
      subst e1
      subst e2
      subst e3
      exact ⟨c0, aR0, cR0, aD0, cD0, x1, x2, x3, rfl, g0, g1, g2, g3⟩
end
section
variable {H : Type} {enc : TypeId × Value → H} {w : World} {base : Nat} {spare : Nat → Bool} {held : Bool} {r : Reach} {b0 : Nat} {v : Value} {d : DataW H} {p : List MemPlace}
theorem open_cal (hv : Value.okWide Tryd.prog w r b0 26 v) (h : DataW.Trod enc Tryd.prog w base spare held 26 v d p) :
    ∃ (c : Ca) (aR : Option Addr) (cR : Nat) (aD : Option Addr) (cD : Nat), v = .agg #[.bool (c.o 0), .bool (c.o 1), .bool (c.o 2), .bool (c.o 3), .bool (c.o 4), .bool (c.o 5), .bool (c.o 6), .slice aR c.nr cR, .slice aD c.nd cD] ∧ CalAt w c aR cR aD cD := by
  obtain ⟨cs, rfl, _⟩ := okWide_struct Tryd.underlying26 hv
  obtain ⟨fuel, hf⟩ := h
  obtain ⟨c, aR, cR, aD, cD, hc, hb⟩ := cells_cal hf
  refine ⟨c, aR, cR, aD, cD, ?_, hb⟩
  simp [Value.cells] at hc
  obtain ⟨l⟩ := cs
  simp at hc
  rw [hc]
theorem okw_array {P : Program} {w : World} {r : Reach} {base : Nat} {t : TypeId} {v : Value} {n : Nat} {e : TypeId} (ht : P.underlying t = some (.array n e)) (h : Value.okWide P w r base t v) : ∃ cs, v = .agg cs ∧ cs.size = P.cellsOf t := by
  simp only [Value.okWide, ht] at h
  obtain ⟨cs, h1, h2, _⟩ := h
  exact ⟨cs, h1, h2⟩
theorem open_week (hv : Value.okWide Tryd.prog w r b0 22 v) (h : DataW.Trod enc Tryd.prog w base spare held 22 v d p) : ∃ o : Nat → Bool, v = .agg #[.bool (o 0), .bool (o 1), .bool (o 2), .bool (o 3), .bool (o 4), .bool (o 5), .bool (o 6)] := by
  obtain ⟨cs, rfl, _⟩ := okw_array Tryd.underlying22 hv
  obtain ⟨fuel, hf⟩ := h
  obtain ⟨o, hc⟩ := cell_week hf
  refine ⟨o, ?_⟩
  simp [Value.cells] at hc
  obtain ⟨l⟩ := cs
  simp at hc
  rw [hc]
theorem open_tells (hv : Value.okWide Tryd.prog w r b0 28 v) (h : DataW.Trod enc Tryd.prog w base spare held 28 v d p) :
    ∃ (c0 : Ca) (aR0 : Option Addr) (cR0 : Nat) (aD0 : Option Addr) (cD0 : Nat) (x1 : Int) (x2 : Int) (s3 : ByteArray), v = .agg #[.bool (c0.o 0), .bool (c0.o 1), .bool (c0.o 2), .bool (c0.o 3), .bool (c0.o 4), .bool (c0.o 5), .bool (c0.o 6), .slice aR0 c0.nr cR0, .slice aD0 c0.nd cD0, .int .i64 x1, .int .i64 x2, .string s3] ∧ CalAt w c0 aR0 cR0 aD0 cD0 ∧ (-9223372036854775808 ≤ x1 ∧ x1 < 9223372036854775808) ∧ (-9223372036854775808 ≤ x2 ∧ x2 < 9223372036854775808) := by
  obtain ⟨cs, rfl, _⟩ := okWide_struct Tryd.underlying28 hv
  obtain ⟨fuel, hf⟩ := h
  obtain ⟨c0, aR0, cR0, aD0, cD0, x1, x2, s3, hc, hb⟩ := cells_tells hf
  refine ⟨c0, aR0, cR0, aD0, cD0, x1, x2, s3, ?_, hb⟩
  simp [Value.cells] at hc
  obtain ⟨l⟩ := cs
  simp at hc
  rw [hc]
theorem open_rises (hv : Value.okWide Tryd.prog w r b0 50 v) (h : DataW.Trod enc Tryd.prog w base spare held 50 v d p) :
    ∃ (c0 : Ca) (aR0 : Option Addr) (cR0 : Nat) (aD0 : Option Addr) (cD0 : Nat) (x1 : Int) (x2 : Int) (x3 : Int), v = .agg #[.bool (c0.o 0), .bool (c0.o 1), .bool (c0.o 2), .bool (c0.o 3), .bool (c0.o 4), .bool (c0.o 5), .bool (c0.o 6), .slice aR0 c0.nr cR0, .slice aD0 c0.nd cD0, .int .i64 x1, .int .u8 x2, .int .u8 x3] ∧ CalAt w c0 aR0 cR0 aD0 cD0 ∧ (-9223372036854775808 ≤ x1 ∧ x1 < 9223372036854775808) ∧ (0 ≤ x2 ∧ x2 < 256) ∧ (0 ≤ x3 ∧ x3 < 256) := by
  obtain ⟨cs, rfl, _⟩ := okWide_struct Tryd.underlying50 hv
  obtain ⟨fuel, hf⟩ := h
  obtain ⟨c0, aR0, cR0, aD0, cD0, x1, x2, x3, hc, hb⟩ := cells_rises hf
  refine ⟨c0, aR0, cR0, aD0, cD0, x1, x2, x3, ?_, hb⟩
  simp [Value.cells] at hc
  obtain ⟨l⟩ := cs
  simp at hc
  rw [hc]
end
theorem gNames : Tryd.prog.globalNamed "demurrage/roll.names" = some 0 := by kernel_rfl
theorem tNames : (Tryd.prog.globals[0]?).map (·.type) = some 62 := by kernel_rfl
theorem cells62 : Tryd.prog.cellsOf 62 = 5 := by kernel_rfl
theorem slit_of {H : Type} {enc : TypeId × Value → H} {w : World} {base : Nat} {spare : Nat → Bool} {held : Bool} {fuel : Nat} {cs : List Value} {x : DataW H × List MemPlace} {bs : List UInt8}
    (h : DataW.trod enc Tryd.prog w base spare held fuel 9 cs = some x) (hx : x.1 = .lit (.string bs)) : cs = [.string ⟨bs.toArray⟩] := by
  obtain ⟨s, e1, e2, _⟩ := DataW.trod_string Tryd.underlying9 h
  rw [e2] at hx
  simp at hx
  rw [e1, ← hx]
theorem names_laid {W : World} (h : laidMetH Tryd.prog laidC W) : Names W := by
  rw [MakeChecks.laidMetH_plain _ _ _ (by kernel_rfl)] at h
  obtain ⟨ps, ⟨g0, t0, cs0, f0, p0, q0, hg0, ht0, hv0, hd0, _, _⟩, _, _⟩ := h.tail
  obtain rfl := Option.some.inj (gNames.symm.trans hg0)
  obtain rfl := Option.some.inj (tNames.symm.trans ht0)
  obtain ⟨xs, m1, rfl, hx1, hlen, hn3, hel⟩ := DataW.trod_array Tryd.underlying62 hd0
  rw [cells62] at hlen
  have hc := fun i => World.var?_cell hg0 hv0 i
  simp only [Prod.mk.injEq, Rows.laid_demurrage_roll_names, DataW.agg.injEq] at hx1
  have hx := hx1.1
  clear hx1 hd0 hv0
  obtain ⟨l⟩ := cs0
  match xs, hn3, l, hlen with
  | [x0, x1, x2, x3, x4], _, [c0, c1, c2, c3, c4], _ =>
    simp only [List.map_cons, List.map_nil, List.cons.injEq, and_true] at hx
    obtain ⟨y0, y1, y2, y3, y4⟩ := hx
    have e0 : c0 = .string (rn 0) := by
      have := hel 0 (by decide)
      rw [cells9] at this
      rw [rn_0]
      simpa using slit_of this y0.symm
    have e1 : c1 = .string (rn 1) := by
      have := hel 1 (by decide)
      rw [cells9] at this
      rw [rn_1]
      simpa using slit_of this y1.symm
    have e2 : c2 = .string (rn 2) := by
      have := hel 2 (by decide)
      rw [cells9] at this
      rw [rn_2]
      simpa using slit_of this y2.symm
    have e3 : c3 = .string (rn 3) := by
      have := hel 3 (by decide)
      rw [cells9] at this
      rw [rn_3]
      simpa using slit_of this y3.symm
    have e4 : c4 = .string (rn 4) := by
      have := hel 4 (by decide)
      rw [cells9] at this
      rw [rn_4]
      simpa using slit_of this y4.symm
    intro i hi
    rw [hc i]
    match i, hi with
    | 0, _ => simpa using e0
    | 1, _ => simpa using e1
    | 2, _ => simpa using e2
    | 3, _ => simpa using e3
    | 4, _ => simpa using e4
/-- What the condition gives the walks. -/
theorem of_laid {W : World} (h : laidMetH Tryd.prog laidC W) : FactsW W := ⟨lens_laid h, names_laid h⟩
end Go.Proofs.YtkbhicdcjfpbaaaDoor
