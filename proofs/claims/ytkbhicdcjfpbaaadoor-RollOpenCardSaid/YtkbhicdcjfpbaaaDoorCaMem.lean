/- Calendars in the memory: rows of rules and of days, boxes of nine cells. -/
import Derived.Test.YtkbhicdcjfpbaaaDoorCaNum
import Derived.Test.YtkbhicdcjfpbaaaDoorRuRefD
namespace Go.Proofs.YtkbhicdcjfpbaaaDoor
open Go.RowKit
set_option linter.unusedVariables false
set_option linter.unusedSimpArgs false

theorem Held.box_9 {w W : World} {fs : List Fact} (h : Held w fs W) (B : Nat) (x0 x1 x2 x3 x4 x5 x6 x7 x8 : Value) (t : TypeId) (hB : W.heap.size = B) :
    Held w (.cell B 0 x0 :: .cell B 1 x1 :: .cell B 2 x2 :: .cell B 3 x3 :: .cell B 4 x4 :: .cell B 5 x5 :: .cell B 6 x6 :: .cell B 7 x7 :: .cell B 8 x8 :: .free B 0 :: .free B 1 :: .free B 2 :: .free B 3 :: .free B 4 :: .free B 5 :: .free B 6 :: .free B 7 :: .free B 8 :: fs) (W.alloc (.cells #[x0, x1, x2, x3, x4, x5, x6, x7, x8] t)) := by
  subst hB
  exact ((((((((((((((((((h.alloc _).add (f := .free W.heap.size 8) ⟨by simp, by simp [go_sem]⟩).add (f := .free W.heap.size 7) ⟨by simp, by simp [go_sem]⟩).add (f := .free W.heap.size 6) ⟨by simp, by simp [go_sem]⟩).add (f := .free W.heap.size 5) ⟨by simp, by simp [go_sem]⟩).add (f := .free W.heap.size 4) ⟨by simp, by simp [go_sem]⟩).add (f := .free W.heap.size 3) ⟨by simp, by simp [go_sem]⟩).add (f := .free W.heap.size 2) ⟨by simp, by simp [go_sem]⟩).add (f := .free W.heap.size 1) ⟨by simp, by simp [go_sem]⟩).add (f := .free W.heap.size 0) ⟨by simp, by simp [go_sem]⟩).add (f := .cell W.heap.size 8 x8) (by simp [Fact.at, World.cell?_alloc_new])).add (f := .cell W.heap.size 7 x7) (by simp [Fact.at, World.cell?_alloc_new])).add (f := .cell W.heap.size 6 x6) (by simp [Fact.at, World.cell?_alloc_new])).add (f := .cell W.heap.size 5 x5) (by simp [Fact.at, World.cell?_alloc_new])).add (f := .cell W.heap.size 4 x4) (by simp [Fact.at, World.cell?_alloc_new])).add (f := .cell W.heap.size 3 x3) (by simp [Fact.at, World.cell?_alloc_new])).add (f := .cell W.heap.size 2 x2) (by simp [Fact.at, World.cell?_alloc_new])).add (f := .cell W.heap.size 1 x1) (by simp [Fact.at, World.cell?_alloc_new])).add (f := .cell W.heap.size 0 x0) (by simp [Fact.at, World.cell?_alloc_new])
/-- A slice's cells hold days. -/
def DCells (W : World) (b off : Nat) (X : Nat → Int) (n : Nat) : Prop := ∀ j, j < n → W.cell? ⟨b, off + j, none⟩ = some (.int .i64 (X j))
theorem DCells.below {W W' : World} {b off n : Nat} {X : Nat → Int} (h : DCells W b off X n) (hb : Below W.heap.size W W') : DCells W' b off X n := fun j hj => keep hb (cell_lt (h j hj)) (h j hj)
def DaysAt (W : World) (ao : Option Addr) (X : Nat → Int) (n cap : Nat) : Prop := n ≤ cap ∧ (0 < n → ∃ b off, ao = some ⟨b, off, none⟩ ∧ DCells W b off X n)
theorem DaysAt.below {W W' : World} {ao : Option Addr} {n cap : Nat} {X : Nat → Int} (h : DaysAt W ao X n cap) (hb : Below W.heap.size W W') : DaysAt W' ao X n cap :=
  ⟨h.1, fun hn => by obtain ⟨b, off, e, hc⟩ := h.2 hn; exact ⟨b, off, e, hc.below hb⟩⟩
/-- A slice's cells hold rules, eight cells each. -/
structure RCell (W : World) (b off : Nat) (r : Ru) : Prop where
  c0 : W.cell? ⟨b, off, none⟩ = some (.int .i64 r.k)
  c1 : W.cell? ⟨b, off + 1, none⟩ = some (.int .i64 r.m)
  c2 : W.cell? ⟨b, off + 2, none⟩ = some (.int .i64 r.d)
  c3 : W.cell? ⟨b, off + 3, none⟩ = some (.int .i64 r.q)
  c4 : W.cell? ⟨b, off + 4, none⟩ = some (.int .i64 r.o)
  c5 : W.cell? ⟨b, off + 5, none⟩ = some (.int .i64 r.s)
  c6 : W.cell? ⟨b, off + 6, none⟩ = some (.int .i64 r.f)
  c7 : W.cell? ⟨b, off + 7, none⟩ = some (.int .i64 r.t)
theorem RCell.below {W W' : World} {b off : Nat} {r : Ru} (h : RCell W b off r) (hb : Below W.heap.size W W') : RCell W' b off r :=
  ⟨keep hb (cell_lt h.c0) h.c0, keep hb (cell_lt h.c1) h.c1, keep hb (cell_lt h.c2) h.c2, keep hb (cell_lt h.c3) h.c3, keep hb (cell_lt h.c4) h.c4, keep hb (cell_lt h.c5) h.c5, keep hb (cell_lt h.c6) h.c6, keep hb (cell_lt h.c7) h.c7⟩
def RCells (W : World) (b off : Nat) (R : Nat → Ru) (n : Nat) : Prop := ∀ j, j < n → RCell W b (off + j * 8) (R j)
theorem RCells.below {W W' : World} {b off n : Nat} {R : Nat → Ru} (h : RCells W b off R n) (hb : Below W.heap.size W W') : RCells W' b off R n := fun j hj => (h j hj).below hb
def RulesAt (W : World) (ao : Option Addr) (R : Nat → Ru) (n cap : Nat) : Prop := n ≤ cap ∧ (0 < n → ∃ b off, ao = some ⟨b, off, none⟩ ∧ RCells W b off R n)
theorem RulesAt.below {W W' : World} {ao : Option Addr} {n cap : Nat} {R : Nat → Ru} (h : RulesAt W ao R n cap) (hb : Below W.heap.size W W') : RulesAt W' ao R n cap :=
  ⟨h.1, fun hn => by obtain ⟨b, off, e, hc⟩ := h.2 hn; exact ⟨b, off, e, hc.below hb⟩⟩
/-- Both rows of a calendar. -/
def CalAt (W : World) (c : Ca) (aR : Option Addr) (cR : Nat) (aD : Option Addr) (cD : Nat) : Prop := RulesAt W aR c.R c.nr cR ∧ DaysAt W aD c.X c.nd cD
theorem CalAt.below {W W' : World} {c : Ca} {aR : Option Addr} {cR : Nat} {aD : Option Addr} {cD : Nat} (h : CalAt W c aR cR aD cD) (hb : Below W.heap.size W W') : CalAt W' c aR cR aD cD := ⟨h.1.below hb, h.2.below hb⟩
def calF (c : Ca) (aR : Option Addr) (cR : Nat) (aD : Option Addr) (cD : Nat) : Fact := .that (fun W => CalAt W c aR cR aD cD) (fun _ _ hb h => h.below hb)
theorem Held.cal {w W : World} {fs : List Fact} {c : Ca} {aR : Option Addr} {cR : Nat} {aD : Option Addr} {cD : Nat} (h : Held w fs W) (hm : calF c aR cR aD cD ∈ fs) : CalAt W c aR cR aD cD := h.all _ hm
theorem off_at {W : World} {B v : Nat} {o : Nat → Bool} (v7 : v < 7) (h0 : W.cell? ⟨B, 0, none⟩ = some (.bool (o 0))) (h1 : W.cell? ⟨B, 1, none⟩ = some (.bool (o 1))) (h2 : W.cell? ⟨B, 2, none⟩ = some (.bool (o 2))) (h3 : W.cell? ⟨B, 3, none⟩ = some (.bool (o 3))) (h4 : W.cell? ⟨B, 4, none⟩ = some (.bool (o 4))) (h5 : W.cell? ⟨B, 5, none⟩ = some (.bool (o 5))) (h6 : W.cell? ⟨B, 6, none⟩ = some (.bool (o 6))) : W.cell? ⟨B, v, none⟩ = some (.bool (o v)) := by
  match v, v7 with
  | 0, _ => exact h0
  | 1, _ => exact h1
  | 2, _ => exact h2
  | 3, _ => exact h3
  | 4, _ => exact h4
  | 5, _ => exact h5
  | 6, _ => exact h6
theorem add_plain13 (b off j : Nat) : (⟨b, off, none⟩ : Addr).add j = ⟨b, off + j, none⟩ := by
  unfold Addr.add
  split
  · next h => subst h; rfl
  · rfl
theorem rday13_is (n : Int) (b : Bool) (w : World) (h : decide (1 ≤ n ∧ n ≤ 3652059) = b) : Calls Tryd.prog 22 #[.int .i64 n] w fun e w' => e = .returned (.bool b) ∧ w = w' := by
  have HB := Lib.hid h
  clear h
  go_enter Tryd.func22, Tryd.ntmps22
  go_wp2
  all_goals (go_ret; refine ⟨retB ?_, rfl⟩; rw [← HB.out]; rw [Bool.eq_iff_iff]; (try simp only [ge_iff_le, Bool.and_eq_true, decide_eq_true_eq, Bool.false_eq_true, false_iff, true_iff]); omega)
end Go.Proofs.YtkbhicdcjfpbaaaDoor
