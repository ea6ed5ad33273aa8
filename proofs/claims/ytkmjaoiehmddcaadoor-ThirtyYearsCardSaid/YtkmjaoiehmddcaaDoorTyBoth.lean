/- Package thirty: two days, the second one not ahead of the first one. -/
import Derived.Test.YtkmjaoiehmddcaaDoorTyTell
import Derived.Test.YtkmjaoiehmddcaaDoorMoMonths
namespace Go.Proofs.YtkmjaoiehmddcaaDoor
open Go.RowKit
set_option linter.unusedVariables false
set_option linter.unusedSimpArgs false

theorem Lens.off7 {w : World} (hL : Lens w) {B : Nat} (hB : w.heap.size ≤ B) : lensF.off B := by
  intro W o u h i hi
  have k : 0 < w.heap.size := cell_lt (hL 0 (by decide))
  exact (World.cell?_setCell_far W ⟨B, o, none⟩ ⟨0, i, none⟩ u (show B ≠ 0 by omega)).trans (h i hi)
theorem Held.put4 {w W : World} {fs : List Fact} (h : Held w fs W) (B : Nat) (u0 u1 u2 u3 v0 v1 v2 v3 : Value) (hB : w.heap.size ≤ B) (hoff : ∀ f ∈ fs, f.off B)
    (c0 : W.cell? ⟨B, 0, none⟩ = Option.some v0) (c1 : W.cell? ⟨B, 1, none⟩ = Option.some v1) (c2 : W.cell? ⟨B, 2, none⟩ = Option.some v2) (c3 : W.cell? ⟨B, 3, none⟩ = Option.some v3) :
    Held w (.cell B 0 u0 :: .cell B 1 u1 :: .cell B 2 u2 :: .cell B 3 u3 :: fs) ((((W.setCell ⟨B, 0, none⟩ u0).setCell ⟨B, 1, none⟩ u1).setCell ⟨B, 2, none⟩ u2).setCell ⟨B, 3, none⟩ u3) := by
  have hh := (((h.set B 0 u0 hB hoff).set B 1 u1 hB hoff).set B 2 u2 hB hoff).set B 3 u3 hB hoff
  exact (((hh.add (f := .cell B 3 u3) (by simp [Fact.at, go_sem, c0, c1, c2, c3])).add (f := .cell B 2 u2) (by simp [Fact.at, go_sem, c0, c1, c2, c3])).add (f := .cell B 1 u1) (by simp [Fact.at, go_sem, c0, c1, c2, c3])).add (f := .cell B 0 u0) (by simp [Fact.at, go_sem, c0, c1, c2, c3])
/-- Two boxes of four cells, and the table. -/
def two (B C : Nat) (f0 f1 f2 f3 t0 t1 t2 t3 : Value) : List Fact :=
  [.cell B 0 f0, .cell B 1 f1, .cell B 2 f2, .cell B 3 f3, .cell C 0 t0, .cell C 1 t1, .cell C 2 t2, .cell C 3 t3, .free B 0, .free B 1, .free B 2, .free B 3, .free C 0, .free C 1, .free C 2, .free C 3, lensF]
theorem Held.putF {w W : World} {B C : Nat} {f0 f1 f2 f3 t0 t1 t2 t3 : Value} (h : Held w (two B C f0 f1 f2 f3 t0 t1 t2 t3) W) (u0 u1 u2 u3 : Value) (hB : w.heap.size ≤ B) (hBC : C ≠ B) (hL : lensF.off B) :
    Held w (two B C u0 u1 u2 u3 t0 t1 t2 t3) ((((W.setCell ⟨B, 0, none⟩ u0).setCell ⟨B, 1, none⟩ u1).setCell ⟨B, 2, none⟩ u2).setCell ⟨B, 3, none⟩ u3) := by
  have a : Held w [.cell C 0 t0, .cell C 1 t1, .cell C 2 t2, .cell C 3 t3, .free B 0, .free B 1, .free B 2, .free B 3, .free C 0, .free C 1, .free C 2, .free C 3, lensF] W := h.sub (by simp [two])
  have off : ∀ f ∈ [Fact.cell C 0 t0, .cell C 1 t1, .cell C 2 t2, .cell C 3 t3, .free B 0, .free B 1, .free B 2, .free B 3, .free C 0, .free C 1, .free C 2, .free C 3, lensF], f.off B := by
    simp only [List.mem_cons, List.not_mem_nil, or_false, forall_eq_or_imp, forall_eq]
    exact ⟨hBC, hBC, hBC, hBC, trivial, trivial, trivial, trivial, trivial, trivial, trivial, trivial, hL⟩
  exact a.put4 B u0 u1 u2 u3 f0 f1 f2 f3 hB off (h.cell B 0 f0 (by simp [two])) (h.cell B 1 f1 (by simp [two])) (h.cell B 2 f2 (by simp [two])) (h.cell B 3 f3 (by simp [two]))
theorem Held.putT {w W : World} {B C : Nat} {f0 f1 f2 f3 t0 t1 t2 t3 : Value} (h : Held w (two B C f0 f1 f2 f3 t0 t1 t2 t3) W) (u0 u1 u2 u3 : Value) (hC : w.heap.size ≤ C) (hBC : B ≠ C) (hL : lensF.off C) :
    Held w (two B C f0 f1 f2 f3 u0 u1 u2 u3) ((((W.setCell ⟨C, 0, none⟩ u0).setCell ⟨C, 1, none⟩ u1).setCell ⟨C, 2, none⟩ u2).setCell ⟨C, 3, none⟩ u3) := by
  have a : Held w [.cell B 0 f0, .cell B 1 f1, .cell B 2 f2, .cell B 3 f3, .free B 0, .free B 1, .free B 2, .free B 3, .free C 0, .free C 1, .free C 2, .free C 3, lensF] W := h.sub (by simp [two])
  have off : ∀ f ∈ [Fact.cell B 0 f0, .cell B 1 f1, .cell B 2 f2, .cell B 3 f3, .free B 0, .free B 1, .free B 2, .free B 3, .free C 0, .free C 1, .free C 2, .free C 3, lensF], f.off C := by
    simp only [List.mem_cons, List.not_mem_nil, or_false, forall_eq_or_imp, forall_eq]
    exact ⟨hBC, hBC, hBC, hBC, trivial, trivial, trivial, trivial, trivial, trivial, trivial, trivial, hL⟩
  exact (a.put4 C u0 u1 u2 u3 t0 t1 t2 t3 hC off (h.cell C 0 t0 (by simp [two])) (h.cell C 1 t1 (by simp [two])) (h.cell C 2 t2 (by simp [two])) (h.cell C 3 t3 (by simp [two]))).sub (by simp [two])

set_option maxHeartbeats 1000000 in
set_option maxRecDepth 100000 in
theorem both_no1 (a b : Int) (w : World) (RD : Hid ReadSays) (hL : Lens w) (h1 : SeatIs a 0 0 0 false 3) :
    Calls Tryd.prog 26 #[.int .i64 a, .int .i64 b] w fun e' w' => e' = .returned (.tuple #[.agg #[.int .i64 0, .int .i64 0, .bool false, .int .i64 0], .agg #[.int .i64 0, .int .i64 0, .bool false, .int .i64 0], .int .i64 3]) ∧ Below w.heap.size w w' := by
  have H := (Held.start w).add (f := lensF) hL
  have OF : Hid (∀ B, w.heap.size ≤ B → lensF.off B) := Lib.hid (fun B h => hL.off7 h)
  have S1 := Lib.hid h1
  clear h1
  clear hL
  go_enter Tryd.func26, Tryd.ntmps26
  go_wp2_with fail
  replace H := ((H.quad (w.heap.size) (.int .i64 0) (.int .i64 0) (.bool false) (.int .i64 0) 66 rfl).quad (w.heap.size + 1) (.int .i64 0) (.int .i64 0) (.bool false) (.int .i64 0) 66 (by simp))
  (with_reducible refine (RD.out.says a 0 0 0 3 false _ (H.lens (List.Mem.tail _ (List.Mem.tail _ (List.Mem.tail _ (List.Mem.tail _ (List.Mem.tail _ (List.Mem.tail _ (List.Mem.tail _ (List.Mem.tail _ (List.Mem.tail _ (List.Mem.tail _ (List.Mem.tail _ (List.Mem.tail _ (List.Mem.tail _ (List.Mem.tail _ (List.Mem.tail _ (List.Mem.tail _ (List.Mem.head _)))))))))))))))))) S1.out).mono ?_)
  rintro e w1 ⟨rfl, hb⟩
  replace H := H.below hb
  clear hb
  replace H : Held w (two (w.heap.size) (w.heap.size + 1) (.int .i64 0) (.int .i64 0) (.bool false) (.int .i64 0) (.int .i64 0) (.int .i64 0) (.bool false) (.int .i64 0)) w1 := H.sub (by simp [two])
  have cf0 := H.cell (w.heap.size) 0 (.int .i64 0) (by simp [two])
  have ff0 := H.frozen (w.heap.size) 0 (by simp [two])
  have cf1 := H.cell (w.heap.size) 1 (.int .i64 0) (by simp [two])
  have ff1 := H.frozen (w.heap.size) 1 (by simp [two])
  have cf2 := H.cell (w.heap.size) 2 (.bool false) (by simp [two])
  have ff2 := H.frozen (w.heap.size) 2 (by simp [two])
  have cf3 := H.cell (w.heap.size) 3 (.int .i64 0) (by simp [two])
  have ff3 := H.frozen (w.heap.size) 3 (by simp [two])
  have lf := H.lt (w.heap.size) 0 (.int .i64 0) (by simp [two])
  have ct0 := H.cell (w.heap.size + 1) 0 (.int .i64 0) (by simp [two])
  have ft0 := H.frozen (w.heap.size + 1) 0 (by simp [two])
  have ct1 := H.cell (w.heap.size + 1) 1 (.int .i64 0) (by simp [two])
  have ft1 := H.frozen (w.heap.size + 1) 1 (by simp [two])
  have ct2 := H.cell (w.heap.size + 1) 2 (.bool false) (by simp [two])
  have ft2 := H.frozen (w.heap.size + 1) 2 (by simp [two])
  have ct3 := H.cell (w.heap.size + 1) 3 (.int .i64 0) (by simp [two])
  have ft3 := H.frozen (w.heap.size + 1) 3 (by simp [two])
  have lt := H.lt (w.heap.size + 1) 0 (.int .i64 0) (by simp [two])
  go_wp2_with fail
  clear cf0 cf1 cf2 cf3 ct0 ct1 ct2 ct3 ff0 ff1 ff2 ff3 ft0 ft1 ft2 ft3 lf lt
  replace H := (((H.putF (.int .i64 0) (.int .i64 0) (.bool false) (.int .i64 0) (by simp) (by simp) (OF.out _ (by simp))).putF (.int .i64 0) (.int .i64 0) (.bool false) (.int .i64 0) (by simp) (by simp) (OF.out _ (by simp))).putT (.int .i64 0) (.int .i64 0) (.bool false) (.int .i64 0) (by simp) (by simp) (OF.out _ (by simp)))
  revert H
  generalize World.setCell _ _ _ = W9
  intro H
  have HB := H.old
  have cf0 := H.cell (w.heap.size) 0 (.int .i64 0) (by simp [two])
  have ff0 := H.frozen (w.heap.size) 0 (by simp [two])
  have cf1 := H.cell (w.heap.size) 1 (.int .i64 0) (by simp [two])
  have ff1 := H.frozen (w.heap.size) 1 (by simp [two])
  have cf2 := H.cell (w.heap.size) 2 (.bool false) (by simp [two])
  have ff2 := H.frozen (w.heap.size) 2 (by simp [two])
  have cf3 := H.cell (w.heap.size) 3 (.int .i64 0) (by simp [two])
  have ff3 := H.frozen (w.heap.size) 3 (by simp [two])
  have lf := H.lt (w.heap.size) 0 (.int .i64 0) (by simp [two])
  have ct0 := H.cell (w.heap.size + 1) 0 (.int .i64 0) (by simp [two])
  have ft0 := H.frozen (w.heap.size + 1) 0 (by simp [two])
  have ct1 := H.cell (w.heap.size + 1) 1 (.int .i64 0) (by simp [two])
  have ft1 := H.frozen (w.heap.size + 1) 1 (by simp [two])
  have ct2 := H.cell (w.heap.size + 1) 2 (.bool false) (by simp [two])
  have ft2 := H.frozen (w.heap.size + 1) 2 (by simp [two])
  have ct3 := H.cell (w.heap.size + 1) 3 (.int .i64 0) (by simp [two])
  have ft3 := H.frozen (w.heap.size + 1) 3 (by simp [two])
  have lt := H.lt (w.heap.size + 1) 0 (.int .i64 0) (by simp [two])
  exact bodyPost_ret (v := .tuple #[.agg #[.int .i64 0, .int .i64 0, .bool false, .int .i64 0], .agg #[.int .i64 0, .int .i64 0, .bool false, .int .i64 0], .int .i64 3]) (by simp [results, Tryd.results26, go_sem, cf0, cf1, cf2, cf3, ct0, ct1, ct2, ct3]) rfl ⟨rfl, HB⟩

set_option maxHeartbeats 1000000 in
set_option maxRecDepth 100000 in
theorem both_no2 (a b y1 m1 d1 : Int) (l1 : Bool) (w : World) (RD : Hid ReadSays) (hL : Lens w) (h1 : SeatIs a y1 m1 d1 l1 0) (h2 : SeatIs b 0 0 0 false 3) :
    Calls Tryd.prog 26 #[.int .i64 a, .int .i64 b] w fun e' w' => e' = .returned (.tuple #[.agg #[.int .i64 0, .int .i64 0, .bool false, .int .i64 0], .agg #[.int .i64 0, .int .i64 0, .bool false, .int .i64 0], .int .i64 3]) ∧ Below w.heap.size w w' := by
  have H := (Held.start w).add (f := lensF) hL
  have OF : Hid (∀ B, w.heap.size ≤ B → lensF.off B) := Lib.hid (fun B h => hL.off7 h)
  have S1 := Lib.hid h1
  have S2 := Lib.hid h2
  clear h1 h2
  clear hL
  go_enter Tryd.func26, Tryd.ntmps26
  go_wp2_with fail
  replace H := ((H.quad (w.heap.size) (.int .i64 0) (.int .i64 0) (.bool false) (.int .i64 0) 66 rfl).quad (w.heap.size + 1) (.int .i64 0) (.int .i64 0) (.bool false) (.int .i64 0) 66 (by simp))
  (with_reducible refine (RD.out.says a y1 m1 d1 0 l1 _ (H.lens (List.Mem.tail _ (List.Mem.tail _ (List.Mem.tail _ (List.Mem.tail _ (List.Mem.tail _ (List.Mem.tail _ (List.Mem.tail _ (List.Mem.tail _ (List.Mem.tail _ (List.Mem.tail _ (List.Mem.tail _ (List.Mem.tail _ (List.Mem.tail _ (List.Mem.tail _ (List.Mem.tail _ (List.Mem.tail _ (List.Mem.head _)))))))))))))))))) S1.out).mono ?_)
  rintro e w1 ⟨rfl, hb⟩
  replace H := H.below hb
  clear hb
  replace H : Held w (two (w.heap.size) (w.heap.size + 1) (.int .i64 0) (.int .i64 0) (.bool false) (.int .i64 0) (.int .i64 0) (.int .i64 0) (.bool false) (.int .i64 0)) w1 := H.sub (by simp [two])
  have cf0 := H.cell (w.heap.size) 0 (.int .i64 0) (by simp [two])
  have ff0 := H.frozen (w.heap.size) 0 (by simp [two])
  have cf1 := H.cell (w.heap.size) 1 (.int .i64 0) (by simp [two])
  have ff1 := H.frozen (w.heap.size) 1 (by simp [two])
  have cf2 := H.cell (w.heap.size) 2 (.bool false) (by simp [two])
  have ff2 := H.frozen (w.heap.size) 2 (by simp [two])
  have cf3 := H.cell (w.heap.size) 3 (.int .i64 0) (by simp [two])
  have ff3 := H.frozen (w.heap.size) 3 (by simp [two])
  have lf := H.lt (w.heap.size) 0 (.int .i64 0) (by simp [two])
  have ct0 := H.cell (w.heap.size + 1) 0 (.int .i64 0) (by simp [two])
  have ft0 := H.frozen (w.heap.size + 1) 0 (by simp [two])
  have ct1 := H.cell (w.heap.size + 1) 1 (.int .i64 0) (by simp [two])
  have ft1 := H.frozen (w.heap.size + 1) 1 (by simp [two])
  have ct2 := H.cell (w.heap.size + 1) 2 (.bool false) (by simp [two])
  have ft2 := H.frozen (w.heap.size + 1) 2 (by simp [two])
  have ct3 := H.cell (w.heap.size + 1) 3 (.int .i64 0) (by simp [two])
  have ft3 := H.frozen (w.heap.size + 1) 3 (by simp [two])
  have lt := H.lt (w.heap.size + 1) 0 (.int .i64 0) (by simp [two])
  go_wp2_with fail
  clear cf0 cf1 cf2 cf3 ct0 ct1 ct2 ct3 ff0 ff1 ff2 ff3 ft0 ft1 ft2 ft3 lf lt
  replace H := (H.putF (.int .i64 m1) (.int .i64 d1) (.bool l1) (.int .i64 y1) (by simp) (by simp) (OF.out _ (by simp)))
  (with_reducible refine (RD.out.says b 0 0 0 3 false _ (H.lens (by simp [two])) S2.out).mono ?_)
  rintro e w2 ⟨rfl, hb⟩
  replace H := H.below hb
  clear hb
  have cf0 := H.cell (w.heap.size) 0 (.int .i64 m1) (by simp [two])
  have ff0 := H.frozen (w.heap.size) 0 (by simp [two])
  have cf1 := H.cell (w.heap.size) 1 (.int .i64 d1) (by simp [two])
  have ff1 := H.frozen (w.heap.size) 1 (by simp [two])
  have cf2 := H.cell (w.heap.size) 2 (.bool l1) (by simp [two])
  have ff2 := H.frozen (w.heap.size) 2 (by simp [two])
  have cf3 := H.cell (w.heap.size) 3 (.int .i64 y1) (by simp [two])
  have ff3 := H.frozen (w.heap.size) 3 (by simp [two])
  have lf := H.lt (w.heap.size) 0 (.int .i64 m1) (by simp [two])
  have ct0 := H.cell (w.heap.size + 1) 0 (.int .i64 0) (by simp [two])
  have ft0 := H.frozen (w.heap.size + 1) 0 (by simp [two])
  have ct1 := H.cell (w.heap.size + 1) 1 (.int .i64 0) (by simp [two])
  have ft1 := H.frozen (w.heap.size + 1) 1 (by simp [two])
  have ct2 := H.cell (w.heap.size + 1) 2 (.bool false) (by simp [two])
  have ft2 := H.frozen (w.heap.size + 1) 2 (by simp [two])
  have ct3 := H.cell (w.heap.size + 1) 3 (.int .i64 0) (by simp [two])
  have ft3 := H.frozen (w.heap.size + 1) 3 (by simp [two])
  have lt := H.lt (w.heap.size + 1) 0 (.int .i64 0) (by simp [two])
  go_wp2_with fail
  clear cf0 cf1 cf2 cf3 ct0 ct1 ct2 ct3 ff0 ff1 ff2 ff3 ft0 ft1 ft2 ft3 lf lt
  replace H := (((H.putT (.int .i64 0) (.int .i64 0) (.bool false) (.int .i64 0) (by simp) (by simp) (OF.out _ (by simp))).putF (.int .i64 0) (.int .i64 0) (.bool false) (.int .i64 0) (by simp) (by simp) (OF.out _ (by simp))).putT (.int .i64 0) (.int .i64 0) (.bool false) (.int .i64 0) (by simp) (by simp) (OF.out _ (by simp)))
  revert H
  generalize World.setCell _ _ _ = W9
  intro H
  have HB := H.old
  have cf0 := H.cell (w.heap.size) 0 (.int .i64 0) (by simp [two])
  have ff0 := H.frozen (w.heap.size) 0 (by simp [two])
  have cf1 := H.cell (w.heap.size) 1 (.int .i64 0) (by simp [two])
  have ff1 := H.frozen (w.heap.size) 1 (by simp [two])
  have cf2 := H.cell (w.heap.size) 2 (.bool false) (by simp [two])
  have ff2 := H.frozen (w.heap.size) 2 (by simp [two])
  have cf3 := H.cell (w.heap.size) 3 (.int .i64 0) (by simp [two])
  have ff3 := H.frozen (w.heap.size) 3 (by simp [two])
  have lf := H.lt (w.heap.size) 0 (.int .i64 0) (by simp [two])
  have ct0 := H.cell (w.heap.size + 1) 0 (.int .i64 0) (by simp [two])
  have ft0 := H.frozen (w.heap.size + 1) 0 (by simp [two])
  have ct1 := H.cell (w.heap.size + 1) 1 (.int .i64 0) (by simp [two])
  have ft1 := H.frozen (w.heap.size + 1) 1 (by simp [two])
  have ct2 := H.cell (w.heap.size + 1) 2 (.bool false) (by simp [two])
  have ft2 := H.frozen (w.heap.size + 1) 2 (by simp [two])
  have ct3 := H.cell (w.heap.size + 1) 3 (.int .i64 0) (by simp [two])
  have ft3 := H.frozen (w.heap.size + 1) 3 (by simp [two])
  have lt := H.lt (w.heap.size + 1) 0 (.int .i64 0) (by simp [two])
  exact bodyPost_ret (v := .tuple #[.agg #[.int .i64 0, .int .i64 0, .bool false, .int .i64 0], .agg #[.int .i64 0, .int .i64 0, .bool false, .int .i64 0], .int .i64 3]) (by simp [results, Tryd.results26, go_sem, cf0, cf1, cf2, cf3, ct0, ct1, ct2, ct3]) rfl ⟨rfl, HB⟩

set_option maxHeartbeats 1000000 in
set_option maxRecDepth 100000 in
theorem both_gt (a b y1 m1 d1 y2 m2 d2 : Int) (l1 l2 : Bool) (w : World) (RD : Hid ReadSays) (hL : Lens w) (h1 : SeatIs a y1 m1 d1 l1 0) (h2 : SeatIs b y2 m2 d2 l2 0) (h : a > b) :
    Calls Tryd.prog 26 #[.int .i64 a, .int .i64 b] w fun e' w' => e' = .returned (.tuple #[.agg #[.int .i64 0, .int .i64 0, .bool false, .int .i64 0], .agg #[.int .i64 0, .int .i64 0, .bool false, .int .i64 0], .int .i64 4]) ∧ Below w.heap.size w w' := by
  have H := (Held.start w).add (f := lensF) hL
  have OF : Hid (∀ B, w.heap.size ≤ B → lensF.off B) := Lib.hid (fun B h => hL.off7 h)
  have S1 := Lib.hid h1
  have S2 := Lib.hid h2
  clear h1 h2
  clear hL
  go_enter Tryd.func26, Tryd.ntmps26
  go_wp2_with fail
  replace H := ((H.quad (w.heap.size) (.int .i64 0) (.int .i64 0) (.bool false) (.int .i64 0) 66 rfl).quad (w.heap.size + 1) (.int .i64 0) (.int .i64 0) (.bool false) (.int .i64 0) 66 (by simp))
  (with_reducible refine (RD.out.says a y1 m1 d1 0 l1 _ (H.lens (List.Mem.tail _ (List.Mem.tail _ (List.Mem.tail _ (List.Mem.tail _ (List.Mem.tail _ (List.Mem.tail _ (List.Mem.tail _ (List.Mem.tail _ (List.Mem.tail _ (List.Mem.tail _ (List.Mem.tail _ (List.Mem.tail _ (List.Mem.tail _ (List.Mem.tail _ (List.Mem.tail _ (List.Mem.tail _ (List.Mem.head _)))))))))))))))))) S1.out).mono ?_)
  rintro e w1 ⟨rfl, hb⟩
  replace H := H.below hb
  clear hb
  replace H : Held w (two (w.heap.size) (w.heap.size + 1) (.int .i64 0) (.int .i64 0) (.bool false) (.int .i64 0) (.int .i64 0) (.int .i64 0) (.bool false) (.int .i64 0)) w1 := H.sub (by simp [two])
  have cf0 := H.cell (w.heap.size) 0 (.int .i64 0) (by simp [two])
  have ff0 := H.frozen (w.heap.size) 0 (by simp [two])
  have cf1 := H.cell (w.heap.size) 1 (.int .i64 0) (by simp [two])
  have ff1 := H.frozen (w.heap.size) 1 (by simp [two])
  have cf2 := H.cell (w.heap.size) 2 (.bool false) (by simp [two])
  have ff2 := H.frozen (w.heap.size) 2 (by simp [two])
  have cf3 := H.cell (w.heap.size) 3 (.int .i64 0) (by simp [two])
  have ff3 := H.frozen (w.heap.size) 3 (by simp [two])
  have lf := H.lt (w.heap.size) 0 (.int .i64 0) (by simp [two])
  have ct0 := H.cell (w.heap.size + 1) 0 (.int .i64 0) (by simp [two])
  have ft0 := H.frozen (w.heap.size + 1) 0 (by simp [two])
  have ct1 := H.cell (w.heap.size + 1) 1 (.int .i64 0) (by simp [two])
  have ft1 := H.frozen (w.heap.size + 1) 1 (by simp [two])
  have ct2 := H.cell (w.heap.size + 1) 2 (.bool false) (by simp [two])
  have ft2 := H.frozen (w.heap.size + 1) 2 (by simp [two])
  have ct3 := H.cell (w.heap.size + 1) 3 (.int .i64 0) (by simp [two])
  have ft3 := H.frozen (w.heap.size + 1) 3 (by simp [two])
  have lt := H.lt (w.heap.size + 1) 0 (.int .i64 0) (by simp [two])
  go_wp2_with fail
  clear cf0 cf1 cf2 cf3 ct0 ct1 ct2 ct3 ff0 ff1 ff2 ff3 ft0 ft1 ft2 ft3 lf lt
  replace H := (H.putF (.int .i64 m1) (.int .i64 d1) (.bool l1) (.int .i64 y1) (by simp) (by simp) (OF.out _ (by simp)))
  (with_reducible refine (RD.out.says b y2 m2 d2 0 l2 _ (H.lens (by simp [two])) S2.out).mono ?_)
  rintro e w2 ⟨rfl, hb⟩
  replace H := H.below hb
  clear hb
  have cf0 := H.cell (w.heap.size) 0 (.int .i64 m1) (by simp [two])
  have ff0 := H.frozen (w.heap.size) 0 (by simp [two])
  have cf1 := H.cell (w.heap.size) 1 (.int .i64 d1) (by simp [two])
  have ff1 := H.frozen (w.heap.size) 1 (by simp [two])
  have cf2 := H.cell (w.heap.size) 2 (.bool l1) (by simp [two])
  have ff2 := H.frozen (w.heap.size) 2 (by simp [two])
  have cf3 := H.cell (w.heap.size) 3 (.int .i64 y1) (by simp [two])
  have ff3 := H.frozen (w.heap.size) 3 (by simp [two])
  have lf := H.lt (w.heap.size) 0 (.int .i64 m1) (by simp [two])
  have ct0 := H.cell (w.heap.size + 1) 0 (.int .i64 0) (by simp [two])
  have ft0 := H.frozen (w.heap.size + 1) 0 (by simp [two])
  have ct1 := H.cell (w.heap.size + 1) 1 (.int .i64 0) (by simp [two])
  have ft1 := H.frozen (w.heap.size + 1) 1 (by simp [two])
  have ct2 := H.cell (w.heap.size + 1) 2 (.bool false) (by simp [two])
  have ft2 := H.frozen (w.heap.size + 1) 2 (by simp [two])
  have ct3 := H.cell (w.heap.size + 1) 3 (.int .i64 0) (by simp [two])
  have ft3 := H.frozen (w.heap.size + 1) 3 (by simp [two])
  have lt := H.lt (w.heap.size + 1) 0 (.int .i64 0) (by simp [two])
  go_wp2_with fail
  clear cf0 cf1 cf2 cf3 ct0 ct1 ct2 ct3 ff0 ff1 ff2 ff3 ft0 ft1 ft2 ft3 lf lt
  replace H := (((H.putT (.int .i64 m2) (.int .i64 d2) (.bool l2) (.int .i64 y2) (by simp) (by simp) (OF.out _ (by simp))).putF (.int .i64 0) (.int .i64 0) (.bool false) (.int .i64 0) (by simp) (by simp) (OF.out _ (by simp))).putT (.int .i64 0) (.int .i64 0) (.bool false) (.int .i64 0) (by simp) (by simp) (OF.out _ (by simp)))
  revert H
  generalize World.setCell _ _ _ = W9
  intro H
  have HB := H.old
  have cf0 := H.cell (w.heap.size) 0 (.int .i64 0) (by simp [two])
  have ff0 := H.frozen (w.heap.size) 0 (by simp [two])
  have cf1 := H.cell (w.heap.size) 1 (.int .i64 0) (by simp [two])
  have ff1 := H.frozen (w.heap.size) 1 (by simp [two])
  have cf2 := H.cell (w.heap.size) 2 (.bool false) (by simp [two])
  have ff2 := H.frozen (w.heap.size) 2 (by simp [two])
  have cf3 := H.cell (w.heap.size) 3 (.int .i64 0) (by simp [two])
  have ff3 := H.frozen (w.heap.size) 3 (by simp [two])
  have lf := H.lt (w.heap.size) 0 (.int .i64 0) (by simp [two])
  have ct0 := H.cell (w.heap.size + 1) 0 (.int .i64 0) (by simp [two])
  have ft0 := H.frozen (w.heap.size + 1) 0 (by simp [two])
  have ct1 := H.cell (w.heap.size + 1) 1 (.int .i64 0) (by simp [two])
  have ft1 := H.frozen (w.heap.size + 1) 1 (by simp [two])
  have ct2 := H.cell (w.heap.size + 1) 2 (.bool false) (by simp [two])
  have ft2 := H.frozen (w.heap.size + 1) 2 (by simp [two])
  have ct3 := H.cell (w.heap.size + 1) 3 (.int .i64 0) (by simp [two])
  have ft3 := H.frozen (w.heap.size + 1) 3 (by simp [two])
  have lt := H.lt (w.heap.size + 1) 0 (.int .i64 0) (by simp [two])
  exact bodyPost_ret (v := .tuple #[.agg #[.int .i64 0, .int .i64 0, .bool false, .int .i64 0], .agg #[.int .i64 0, .int .i64 0, .bool false, .int .i64 0], .int .i64 4]) (by simp [results, Tryd.results26, go_sem, cf0, cf1, cf2, cf3, ct0, ct1, ct2, ct3]) rfl ⟨rfl, HB⟩

set_option maxHeartbeats 1000000 in
set_option maxRecDepth 100000 in
theorem both_ok (a b y1 m1 d1 y2 m2 d2 : Int) (l1 l2 : Bool) (w : World) (RD : Hid ReadSays) (hL : Lens w) (h1 : SeatIs a y1 m1 d1 l1 0) (h2 : SeatIs b y2 m2 d2 l2 0) (h : ¬ a > b) :
    Calls Tryd.prog 26 #[.int .i64 a, .int .i64 b] w fun e' w' => e' = .returned (.tuple #[.agg #[.int .i64 m1, .int .i64 d1, .bool l1, .int .i64 y1], .agg #[.int .i64 m2, .int .i64 d2, .bool l2, .int .i64 y2], .int .i64 0]) ∧ Below w.heap.size w w' := by
  have H := (Held.start w).add (f := lensF) hL
  have OF : Hid (∀ B, w.heap.size ≤ B → lensF.off B) := Lib.hid (fun B h => hL.off7 h)
  have S1 := Lib.hid h1
  have S2 := Lib.hid h2
  clear h1 h2
  clear hL
  go_enter Tryd.func26, Tryd.ntmps26
  go_wp2_with fail
  replace H := ((H.quad (w.heap.size) (.int .i64 0) (.int .i64 0) (.bool false) (.int .i64 0) 66 rfl).quad (w.heap.size + 1) (.int .i64 0) (.int .i64 0) (.bool false) (.int .i64 0) 66 (by simp))
  (with_reducible refine (RD.out.says a y1 m1 d1 0 l1 _ (H.lens (List.Mem.tail _ (List.Mem.tail _ (List.Mem.tail _ (List.Mem.tail _ (List.Mem.tail _ (List.Mem.tail _ (List.Mem.tail _ (List.Mem.tail _ (List.Mem.tail _ (List.Mem.tail _ (List.Mem.tail _ (List.Mem.tail _ (List.Mem.tail _ (List.Mem.tail _ (List.Mem.tail _ (List.Mem.tail _ (List.Mem.head _)))))))))))))))))) S1.out).mono ?_)
  rintro e w1 ⟨rfl, hb⟩
  replace H := H.below hb
  clear hb
  replace H : Held w (two (w.heap.size) (w.heap.size + 1) (.int .i64 0) (.int .i64 0) (.bool false) (.int .i64 0) (.int .i64 0) (.int .i64 0) (.bool false) (.int .i64 0)) w1 := H.sub (by simp [two])
  have cf0 := H.cell (w.heap.size) 0 (.int .i64 0) (by simp [two])
  have ff0 := H.frozen (w.heap.size) 0 (by simp [two])
  have cf1 := H.cell (w.heap.size) 1 (.int .i64 0) (by simp [two])
  have ff1 := H.frozen (w.heap.size) 1 (by simp [two])
  have cf2 := H.cell (w.heap.size) 2 (.bool false) (by simp [two])
  have ff2 := H.frozen (w.heap.size) 2 (by simp [two])
  have cf3 := H.cell (w.heap.size) 3 (.int .i64 0) (by simp [two])
  have ff3 := H.frozen (w.heap.size) 3 (by simp [two])
  have lf := H.lt (w.heap.size) 0 (.int .i64 0) (by simp [two])
  have ct0 := H.cell (w.heap.size + 1) 0 (.int .i64 0) (by simp [two])
  have ft0 := H.frozen (w.heap.size + 1) 0 (by simp [two])
  have ct1 := H.cell (w.heap.size + 1) 1 (.int .i64 0) (by simp [two])
  have ft1 := H.frozen (w.heap.size + 1) 1 (by simp [two])
  have ct2 := H.cell (w.heap.size + 1) 2 (.bool false) (by simp [two])
  have ft2 := H.frozen (w.heap.size + 1) 2 (by simp [two])
  have ct3 := H.cell (w.heap.size + 1) 3 (.int .i64 0) (by simp [two])
  have ft3 := H.frozen (w.heap.size + 1) 3 (by simp [two])
  have lt := H.lt (w.heap.size + 1) 0 (.int .i64 0) (by simp [two])
  go_wp2_with fail
  clear cf0 cf1 cf2 cf3 ct0 ct1 ct2 ct3 ff0 ff1 ff2 ff3 ft0 ft1 ft2 ft3 lf lt
  replace H := (H.putF (.int .i64 m1) (.int .i64 d1) (.bool l1) (.int .i64 y1) (by simp) (by simp) (OF.out _ (by simp)))
  (with_reducible refine (RD.out.says b y2 m2 d2 0 l2 _ (H.lens (by simp [two])) S2.out).mono ?_)
  rintro e w2 ⟨rfl, hb⟩
  replace H := H.below hb
  clear hb
  have cf0 := H.cell (w.heap.size) 0 (.int .i64 m1) (by simp [two])
  have ff0 := H.frozen (w.heap.size) 0 (by simp [two])
  have cf1 := H.cell (w.heap.size) 1 (.int .i64 d1) (by simp [two])
  have ff1 := H.frozen (w.heap.size) 1 (by simp [two])
  have cf2 := H.cell (w.heap.size) 2 (.bool l1) (by simp [two])
  have ff2 := H.frozen (w.heap.size) 2 (by simp [two])
  have cf3 := H.cell (w.heap.size) 3 (.int .i64 y1) (by simp [two])
  have ff3 := H.frozen (w.heap.size) 3 (by simp [two])
  have lf := H.lt (w.heap.size) 0 (.int .i64 m1) (by simp [two])
  have ct0 := H.cell (w.heap.size + 1) 0 (.int .i64 0) (by simp [two])
  have ft0 := H.frozen (w.heap.size + 1) 0 (by simp [two])
  have ct1 := H.cell (w.heap.size + 1) 1 (.int .i64 0) (by simp [two])
  have ft1 := H.frozen (w.heap.size + 1) 1 (by simp [two])
  have ct2 := H.cell (w.heap.size + 1) 2 (.bool false) (by simp [two])
  have ft2 := H.frozen (w.heap.size + 1) 2 (by simp [two])
  have ct3 := H.cell (w.heap.size + 1) 3 (.int .i64 0) (by simp [two])
  have ft3 := H.frozen (w.heap.size + 1) 3 (by simp [two])
  have lt := H.lt (w.heap.size + 1) 0 (.int .i64 0) (by simp [two])
  go_wp2_with fail
  clear cf0 cf1 cf2 cf3 ct0 ct1 ct2 ct3 ff0 ff1 ff2 ff3 ft0 ft1 ft2 ft3 lf lt
  replace H := (H.putT (.int .i64 m2) (.int .i64 d2) (.bool l2) (.int .i64 y2) (by simp) (by simp) (OF.out _ (by simp)))
  revert H
  generalize World.setCell _ _ _ = W9
  intro H
  have HB := H.old
  have cf0 := H.cell (w.heap.size) 0 (.int .i64 m1) (by simp [two])
  have ff0 := H.frozen (w.heap.size) 0 (by simp [two])
  have cf1 := H.cell (w.heap.size) 1 (.int .i64 d1) (by simp [two])
  have ff1 := H.frozen (w.heap.size) 1 (by simp [two])
  have cf2 := H.cell (w.heap.size) 2 (.bool l1) (by simp [two])
  have ff2 := H.frozen (w.heap.size) 2 (by simp [two])
  have cf3 := H.cell (w.heap.size) 3 (.int .i64 y1) (by simp [two])
  have ff3 := H.frozen (w.heap.size) 3 (by simp [two])
  have lf := H.lt (w.heap.size) 0 (.int .i64 m1) (by simp [two])
  have ct0 := H.cell (w.heap.size + 1) 0 (.int .i64 m2) (by simp [two])
  have ft0 := H.frozen (w.heap.size + 1) 0 (by simp [two])
  have ct1 := H.cell (w.heap.size + 1) 1 (.int .i64 d2) (by simp [two])
  have ft1 := H.frozen (w.heap.size + 1) 1 (by simp [two])
  have ct2 := H.cell (w.heap.size + 1) 2 (.bool l2) (by simp [two])
  have ft2 := H.frozen (w.heap.size + 1) 2 (by simp [two])
  have ct3 := H.cell (w.heap.size + 1) 3 (.int .i64 y2) (by simp [two])
  have ft3 := H.frozen (w.heap.size + 1) 3 (by simp [two])
  have lt := H.lt (w.heap.size + 1) 0 (.int .i64 m2) (by simp [two])
  go_region
  clear cf0 cf1 cf2 cf3 ct0 ct1 ct2 ct3 ff0 ff1 ff2 ff3 ft0 ft1 ft2 ft3 lf lt
  replace H := (H.putF (.int .i64 m1) (.int .i64 d1) (.bool l1) (.int .i64 y1) (by simp) (by simp) (OF.out _ (by simp)))
  replace H := (H.putT (.int .i64 m2) (.int .i64 d2) (.bool l2) (.int .i64 y2) (by simp) (by simp) (OF.out _ (by simp)))
  revert H
  clear HB
  generalize World.setCell _ _ _ = W8
  intro H
  have HB := H.drew.old
  have cf0 := H.cell (w.heap.size) 0 (.int .i64 m1) (by simp [two])
  have ff0 := H.frozen (w.heap.size) 0 (by simp [two])
  have cf1 := H.cell (w.heap.size) 1 (.int .i64 d1) (by simp [two])
  have ff1 := H.frozen (w.heap.size) 1 (by simp [two])
  have cf2 := H.cell (w.heap.size) 2 (.bool l1) (by simp [two])
  have ff2 := H.frozen (w.heap.size) 2 (by simp [two])
  have cf3 := H.cell (w.heap.size) 3 (.int .i64 y1) (by simp [two])
  have ff3 := H.frozen (w.heap.size) 3 (by simp [two])
  have lf := H.lt (w.heap.size) 0 (.int .i64 m1) (by simp [two])
  have ct0 := H.cell (w.heap.size + 1) 0 (.int .i64 m2) (by simp [two])
  have ft0 := H.frozen (w.heap.size + 1) 0 (by simp [two])
  have ct1 := H.cell (w.heap.size + 1) 1 (.int .i64 d2) (by simp [two])
  have ft1 := H.frozen (w.heap.size + 1) 1 (by simp [two])
  have ct2 := H.cell (w.heap.size + 1) 2 (.bool l2) (by simp [two])
  have ft2 := H.frozen (w.heap.size + 1) 2 (by simp [two])
  have ct3 := H.cell (w.heap.size + 1) 3 (.int .i64 y2) (by simp [two])
  have ft3 := H.frozen (w.heap.size + 1) 3 (by simp [two])
  have lt := H.lt (w.heap.size + 1) 0 (.int .i64 m2) (by simp [two])
  go_wp2_with fail
  exact bodyPost_ret (v := .tuple #[.agg #[.int .i64 m1, .int .i64 d1, .bool l1, .int .i64 y1], .agg #[.int .i64 m2, .int .i64 d2, .bool l2, .int .i64 y2], .int .i64 0]) (by simp [results, Tryd.results26, go_sem, cf0, cf1, cf2, cf3, ct0, ct1, ct2, ct3]) rfl ⟨rfl, HB⟩
end Go.Proofs.YtkmjaoiehmddcaaDoor
