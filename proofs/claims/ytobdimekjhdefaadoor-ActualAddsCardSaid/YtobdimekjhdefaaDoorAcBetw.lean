/- Package actual: the days between two days, or why there are none. -/
import Derived.Test.YtobdimekjhdefaaDoorAcErr
import Derived.Test.YtobdimekjhdefaaDoorQuad
import Derived.Test.YtobdimekjhdefaaDoorCivilB
namespace Go.Proofs.YtobdimekjhdefaaDoor
open Go.RowKit
set_option linter.unusedVariables false
set_option linter.unusedSimpArgs false

set_option maxHeartbeats 1000000 in
set_option maxRecDepth 100000 in
theorem bet_day1 (a b : Int) (a0 a1 : Addr) (w : World) (hL : Lens w) (hE : ErrAt a0 a1 w) (h1 : a < 1 ∨ 3652059 < a) : Calls Tryd.prog 24 #[.int .i64 a, .int .i64 b] w fun e' w' => (∃ s, e' = .returned (.tuple #[.agg #[.int .i64 0, .int .i64 0, .int .i64 0, .int .i64 0], .iface 70 (.agg #[.string s, .iface 127 (.pointer (some a0))])])) ∧ Below w.heap.size w w' := by
  have H := ((Held.start w).add (f := lensF) hL).add (f := errF a0 a1) hE
  have kw : 0 < w.heap.size ∧ 1 < w.heap.size := by obtain ⟨_, _, _, _, k0, k1, _⟩ := hE; exact ⟨cell_lt k0, cell_lt k1⟩
  obtain ⟨kw0, kw1⟩ := kw
  clear hL hE
  have O1 : Hid (DayIs a 0 0 0 3) := Lib.hid (Or.inr ⟨h1, rfl, rfl, rfl, rfl⟩)
  clear h1
  go_enter Tryd.func24, Tryd.ntmps24
  go_wp2_with fail
  replace H := (H.quad (w.heap.size) (.int .i64 0) (.int .i64 0) (.int .i64 0) (.int .i64 0) 47 rfl)
  (with_reducible refine (civ_any a 0 0 0 3 _ (H.lens (List.Mem.tail _ (List.Mem.tail _ (List.Mem.tail _ (List.Mem.tail _ (List.Mem.tail _ (List.Mem.tail _ (List.Mem.tail _ (List.Mem.tail _ (List.Mem.tail _ (List.Mem.head _))))))))))) O1.out).mono ?_)
  rintro e w1 ⟨rfl, hb⟩
  replace H := H.below hb
  clear hb
  have cz0 := H.cell (w.heap.size) 0 (.int .i64 0) (List.Mem.head _)
  have cz1 := H.cell (w.heap.size) 1 (.int .i64 0) (List.Mem.tail _ (List.Mem.head _))
  have cz2 := H.cell (w.heap.size) 2 (.int .i64 0) (List.Mem.tail _ (List.Mem.tail _ (List.Mem.head _)))
  have cz3 := H.cell (w.heap.size) 3 (.int .i64 0) (List.Mem.tail _ (List.Mem.tail _ (List.Mem.tail _ (List.Mem.head _))))
  have lz := H.lt (w.heap.size) 0 (.int .i64 0) (List.Mem.head _)
  have fz0 := H.frozen (w.heap.size) 0 (List.Mem.tail _ (List.Mem.tail _ (List.Mem.tail _ (List.Mem.tail _ (List.Mem.head _)))))
  have fz1 := H.frozen (w.heap.size) 1 (List.Mem.tail _ (List.Mem.tail _ (List.Mem.tail _ (List.Mem.tail _ (List.Mem.tail _ (List.Mem.head _))))))
  have fz2 := H.frozen (w.heap.size) 2 (List.Mem.tail _ (List.Mem.tail _ (List.Mem.tail _ (List.Mem.tail _ (List.Mem.tail _ (List.Mem.tail _ (List.Mem.head _)))))))
  have fz3 := H.frozen (w.heap.size) 3 (List.Mem.tail _ (List.Mem.tail _ (List.Mem.tail _ (List.Mem.tail _ (List.Mem.tail _ (List.Mem.tail _ (List.Mem.tail _ (List.Mem.head _))))))))
  obtain ⟨c0, c1, t0, t1, h0, h1, hne, r0, r1⟩ := (show ErrAt a0 a1 w1 from H.all _ (List.Mem.tail _ (List.Mem.tail _ (List.Mem.tail _ (List.Mem.tail _ (List.Mem.tail _ (List.Mem.tail _ (List.Mem.tail _ (List.Mem.tail _ (List.Mem.head _))))))))))
  have HK := H.old
  have lg0 := cell_lt h0
  have lg1 := cell_lt h1
  clear H r0 r1 hne
  go_wp2
  go_region
  all_goals go_wp2
  all_goals exact bodyPost_ret (v := .tuple #[.agg #[.int .i64 0, .int .i64 0, .int .i64 0, .int .i64 0], .iface 70 (.agg #[.string _, .iface 127 (.pointer (some a0))])]) (by simp [results, Tryd.results24, go_sem, cz0, cz1, cz2, cz3, lz]; rfl) rfl ⟨⟨_, rfl⟩, by repeat (first | exact HK | refine Below.drew ?_ | refine Below.setCell ?_ (by simp <;> omega) _ | refine Below.alloc ?_ (by simp <;> omega) _)⟩

set_option maxHeartbeats 1000000 in
set_option maxRecDepth 100000 in
theorem bet_day2 (a b y1 m1 d1 : Int) (a0 a1 : Addr) (w : World) (hL : Lens w) (hE : ErrAt a0 a1 w) (h1 : may y1 m1 d1) (e1 : nb y1 m1 d1 = a) (h2 : b < 1 ∨ 3652059 < b) : Calls Tryd.prog 24 #[.int .i64 a, .int .i64 b] w fun e' w' => (∃ s, e' = .returned (.tuple #[.agg #[.int .i64 0, .int .i64 0, .int .i64 0, .int .i64 0], .iface 70 (.agg #[.string s, .iface 127 (.pointer (some a0))])])) ∧ Below w.heap.size w w' := by
  have H := ((Held.start w).add (f := lensF) hL).add (f := errF a0 a1) hE
  have kw : 0 < w.heap.size ∧ 1 < w.heap.size := by obtain ⟨_, _, _, _, k0, k1, _⟩ := hE; exact ⟨cell_lt k0, cell_lt k1⟩
  obtain ⟨kw0, kw1⟩ := kw
  clear hL hE
  have O1 : Hid (DayIs a y1 m1 d1 0) := Lib.hid (Or.inl ⟨h1, e1, rfl⟩)
  have O2 : Hid (DayIs b 0 0 0 3) := Lib.hid (Or.inr ⟨h2, rfl, rfl, rfl, rfl⟩)
  clear h1 e1 h2
  go_enter Tryd.func24, Tryd.ntmps24
  go_wp2_with fail
  replace H := (H.quad (w.heap.size) (.int .i64 0) (.int .i64 0) (.int .i64 0) (.int .i64 0) 47 rfl)
  (with_reducible refine (civ_any a y1 m1 d1 0 _ (H.lens (List.Mem.tail _ (List.Mem.tail _ (List.Mem.tail _ (List.Mem.tail _ (List.Mem.tail _ (List.Mem.tail _ (List.Mem.tail _ (List.Mem.tail _ (List.Mem.tail _ (List.Mem.head _))))))))))) O1.out).mono ?_)
  rintro e w1 ⟨rfl, hb⟩
  replace H := H.below hb
  clear hb
  go_wp2_with fail
  replace H := (H.triple (w1.heap.size) (.int .i64 y1) (.int .i64 m1) (.int .i64 d1) 41 rfl)
  (with_reducible refine (civ_any b 0 0 0 3 _ (H.lens (List.Mem.tail _ (List.Mem.tail _ (List.Mem.tail _ (List.Mem.tail _ (List.Mem.tail _ (List.Mem.tail _ (List.Mem.tail _ (List.Mem.tail _ (List.Mem.tail _ (List.Mem.tail _ (List.Mem.tail _ (List.Mem.tail _ (List.Mem.tail _ (List.Mem.tail _ (List.Mem.tail _ (List.Mem.head _))))))))))))))))) O2.out).mono ?_)
  rintro e w2 ⟨rfl, hb⟩
  replace H := H.below hb
  clear hb
  have cz0 := H.cell (w.heap.size) 0 (.int .i64 0) (List.Mem.tail _ (List.Mem.tail _ (List.Mem.tail _ (List.Mem.tail _ (List.Mem.tail _ (List.Mem.tail _ (List.Mem.head _)))))))
  have cz1 := H.cell (w.heap.size) 1 (.int .i64 0) (List.Mem.tail _ (List.Mem.tail _ (List.Mem.tail _ (List.Mem.tail _ (List.Mem.tail _ (List.Mem.tail _ (List.Mem.tail _ (List.Mem.head _))))))))
  have cz2 := H.cell (w.heap.size) 2 (.int .i64 0) (List.Mem.tail _ (List.Mem.tail _ (List.Mem.tail _ (List.Mem.tail _ (List.Mem.tail _ (List.Mem.tail _ (List.Mem.tail _ (List.Mem.tail _ (List.Mem.head _)))))))))
  have cz3 := H.cell (w.heap.size) 3 (.int .i64 0) (List.Mem.tail _ (List.Mem.tail _ (List.Mem.tail _ (List.Mem.tail _ (List.Mem.tail _ (List.Mem.tail _ (List.Mem.tail _ (List.Mem.tail _ (List.Mem.tail _ (List.Mem.head _))))))))))
  have lz := H.lt (w.heap.size) 0 (.int .i64 0) (List.Mem.tail _ (List.Mem.tail _ (List.Mem.tail _ (List.Mem.tail _ (List.Mem.tail _ (List.Mem.tail _ (List.Mem.head _)))))))
  have fz0 := H.frozen (w.heap.size) 0 (List.Mem.tail _ (List.Mem.tail _ (List.Mem.tail _ (List.Mem.tail _ (List.Mem.tail _ (List.Mem.tail _ (List.Mem.tail _ (List.Mem.tail _ (List.Mem.tail _ (List.Mem.tail _ (List.Mem.head _)))))))))))
  have fz1 := H.frozen (w.heap.size) 1 (List.Mem.tail _ (List.Mem.tail _ (List.Mem.tail _ (List.Mem.tail _ (List.Mem.tail _ (List.Mem.tail _ (List.Mem.tail _ (List.Mem.tail _ (List.Mem.tail _ (List.Mem.tail _ (List.Mem.tail _ (List.Mem.head _))))))))))))
  have fz2 := H.frozen (w.heap.size) 2 (List.Mem.tail _ (List.Mem.tail _ (List.Mem.tail _ (List.Mem.tail _ (List.Mem.tail _ (List.Mem.tail _ (List.Mem.tail _ (List.Mem.tail _ (List.Mem.tail _ (List.Mem.tail _ (List.Mem.tail _ (List.Mem.tail _ (List.Mem.head _)))))))))))))
  have fz3 := H.frozen (w.heap.size) 3 (List.Mem.tail _ (List.Mem.tail _ (List.Mem.tail _ (List.Mem.tail _ (List.Mem.tail _ (List.Mem.tail _ (List.Mem.tail _ (List.Mem.tail _ (List.Mem.tail _ (List.Mem.tail _ (List.Mem.tail _ (List.Mem.tail _ (List.Mem.tail _ (List.Mem.head _))))))))))))))
  obtain ⟨c0, c1, t0, t1, h0, h1, hne, r0, r1⟩ := (show ErrAt a0 a1 w2 from H.all _ (List.Mem.tail _ (List.Mem.tail _ (List.Mem.tail _ (List.Mem.tail _ (List.Mem.tail _ (List.Mem.tail _ (List.Mem.tail _ (List.Mem.tail _ (List.Mem.tail _ (List.Mem.tail _ (List.Mem.tail _ (List.Mem.tail _ (List.Mem.tail _ (List.Mem.tail _ (List.Mem.head _))))))))))))))))
  have HK := H.old
  have lg0 := cell_lt h0
  have lg1 := cell_lt h1
  clear H r0 r1 hne
  go_wp2
  go_region
  all_goals go_wp2
  all_goals exact bodyPost_ret (v := .tuple #[.agg #[.int .i64 0, .int .i64 0, .int .i64 0, .int .i64 0], .iface 70 (.agg #[.string _, .iface 127 (.pointer (some a0))])]) (by simp [results, Tryd.results24, go_sem, cz0, cz1, cz2, cz3, lz]; rfl) rfl ⟨⟨_, rfl⟩, by repeat (first | exact HK | refine Below.drew ?_ | refine Below.setCell ?_ (by simp <;> omega) _ | refine Below.alloc ?_ (by simp <;> omega) _)⟩

set_option maxHeartbeats 1000000 in
set_option maxRecDepth 100000 in
theorem bet_gt (a b y1 m1 d1 y2 m2 d2 : Int) (a0 a1 : Addr) (w : World) (hL : Lens w) (hE : ErrAt a0 a1 w) (h1 : may y1 m1 d1) (e1 : nb y1 m1 d1 = a) (h2 : may y2 m2 d2) (e2 : nb y2 m2 d2 = b) (hab : a > b) : Calls Tryd.prog 24 #[.int .i64 a, .int .i64 b] w fun e' w' => (∃ s, e' = .returned (.tuple #[.agg #[.int .i64 0, .int .i64 0, .int .i64 0, .int .i64 0], .iface 70 (.agg #[.string s, .iface 127 (.pointer (some a1))])])) ∧ Below w.heap.size w w' := by
  have H := ((Held.start w).add (f := lensF) hL).add (f := errF a0 a1) hE
  have kw : 0 < w.heap.size ∧ 1 < w.heap.size := by obtain ⟨_, _, _, _, k0, k1, _⟩ := hE; exact ⟨cell_lt k0, cell_lt k1⟩
  obtain ⟨kw0, kw1⟩ := kw
  clear hL hE
  have O1 : Hid (DayIs a y1 m1 d1 0) := Lib.hid (Or.inl ⟨h1, e1, rfl⟩)
  have O2 : Hid (DayIs b y2 m2 d2 0) := Lib.hid (Or.inl ⟨h2, e2, rfl⟩)
  clear h1 e1 h2 e2
  go_enter Tryd.func24, Tryd.ntmps24
  go_wp2_with fail
  replace H := (H.quad (w.heap.size) (.int .i64 0) (.int .i64 0) (.int .i64 0) (.int .i64 0) 47 rfl)
  (with_reducible refine (civ_any a y1 m1 d1 0 _ (H.lens (List.Mem.tail _ (List.Mem.tail _ (List.Mem.tail _ (List.Mem.tail _ (List.Mem.tail _ (List.Mem.tail _ (List.Mem.tail _ (List.Mem.tail _ (List.Mem.tail _ (List.Mem.head _))))))))))) O1.out).mono ?_)
  rintro e w1 ⟨rfl, hb⟩
  replace H := H.below hb
  clear hb
  go_wp2_with fail
  replace H := (H.triple (w1.heap.size) (.int .i64 y1) (.int .i64 m1) (.int .i64 d1) 41 rfl)
  (with_reducible refine (civ_any b y2 m2 d2 0 _ (H.lens (List.Mem.tail _ (List.Mem.tail _ (List.Mem.tail _ (List.Mem.tail _ (List.Mem.tail _ (List.Mem.tail _ (List.Mem.tail _ (List.Mem.tail _ (List.Mem.tail _ (List.Mem.tail _ (List.Mem.tail _ (List.Mem.tail _ (List.Mem.tail _ (List.Mem.tail _ (List.Mem.tail _ (List.Mem.head _))))))))))))))))) O2.out).mono ?_)
  rintro e w2 ⟨rfl, hb⟩
  replace H := H.below hb
  clear hb
  have cz0 := H.cell (w.heap.size) 0 (.int .i64 0) (List.Mem.tail _ (List.Mem.tail _ (List.Mem.tail _ (List.Mem.tail _ (List.Mem.tail _ (List.Mem.tail _ (List.Mem.head _)))))))
  have cz1 := H.cell (w.heap.size) 1 (.int .i64 0) (List.Mem.tail _ (List.Mem.tail _ (List.Mem.tail _ (List.Mem.tail _ (List.Mem.tail _ (List.Mem.tail _ (List.Mem.tail _ (List.Mem.head _))))))))
  have cz2 := H.cell (w.heap.size) 2 (.int .i64 0) (List.Mem.tail _ (List.Mem.tail _ (List.Mem.tail _ (List.Mem.tail _ (List.Mem.tail _ (List.Mem.tail _ (List.Mem.tail _ (List.Mem.tail _ (List.Mem.head _)))))))))
  have cz3 := H.cell (w.heap.size) 3 (.int .i64 0) (List.Mem.tail _ (List.Mem.tail _ (List.Mem.tail _ (List.Mem.tail _ (List.Mem.tail _ (List.Mem.tail _ (List.Mem.tail _ (List.Mem.tail _ (List.Mem.tail _ (List.Mem.head _))))))))))
  have lz := H.lt (w.heap.size) 0 (.int .i64 0) (List.Mem.tail _ (List.Mem.tail _ (List.Mem.tail _ (List.Mem.tail _ (List.Mem.tail _ (List.Mem.tail _ (List.Mem.head _)))))))
  have fz0 := H.frozen (w.heap.size) 0 (List.Mem.tail _ (List.Mem.tail _ (List.Mem.tail _ (List.Mem.tail _ (List.Mem.tail _ (List.Mem.tail _ (List.Mem.tail _ (List.Mem.tail _ (List.Mem.tail _ (List.Mem.tail _ (List.Mem.head _)))))))))))
  have fz1 := H.frozen (w.heap.size) 1 (List.Mem.tail _ (List.Mem.tail _ (List.Mem.tail _ (List.Mem.tail _ (List.Mem.tail _ (List.Mem.tail _ (List.Mem.tail _ (List.Mem.tail _ (List.Mem.tail _ (List.Mem.tail _ (List.Mem.tail _ (List.Mem.head _))))))))))))
  have fz2 := H.frozen (w.heap.size) 2 (List.Mem.tail _ (List.Mem.tail _ (List.Mem.tail _ (List.Mem.tail _ (List.Mem.tail _ (List.Mem.tail _ (List.Mem.tail _ (List.Mem.tail _ (List.Mem.tail _ (List.Mem.tail _ (List.Mem.tail _ (List.Mem.tail _ (List.Mem.head _)))))))))))))
  have fz3 := H.frozen (w.heap.size) 3 (List.Mem.tail _ (List.Mem.tail _ (List.Mem.tail _ (List.Mem.tail _ (List.Mem.tail _ (List.Mem.tail _ (List.Mem.tail _ (List.Mem.tail _ (List.Mem.tail _ (List.Mem.tail _ (List.Mem.tail _ (List.Mem.tail _ (List.Mem.tail _ (List.Mem.head _))))))))))))))
  obtain ⟨c0, c1, t0, t1, h0, h1, hne, r0, r1⟩ := (show ErrAt a0 a1 w2 from H.all _ (List.Mem.tail _ (List.Mem.tail _ (List.Mem.tail _ (List.Mem.tail _ (List.Mem.tail _ (List.Mem.tail _ (List.Mem.tail _ (List.Mem.tail _ (List.Mem.tail _ (List.Mem.tail _ (List.Mem.tail _ (List.Mem.tail _ (List.Mem.tail _ (List.Mem.tail _ (List.Mem.head _))))))))))))))))
  have HK := H.old
  have lg0 := cell_lt h0
  have lg1 := cell_lt h1
  clear H r0 r1 hne
  go_wp2
  go_region
  all_goals go_wp2
  all_goals exact bodyPost_ret (v := .tuple #[.agg #[.int .i64 0, .int .i64 0, .int .i64 0, .int .i64 0], .iface 70 (.agg #[.string _, .iface 127 (.pointer (some a1))])]) (by simp [results, Tryd.results24, go_sem, cz0, cz1, cz2, cz3, lz]; rfl) rfl ⟨⟨_, rfl⟩, by repeat (first | exact HK | refine Below.drew ?_ | refine Below.setCell ?_ (by simp <;> omega) _ | refine Below.alloc ?_ (by simp <;> omega) _)⟩

set_option maxHeartbeats 1000000 in
set_option maxRecDepth 100000 in
theorem bet_ok (a b y1 m1 d1 y2 m2 d2 : Int) (a0 a1 : Addr) (w : World) (hL : Lens w) (hE : ErrAt a0 a1 w) (h1 : may y1 m1 d1) (e1 : nb y1 m1 d1 = a) (h2 : may y2 m2 d2) (e2 : nb y2 m2 d2 = b) (hab : ¬ a > b) : Calls Tryd.prog 24 #[.int .i64 a, .int .i64 b] w fun e' w' => e' = .returned (.tuple #[.agg #[.int .i64 a, .int .i64 b, .int .i64 y1, .int .i64 y2], .nilIface]) ∧ Below w.heap.size w w' := by
  have H := ((Held.start w).add (f := lensF) hL).add (f := errF a0 a1) hE
  have kw : 0 < w.heap.size ∧ 1 < w.heap.size := by obtain ⟨_, _, _, _, k0, k1, _⟩ := hE; exact ⟨cell_lt k0, cell_lt k1⟩
  obtain ⟨kw0, kw1⟩ := kw
  clear hL hE
  have O1 : Hid (DayIs a y1 m1 d1 0) := Lib.hid (Or.inl ⟨h1, e1, rfl⟩)
  have O2 : Hid (DayIs b y2 m2 d2 0) := Lib.hid (Or.inl ⟨h2, e2, rfl⟩)
  clear h1 e1 h2 e2
  go_enter Tryd.func24, Tryd.ntmps24
  go_wp2_with fail
  replace H := (H.quad (w.heap.size) (.int .i64 0) (.int .i64 0) (.int .i64 0) (.int .i64 0) 47 rfl)
  (with_reducible refine (civ_any a y1 m1 d1 0 _ (H.lens (List.Mem.tail _ (List.Mem.tail _ (List.Mem.tail _ (List.Mem.tail _ (List.Mem.tail _ (List.Mem.tail _ (List.Mem.tail _ (List.Mem.tail _ (List.Mem.tail _ (List.Mem.head _))))))))))) O1.out).mono ?_)
  rintro e w1 ⟨rfl, hb⟩
  replace H := H.below hb
  clear hb
  go_wp2_with fail
  replace H := (H.triple (w1.heap.size) (.int .i64 y1) (.int .i64 m1) (.int .i64 d1) 41 rfl)
  (with_reducible refine (civ_any b y2 m2 d2 0 _ (H.lens (List.Mem.tail _ (List.Mem.tail _ (List.Mem.tail _ (List.Mem.tail _ (List.Mem.tail _ (List.Mem.tail _ (List.Mem.tail _ (List.Mem.tail _ (List.Mem.tail _ (List.Mem.tail _ (List.Mem.tail _ (List.Mem.tail _ (List.Mem.tail _ (List.Mem.tail _ (List.Mem.tail _ (List.Mem.head _))))))))))))))))) O2.out).mono ?_)
  rintro e w2 ⟨rfl, hb⟩
  replace H := H.below hb
  clear hb
  have cz0 := H.cell (w.heap.size) 0 (.int .i64 0) (List.Mem.tail _ (List.Mem.tail _ (List.Mem.tail _ (List.Mem.tail _ (List.Mem.tail _ (List.Mem.tail _ (List.Mem.head _)))))))
  have cz1 := H.cell (w.heap.size) 1 (.int .i64 0) (List.Mem.tail _ (List.Mem.tail _ (List.Mem.tail _ (List.Mem.tail _ (List.Mem.tail _ (List.Mem.tail _ (List.Mem.tail _ (List.Mem.head _))))))))
  have cz2 := H.cell (w.heap.size) 2 (.int .i64 0) (List.Mem.tail _ (List.Mem.tail _ (List.Mem.tail _ (List.Mem.tail _ (List.Mem.tail _ (List.Mem.tail _ (List.Mem.tail _ (List.Mem.tail _ (List.Mem.head _)))))))))
  have cz3 := H.cell (w.heap.size) 3 (.int .i64 0) (List.Mem.tail _ (List.Mem.tail _ (List.Mem.tail _ (List.Mem.tail _ (List.Mem.tail _ (List.Mem.tail _ (List.Mem.tail _ (List.Mem.tail _ (List.Mem.tail _ (List.Mem.head _))))))))))
  have lz := H.lt (w.heap.size) 0 (.int .i64 0) (List.Mem.tail _ (List.Mem.tail _ (List.Mem.tail _ (List.Mem.tail _ (List.Mem.tail _ (List.Mem.tail _ (List.Mem.head _)))))))
  have cf0 := H.cell (w1.heap.size) 0 (.int .i64 y1) (List.Mem.head _)
  have cf1 := H.cell (w1.heap.size) 1 (.int .i64 m1) (List.Mem.tail _ (List.Mem.head _))
  have cf2 := H.cell (w1.heap.size) 2 (.int .i64 d1) (List.Mem.tail _ (List.Mem.tail _ (List.Mem.head _)))
  have lf := H.lt (w1.heap.size) 0 (.int .i64 y1) (List.Mem.head _)
  have fz0 := H.frozen (w.heap.size) 0 (List.Mem.tail _ (List.Mem.tail _ (List.Mem.tail _ (List.Mem.tail _ (List.Mem.tail _ (List.Mem.tail _ (List.Mem.tail _ (List.Mem.tail _ (List.Mem.tail _ (List.Mem.tail _ (List.Mem.head _)))))))))))
  have fz1 := H.frozen (w.heap.size) 1 (List.Mem.tail _ (List.Mem.tail _ (List.Mem.tail _ (List.Mem.tail _ (List.Mem.tail _ (List.Mem.tail _ (List.Mem.tail _ (List.Mem.tail _ (List.Mem.tail _ (List.Mem.tail _ (List.Mem.tail _ (List.Mem.head _))))))))))))
  have fz2 := H.frozen (w.heap.size) 2 (List.Mem.tail _ (List.Mem.tail _ (List.Mem.tail _ (List.Mem.tail _ (List.Mem.tail _ (List.Mem.tail _ (List.Mem.tail _ (List.Mem.tail _ (List.Mem.tail _ (List.Mem.tail _ (List.Mem.tail _ (List.Mem.tail _ (List.Mem.head _)))))))))))))
  have fz3 := H.frozen (w.heap.size) 3 (List.Mem.tail _ (List.Mem.tail _ (List.Mem.tail _ (List.Mem.tail _ (List.Mem.tail _ (List.Mem.tail _ (List.Mem.tail _ (List.Mem.tail _ (List.Mem.tail _ (List.Mem.tail _ (List.Mem.tail _ (List.Mem.tail _ (List.Mem.tail _ (List.Mem.head _))))))))))))))
  have HK := H.old
  clear H
  go_wp2
  exact bodyPost_ret (v := .tuple #[.agg #[.int .i64 a, .int .i64 b, .int .i64 y1, .int .i64 y2], .nilIface]) (by simp [results, Tryd.results24, go_sem, cz0, cz1, cz2, cz3, lz]) rfl ⟨rfl, by repeat (first | exact HK | refine Below.drew ?_ | refine Below.setCell ?_ (by simp <;> omega) _ | refine Below.alloc ?_ (by simp <;> omega) _)⟩
end Go.Proofs.YtobdimekjhdefaaDoor
