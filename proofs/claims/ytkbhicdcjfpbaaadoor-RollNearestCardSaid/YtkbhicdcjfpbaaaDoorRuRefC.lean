/- The reference of layer 12: the day of a year, shifted; is a day one of three years'? -/
import Derived.Test.YtkbhicdcjfpbaaaDoorRuRefB
namespace Go.Proofs.YtkbhicdcjfpbaaaDoor
open Go.RowKit
set_option linter.unusedVariables false
set_option linter.unusedSimpArgs false

set_option maxHeartbeats 1000000 in
theorem ruin_no (k m d q o s f t y : Int) (w : World) (hM : Ru.May ⟨k, m, d, q, o, s, f, t⟩) (hn : Ru.bas ⟨k, m, d, q, o, s, f, t⟩ y = 0) : Calls Tryd.prog 42 #[.agg #[.int .i64 k, .int .i64 m, .int .i64 d, .int .i64 q, .int .i64 o, .int .i64 s, .int .i64 f, .int .i64 t], .int .i64 y] w fun e w' => e = .returned (.tuple #[.int .i64 0, .bool false]) ∧ Below w.heap.size w w' := by
  have H := Held.start w
  have C := Lib.hid (fun v => rubase_any k m d q o s f t y 0 false v hM hn (by decide))
  clear hM hn
  go_enter Tryd.func42, Tryd.ntmps42
  replace H := H.oct (w.heap.size) (.int .i64 k) (.int .i64 m) (.int .i64 d) (.int .i64 q) (.int .i64 o) (.int .i64 s) (.int .i64 f) (.int .i64 t) 57 rfl
  go_wp2_with fail
  (with_reducible refine (C.out _).mono ?_)
  rintro e w1 ⟨rfl, hb1⟩
  replace H := H.below hb1
  clear hb1
  go_wp2
  go_ret2
  exact ⟨rfl, H.old⟩

set_option maxHeartbeats 2000000 in
theorem ruin_05 (k m d q o s f t y n v r : Int) (c : Bool) (w : World) (hM : Ru.May ⟨k, m, d, q, o, s, f, t⟩) (hn : Ru.bas ⟨k, m, d, q, o, s, f, t⟩ y = n) (h0 : 0 < n ∧ n ≤ 3652059) (hw : wk n = v) (hs : s = 0) (hv : v = 5) (hr : (n < 1 ∨ 3652059 < n → r = 0 ∧ c = false) ∧ (1 ≤ n ∧ n ≤ 3652059 → r = n ∧ c = true)) : Calls Tryd.prog 42 #[.agg #[.int .i64 k, .int .i64 m, .int .i64 d, .int .i64 q, .int .i64 o, .int .i64 s, .int .i64 f, .int .i64 t], .int .i64 y] w fun e w' => e = .returned (.tuple #[.int .i64 r, .bool c]) ∧ Below w.heap.size w w' := by
  have H := Held.start w
  have C := Lib.hid (fun v => rubase_any k m d q o s f t y n true v hM hn (decide_eq_true h0.1))
  have C2 := Lib.hid (fun u => rweek_is n v u hw)
  have HR := Lib.hid hr
  clear hM hn hw hr
  subst hs
  subst hv
  go_enter Tryd.func42, Tryd.ntmps42
  replace H := H.oct (w.heap.size) (.int .i64 k) (.int .i64 m) (.int .i64 d) (.int .i64 q) (.int .i64 o) (.int .i64 0) (.int .i64 f) (.int .i64 t) 57 rfl
  go_wp2_with fail
  (with_reducible refine (C.out _).mono ?_)
  rintro e w1 ⟨rfl, hb1⟩
  replace H := H.below hb1
  clear hb1
  go_wp2_with fail
  (with_reducible refine (C2.out _).mono ?_)
  rintro e w2 ⟨rfl, hb1⟩
  replace H := H.below hb1
  clear hb1
  have c0 := H.cell (w.heap.size) 0 (.int .i64 k) (List.Mem.head _)
  have c1 := H.cell (w.heap.size) 1 (.int .i64 m) (List.Mem.tail _ (List.Mem.head _))
  have c2 := H.cell (w.heap.size) 2 (.int .i64 d) (List.Mem.tail _ (List.Mem.tail _ (List.Mem.head _)))
  have c3 := H.cell (w.heap.size) 3 (.int .i64 q) (List.Mem.tail _ (List.Mem.tail _ (List.Mem.tail _ (List.Mem.head _))))
  have c4 := H.cell (w.heap.size) 4 (.int .i64 o) (List.Mem.tail _ (List.Mem.tail _ (List.Mem.tail _ (List.Mem.tail _ (List.Mem.head _)))))
  have c5 := H.cell (w.heap.size) 5 (.int .i64 0) (List.Mem.tail _ (List.Mem.tail _ (List.Mem.tail _ (List.Mem.tail _ (List.Mem.tail _ (List.Mem.head _))))))
  have c6 := H.cell (w.heap.size) 6 (.int .i64 f) (List.Mem.tail _ (List.Mem.tail _ (List.Mem.tail _ (List.Mem.tail _ (List.Mem.tail _ (List.Mem.tail _ (List.Mem.head _)))))))
  have c7 := H.cell (w.heap.size) 7 (.int .i64 t) (List.Mem.tail _ (List.Mem.tail _ (List.Mem.tail _ (List.Mem.tail _ (List.Mem.tail _ (List.Mem.tail _ (List.Mem.tail _ (List.Mem.head _))))))))
  by_cases hc : 1 ≤ n ∧ n ≤ 3652059
  · obtain ⟨rfl, rfl⟩ := HR.out.2 hc
    go_wp2
    go_ret2
    exact ⟨rfl, H.old⟩
  · have hc2 : n < 1 ∨ 3652059 < n := by omega
    obtain ⟨rfl, rfl⟩ := HR.out.1 hc2
    first
    | (exfalso; omega)
    | (rcases hc2 with hc2 | hc2
       · first
         | (exfalso; omega)
         | (go_wp2
            go_ret2
            exact ⟨rfl, H.old⟩)
       · first
         | (exfalso; omega)
         | (go_wp2
            go_ret2
            exact ⟨rfl, H.old⟩))

set_option maxHeartbeats 2000000 in
theorem ruin_06 (k m d q o s f t y n v r : Int) (c : Bool) (w : World) (hM : Ru.May ⟨k, m, d, q, o, s, f, t⟩) (hn : Ru.bas ⟨k, m, d, q, o, s, f, t⟩ y = n) (h0 : 0 < n ∧ n ≤ 3652059) (hw : wk n = v) (hs : s = 0) (hv : v = 6) (hr : (n < 1 ∨ 3652059 < n → r = 0 ∧ c = false) ∧ (1 ≤ n ∧ n ≤ 3652059 → r = n ∧ c = true)) : Calls Tryd.prog 42 #[.agg #[.int .i64 k, .int .i64 m, .int .i64 d, .int .i64 q, .int .i64 o, .int .i64 s, .int .i64 f, .int .i64 t], .int .i64 y] w fun e w' => e = .returned (.tuple #[.int .i64 r, .bool c]) ∧ Below w.heap.size w w' := by
  have H := Held.start w
  have C := Lib.hid (fun v => rubase_any k m d q o s f t y n true v hM hn (decide_eq_true h0.1))
  have C2 := Lib.hid (fun u => rweek_is n v u hw)
  have HR := Lib.hid hr
  clear hM hn hw hr
  subst hs
  subst hv
  go_enter Tryd.func42, Tryd.ntmps42
  replace H := H.oct (w.heap.size) (.int .i64 k) (.int .i64 m) (.int .i64 d) (.int .i64 q) (.int .i64 o) (.int .i64 0) (.int .i64 f) (.int .i64 t) 57 rfl
  go_wp2_with fail
  (with_reducible refine (C.out _).mono ?_)
  rintro e w1 ⟨rfl, hb1⟩
  replace H := H.below hb1
  clear hb1
  go_wp2_with fail
  (with_reducible refine (C2.out _).mono ?_)
  rintro e w2 ⟨rfl, hb1⟩
  replace H := H.below hb1
  clear hb1
  have c0 := H.cell (w.heap.size) 0 (.int .i64 k) (List.Mem.head _)
  have c1 := H.cell (w.heap.size) 1 (.int .i64 m) (List.Mem.tail _ (List.Mem.head _))
  have c2 := H.cell (w.heap.size) 2 (.int .i64 d) (List.Mem.tail _ (List.Mem.tail _ (List.Mem.head _)))
  have c3 := H.cell (w.heap.size) 3 (.int .i64 q) (List.Mem.tail _ (List.Mem.tail _ (List.Mem.tail _ (List.Mem.head _))))
  have c4 := H.cell (w.heap.size) 4 (.int .i64 o) (List.Mem.tail _ (List.Mem.tail _ (List.Mem.tail _ (List.Mem.tail _ (List.Mem.head _)))))
  have c5 := H.cell (w.heap.size) 5 (.int .i64 0) (List.Mem.tail _ (List.Mem.tail _ (List.Mem.tail _ (List.Mem.tail _ (List.Mem.tail _ (List.Mem.head _))))))
  have c6 := H.cell (w.heap.size) 6 (.int .i64 f) (List.Mem.tail _ (List.Mem.tail _ (List.Mem.tail _ (List.Mem.tail _ (List.Mem.tail _ (List.Mem.tail _ (List.Mem.head _)))))))
  have c7 := H.cell (w.heap.size) 7 (.int .i64 t) (List.Mem.tail _ (List.Mem.tail _ (List.Mem.tail _ (List.Mem.tail _ (List.Mem.tail _ (List.Mem.tail _ (List.Mem.tail _ (List.Mem.head _))))))))
  by_cases hc : 1 ≤ n ∧ n ≤ 3652059
  · obtain ⟨rfl, rfl⟩ := HR.out.2 hc
    go_wp2
    go_ret2
    exact ⟨rfl, H.old⟩
  · have hc2 : n < 1 ∨ 3652059 < n := by omega
    obtain ⟨rfl, rfl⟩ := HR.out.1 hc2
    first
    | (exfalso; omega)
    | (rcases hc2 with hc2 | hc2
       · first
         | (exfalso; omega)
         | (go_wp2
            go_ret2
            exact ⟨rfl, H.old⟩)
       · first
         | (exfalso; omega)
         | (go_wp2
            go_ret2
            exact ⟨rfl, H.old⟩))

set_option maxHeartbeats 2000000 in
theorem ruin_0x (k m d q o s f t y n v r : Int) (c : Bool) (w : World) (hM : Ru.May ⟨k, m, d, q, o, s, f, t⟩) (hn : Ru.bas ⟨k, m, d, q, o, s, f, t⟩ y = n) (h0 : 0 < n ∧ n ≤ 3652059) (hw : wk n = v) (hs : s = 0) (hv : v ≠ 5 ∧ v ≠ 6) (hr : (n < 1 ∨ 3652059 < n → r = 0 ∧ c = false) ∧ (1 ≤ n ∧ n ≤ 3652059 → r = n ∧ c = true)) : Calls Tryd.prog 42 #[.agg #[.int .i64 k, .int .i64 m, .int .i64 d, .int .i64 q, .int .i64 o, .int .i64 s, .int .i64 f, .int .i64 t], .int .i64 y] w fun e w' => e = .returned (.tuple #[.int .i64 r, .bool c]) ∧ Below w.heap.size w w' := by
  have H := Held.start w
  have C := Lib.hid (fun v => rubase_any k m d q o s f t y n true v hM hn (decide_eq_true h0.1))
  have C2 := Lib.hid (fun u => rweek_is n v u hw)
  have HR := Lib.hid hr
  clear hM hn hw hr
  subst hs
  have v5 : (v == 5) = false := by simpa using hv.1
  have v6 : (v == 6) = false := by simpa using hv.2
  go_enter Tryd.func42, Tryd.ntmps42
  replace H := H.oct (w.heap.size) (.int .i64 k) (.int .i64 m) (.int .i64 d) (.int .i64 q) (.int .i64 o) (.int .i64 0) (.int .i64 f) (.int .i64 t) 57 rfl
  go_wp2_with fail
  (with_reducible refine (C.out _).mono ?_)
  rintro e w1 ⟨rfl, hb1⟩
  replace H := H.below hb1
  clear hb1
  go_wp2_with fail
  (with_reducible refine (C2.out _).mono ?_)
  rintro e w2 ⟨rfl, hb1⟩
  replace H := H.below hb1
  clear hb1
  have c0 := H.cell (w.heap.size) 0 (.int .i64 k) (List.Mem.head _)
  have c1 := H.cell (w.heap.size) 1 (.int .i64 m) (List.Mem.tail _ (List.Mem.head _))
  have c2 := H.cell (w.heap.size) 2 (.int .i64 d) (List.Mem.tail _ (List.Mem.tail _ (List.Mem.head _)))
  have c3 := H.cell (w.heap.size) 3 (.int .i64 q) (List.Mem.tail _ (List.Mem.tail _ (List.Mem.tail _ (List.Mem.head _))))
  have c4 := H.cell (w.heap.size) 4 (.int .i64 o) (List.Mem.tail _ (List.Mem.tail _ (List.Mem.tail _ (List.Mem.tail _ (List.Mem.head _)))))
  have c5 := H.cell (w.heap.size) 5 (.int .i64 0) (List.Mem.tail _ (List.Mem.tail _ (List.Mem.tail _ (List.Mem.tail _ (List.Mem.tail _ (List.Mem.head _))))))
  have c6 := H.cell (w.heap.size) 6 (.int .i64 f) (List.Mem.tail _ (List.Mem.tail _ (List.Mem.tail _ (List.Mem.tail _ (List.Mem.tail _ (List.Mem.tail _ (List.Mem.head _)))))))
  have c7 := H.cell (w.heap.size) 7 (.int .i64 t) (List.Mem.tail _ (List.Mem.tail _ (List.Mem.tail _ (List.Mem.tail _ (List.Mem.tail _ (List.Mem.tail _ (List.Mem.tail _ (List.Mem.head _))))))))
  by_cases hc : 1 ≤ n ∧ n ≤ 3652059
  · obtain ⟨rfl, rfl⟩ := HR.out.2 hc
    go_wp2
    go_ret2
    exact ⟨rfl, H.old⟩
  · have hc2 : n < 1 ∨ 3652059 < n := by omega
    obtain ⟨rfl, rfl⟩ := HR.out.1 hc2
    first
    | (exfalso; omega)
    | (rcases hc2 with hc2 | hc2
       · first
         | (exfalso; omega)
         | (go_wp2
            go_ret2
            exact ⟨rfl, H.old⟩)
       · first
         | (exfalso; omega)
         | (go_wp2
            go_ret2
            exact ⟨rfl, H.old⟩))

set_option maxHeartbeats 2000000 in
theorem ruin_15 (k m d q o s f t y n v r : Int) (c : Bool) (w : World) (hM : Ru.May ⟨k, m, d, q, o, s, f, t⟩) (hn : Ru.bas ⟨k, m, d, q, o, s, f, t⟩ y = n) (h0 : 0 < n ∧ n ≤ 3652059) (hw : wk n = v) (hs : s = 1) (hv : v = 5) (hr : (n - 1 < 1 ∨ 3652059 < n - 1 → r = 0 ∧ c = false) ∧ (1 ≤ n - 1 ∧ n - 1 ≤ 3652059 → r = n - 1 ∧ c = true)) : Calls Tryd.prog 42 #[.agg #[.int .i64 k, .int .i64 m, .int .i64 d, .int .i64 q, .int .i64 o, .int .i64 s, .int .i64 f, .int .i64 t], .int .i64 y] w fun e w' => e = .returned (.tuple #[.int .i64 r, .bool c]) ∧ Below w.heap.size w w' := by
  have H := Held.start w
  have C := Lib.hid (fun v => rubase_any k m d q o s f t y n true v hM hn (decide_eq_true h0.1))
  have C2 := Lib.hid (fun u => rweek_is n v u hw)
  have HR := Lib.hid hr
  clear hM hn hw hr
  subst hs
  subst hv
  go_enter Tryd.func42, Tryd.ntmps42
  replace H := H.oct (w.heap.size) (.int .i64 k) (.int .i64 m) (.int .i64 d) (.int .i64 q) (.int .i64 o) (.int .i64 1) (.int .i64 f) (.int .i64 t) 57 rfl
  go_wp2_with fail
  (with_reducible refine (C.out _).mono ?_)
  rintro e w1 ⟨rfl, hb1⟩
  replace H := H.below hb1
  clear hb1
  go_wp2_with fail
  (with_reducible refine (C2.out _).mono ?_)
  rintro e w2 ⟨rfl, hb1⟩
  replace H := H.below hb1
  clear hb1
  have c0 := H.cell (w.heap.size) 0 (.int .i64 k) (List.Mem.head _)
  have c1 := H.cell (w.heap.size) 1 (.int .i64 m) (List.Mem.tail _ (List.Mem.head _))
  have c2 := H.cell (w.heap.size) 2 (.int .i64 d) (List.Mem.tail _ (List.Mem.tail _ (List.Mem.head _)))
  have c3 := H.cell (w.heap.size) 3 (.int .i64 q) (List.Mem.tail _ (List.Mem.tail _ (List.Mem.tail _ (List.Mem.head _))))
  have c4 := H.cell (w.heap.size) 4 (.int .i64 o) (List.Mem.tail _ (List.Mem.tail _ (List.Mem.tail _ (List.Mem.tail _ (List.Mem.head _)))))
  have c5 := H.cell (w.heap.size) 5 (.int .i64 1) (List.Mem.tail _ (List.Mem.tail _ (List.Mem.tail _ (List.Mem.tail _ (List.Mem.tail _ (List.Mem.head _))))))
  have c6 := H.cell (w.heap.size) 6 (.int .i64 f) (List.Mem.tail _ (List.Mem.tail _ (List.Mem.tail _ (List.Mem.tail _ (List.Mem.tail _ (List.Mem.tail _ (List.Mem.head _)))))))
  have c7 := H.cell (w.heap.size) 7 (.int .i64 t) (List.Mem.tail _ (List.Mem.tail _ (List.Mem.tail _ (List.Mem.tail _ (List.Mem.tail _ (List.Mem.tail _ (List.Mem.tail _ (List.Mem.head _))))))))
  by_cases hc : 1 ≤ n - 1 ∧ n - 1 ≤ 3652059
  · obtain ⟨rfl, rfl⟩ := HR.out.2 hc
    go_wp2
    go_ret2
    exact ⟨rfl, H.old⟩
  · have hc2 : n - 1 < 1 ∨ 3652059 < n - 1 := by omega
    obtain ⟨rfl, rfl⟩ := HR.out.1 hc2
    first
    | (exfalso; omega)
    | (rcases hc2 with hc2 | hc2
       · first
         | (exfalso; omega)
         | (go_wp2
            go_ret2
            exact ⟨rfl, H.old⟩)
       · first
         | (exfalso; omega)
         | (go_wp2
            go_ret2
            exact ⟨rfl, H.old⟩))

set_option maxHeartbeats 2000000 in
theorem ruin_16 (k m d q o s f t y n v r : Int) (c : Bool) (w : World) (hM : Ru.May ⟨k, m, d, q, o, s, f, t⟩) (hn : Ru.bas ⟨k, m, d, q, o, s, f, t⟩ y = n) (h0 : 0 < n ∧ n ≤ 3652059) (hw : wk n = v) (hs : s = 1) (hv : v = 6) (hr : (n + 1 < 1 ∨ 3652059 < n + 1 → r = 0 ∧ c = false) ∧ (1 ≤ n + 1 ∧ n + 1 ≤ 3652059 → r = n + 1 ∧ c = true)) : Calls Tryd.prog 42 #[.agg #[.int .i64 k, .int .i64 m, .int .i64 d, .int .i64 q, .int .i64 o, .int .i64 s, .int .i64 f, .int .i64 t], .int .i64 y] w fun e w' => e = .returned (.tuple #[.int .i64 r, .bool c]) ∧ Below w.heap.size w w' := by
  have H := Held.start w
  have C := Lib.hid (fun v => rubase_any k m d q o s f t y n true v hM hn (decide_eq_true h0.1))
  have C2 := Lib.hid (fun u => rweek_is n v u hw)
  have HR := Lib.hid hr
  clear hM hn hw hr
  subst hs
  subst hv
  go_enter Tryd.func42, Tryd.ntmps42
  replace H := H.oct (w.heap.size) (.int .i64 k) (.int .i64 m) (.int .i64 d) (.int .i64 q) (.int .i64 o) (.int .i64 1) (.int .i64 f) (.int .i64 t) 57 rfl
  go_wp2_with fail
  (with_reducible refine (C.out _).mono ?_)
  rintro e w1 ⟨rfl, hb1⟩
  replace H := H.below hb1
  clear hb1
  go_wp2_with fail
  (with_reducible refine (C2.out _).mono ?_)
  rintro e w2 ⟨rfl, hb1⟩
  replace H := H.below hb1
  clear hb1
  have c0 := H.cell (w.heap.size) 0 (.int .i64 k) (List.Mem.head _)
  have c1 := H.cell (w.heap.size) 1 (.int .i64 m) (List.Mem.tail _ (List.Mem.head _))
  have c2 := H.cell (w.heap.size) 2 (.int .i64 d) (List.Mem.tail _ (List.Mem.tail _ (List.Mem.head _)))
  have c3 := H.cell (w.heap.size) 3 (.int .i64 q) (List.Mem.tail _ (List.Mem.tail _ (List.Mem.tail _ (List.Mem.head _))))
  have c4 := H.cell (w.heap.size) 4 (.int .i64 o) (List.Mem.tail _ (List.Mem.tail _ (List.Mem.tail _ (List.Mem.tail _ (List.Mem.head _)))))
  have c5 := H.cell (w.heap.size) 5 (.int .i64 1) (List.Mem.tail _ (List.Mem.tail _ (List.Mem.tail _ (List.Mem.tail _ (List.Mem.tail _ (List.Mem.head _))))))
  have c6 := H.cell (w.heap.size) 6 (.int .i64 f) (List.Mem.tail _ (List.Mem.tail _ (List.Mem.tail _ (List.Mem.tail _ (List.Mem.tail _ (List.Mem.tail _ (List.Mem.head _)))))))
  have c7 := H.cell (w.heap.size) 7 (.int .i64 t) (List.Mem.tail _ (List.Mem.tail _ (List.Mem.tail _ (List.Mem.tail _ (List.Mem.tail _ (List.Mem.tail _ (List.Mem.tail _ (List.Mem.head _))))))))
  by_cases hc : 1 ≤ n + 1 ∧ n + 1 ≤ 3652059
  · obtain ⟨rfl, rfl⟩ := HR.out.2 hc
    go_wp2
    go_ret2
    exact ⟨rfl, H.old⟩
  · have hc2 : n + 1 < 1 ∨ 3652059 < n + 1 := by omega
    obtain ⟨rfl, rfl⟩ := HR.out.1 hc2
    first
    | (exfalso; omega)
    | (rcases hc2 with hc2 | hc2
       · first
         | (exfalso; omega)
         | (go_wp2
            go_ret2
            exact ⟨rfl, H.old⟩)
       · first
         | (exfalso; omega)
         | (go_wp2
            go_ret2
            exact ⟨rfl, H.old⟩))

set_option maxHeartbeats 2000000 in
theorem ruin_1x (k m d q o s f t y n v r : Int) (c : Bool) (w : World) (hM : Ru.May ⟨k, m, d, q, o, s, f, t⟩) (hn : Ru.bas ⟨k, m, d, q, o, s, f, t⟩ y = n) (h0 : 0 < n ∧ n ≤ 3652059) (hw : wk n = v) (hs : s = 1) (hv : v ≠ 5 ∧ v ≠ 6) (hr : (n < 1 ∨ 3652059 < n → r = 0 ∧ c = false) ∧ (1 ≤ n ∧ n ≤ 3652059 → r = n ∧ c = true)) : Calls Tryd.prog 42 #[.agg #[.int .i64 k, .int .i64 m, .int .i64 d, .int .i64 q, .int .i64 o, .int .i64 s, .int .i64 f, .int .i64 t], .int .i64 y] w fun e w' => e = .returned (.tuple #[.int .i64 r, .bool c]) ∧ Below w.heap.size w w' := by
  have H := Held.start w
  have C := Lib.hid (fun v => rubase_any k m d q o s f t y n true v hM hn (decide_eq_true h0.1))
  have C2 := Lib.hid (fun u => rweek_is n v u hw)
  have HR := Lib.hid hr
  clear hM hn hw hr
  subst hs
  have v5 : (v == 5) = false := by simpa using hv.1
  have v6 : (v == 6) = false := by simpa using hv.2
  go_enter Tryd.func42, Tryd.ntmps42
  replace H := H.oct (w.heap.size) (.int .i64 k) (.int .i64 m) (.int .i64 d) (.int .i64 q) (.int .i64 o) (.int .i64 1) (.int .i64 f) (.int .i64 t) 57 rfl
  go_wp2_with fail
  (with_reducible refine (C.out _).mono ?_)
  rintro e w1 ⟨rfl, hb1⟩
  replace H := H.below hb1
  clear hb1
  go_wp2_with fail
  (with_reducible refine (C2.out _).mono ?_)
  rintro e w2 ⟨rfl, hb1⟩
  replace H := H.below hb1
  clear hb1
  have c0 := H.cell (w.heap.size) 0 (.int .i64 k) (List.Mem.head _)
  have c1 := H.cell (w.heap.size) 1 (.int .i64 m) (List.Mem.tail _ (List.Mem.head _))
  have c2 := H.cell (w.heap.size) 2 (.int .i64 d) (List.Mem.tail _ (List.Mem.tail _ (List.Mem.head _)))
  have c3 := H.cell (w.heap.size) 3 (.int .i64 q) (List.Mem.tail _ (List.Mem.tail _ (List.Mem.tail _ (List.Mem.head _))))
  have c4 := H.cell (w.heap.size) 4 (.int .i64 o) (List.Mem.tail _ (List.Mem.tail _ (List.Mem.tail _ (List.Mem.tail _ (List.Mem.head _)))))
  have c5 := H.cell (w.heap.size) 5 (.int .i64 1) (List.Mem.tail _ (List.Mem.tail _ (List.Mem.tail _ (List.Mem.tail _ (List.Mem.tail _ (List.Mem.head _))))))
  have c6 := H.cell (w.heap.size) 6 (.int .i64 f) (List.Mem.tail _ (List.Mem.tail _ (List.Mem.tail _ (List.Mem.tail _ (List.Mem.tail _ (List.Mem.tail _ (List.Mem.head _)))))))
  have c7 := H.cell (w.heap.size) 7 (.int .i64 t) (List.Mem.tail _ (List.Mem.tail _ (List.Mem.tail _ (List.Mem.tail _ (List.Mem.tail _ (List.Mem.tail _ (List.Mem.tail _ (List.Mem.head _))))))))
  by_cases hc : 1 ≤ n ∧ n ≤ 3652059
  · obtain ⟨rfl, rfl⟩ := HR.out.2 hc
    go_wp2
    go_ret2
    exact ⟨rfl, H.old⟩
  · have hc2 : n < 1 ∨ 3652059 < n := by omega
    obtain ⟨rfl, rfl⟩ := HR.out.1 hc2
    first
    | (exfalso; omega)
    | (rcases hc2 with hc2 | hc2
       · first
         | (exfalso; omega)
         | (go_wp2
            go_ret2
            exact ⟨rfl, H.old⟩)
       · first
         | (exfalso; omega)
         | (go_wp2
            go_ret2
            exact ⟨rfl, H.old⟩))

set_option maxHeartbeats 2000000 in
theorem ruin_25 (k m d q o s f t y n v r : Int) (c : Bool) (w : World) (hM : Ru.May ⟨k, m, d, q, o, s, f, t⟩) (hn : Ru.bas ⟨k, m, d, q, o, s, f, t⟩ y = n) (h0 : 0 < n ∧ n ≤ 3652059) (hw : wk n = v) (hs : s = 2) (hv : v = 5) (hr : (n + 2 < 1 ∨ 3652059 < n + 2 → r = 0 ∧ c = false) ∧ (1 ≤ n + 2 ∧ n + 2 ≤ 3652059 → r = n + 2 ∧ c = true)) : Calls Tryd.prog 42 #[.agg #[.int .i64 k, .int .i64 m, .int .i64 d, .int .i64 q, .int .i64 o, .int .i64 s, .int .i64 f, .int .i64 t], .int .i64 y] w fun e w' => e = .returned (.tuple #[.int .i64 r, .bool c]) ∧ Below w.heap.size w w' := by
  have H := Held.start w
  have C := Lib.hid (fun v => rubase_any k m d q o s f t y n true v hM hn (decide_eq_true h0.1))
  have C2 := Lib.hid (fun u => rweek_is n v u hw)
  have HR := Lib.hid hr
  clear hM hn hw hr
  subst hs
  subst hv
  go_enter Tryd.func42, Tryd.ntmps42
  replace H := H.oct (w.heap.size) (.int .i64 k) (.int .i64 m) (.int .i64 d) (.int .i64 q) (.int .i64 o) (.int .i64 2) (.int .i64 f) (.int .i64 t) 57 rfl
  go_wp2_with fail
  (with_reducible refine (C.out _).mono ?_)
  rintro e w1 ⟨rfl, hb1⟩
  replace H := H.below hb1
  clear hb1
  go_wp2_with fail
  (with_reducible refine (C2.out _).mono ?_)
  rintro e w2 ⟨rfl, hb1⟩
  replace H := H.below hb1
  clear hb1
  have c0 := H.cell (w.heap.size) 0 (.int .i64 k) (List.Mem.head _)
  have c1 := H.cell (w.heap.size) 1 (.int .i64 m) (List.Mem.tail _ (List.Mem.head _))
  have c2 := H.cell (w.heap.size) 2 (.int .i64 d) (List.Mem.tail _ (List.Mem.tail _ (List.Mem.head _)))
  have c3 := H.cell (w.heap.size) 3 (.int .i64 q) (List.Mem.tail _ (List.Mem.tail _ (List.Mem.tail _ (List.Mem.head _))))
  have c4 := H.cell (w.heap.size) 4 (.int .i64 o) (List.Mem.tail _ (List.Mem.tail _ (List.Mem.tail _ (List.Mem.tail _ (List.Mem.head _)))))
  have c5 := H.cell (w.heap.size) 5 (.int .i64 2) (List.Mem.tail _ (List.Mem.tail _ (List.Mem.tail _ (List.Mem.tail _ (List.Mem.tail _ (List.Mem.head _))))))
  have c6 := H.cell (w.heap.size) 6 (.int .i64 f) (List.Mem.tail _ (List.Mem.tail _ (List.Mem.tail _ (List.Mem.tail _ (List.Mem.tail _ (List.Mem.tail _ (List.Mem.head _)))))))
  have c7 := H.cell (w.heap.size) 7 (.int .i64 t) (List.Mem.tail _ (List.Mem.tail _ (List.Mem.tail _ (List.Mem.tail _ (List.Mem.tail _ (List.Mem.tail _ (List.Mem.tail _ (List.Mem.head _))))))))
  by_cases hc : 1 ≤ n + 2 ∧ n + 2 ≤ 3652059
  · obtain ⟨rfl, rfl⟩ := HR.out.2 hc
    go_wp2
    go_ret2
    exact ⟨rfl, H.old⟩
  · have hc2 : n + 2 < 1 ∨ 3652059 < n + 2 := by omega
    obtain ⟨rfl, rfl⟩ := HR.out.1 hc2
    first
    | (exfalso; omega)
    | (rcases hc2 with hc2 | hc2
       · first
         | (exfalso; omega)
         | (go_wp2
            go_ret2
            exact ⟨rfl, H.old⟩)
       · first
         | (exfalso; omega)
         | (go_wp2
            go_ret2
            exact ⟨rfl, H.old⟩))

set_option maxHeartbeats 2000000 in
theorem ruin_26 (k m d q o s f t y n v r : Int) (c : Bool) (w : World) (hM : Ru.May ⟨k, m, d, q, o, s, f, t⟩) (hn : Ru.bas ⟨k, m, d, q, o, s, f, t⟩ y = n) (h0 : 0 < n ∧ n ≤ 3652059) (hw : wk n = v) (hs : s = 2) (hv : v = 6) (hr : (n + 1 < 1 ∨ 3652059 < n + 1 → r = 0 ∧ c = false) ∧ (1 ≤ n + 1 ∧ n + 1 ≤ 3652059 → r = n + 1 ∧ c = true)) : Calls Tryd.prog 42 #[.agg #[.int .i64 k, .int .i64 m, .int .i64 d, .int .i64 q, .int .i64 o, .int .i64 s, .int .i64 f, .int .i64 t], .int .i64 y] w fun e w' => e = .returned (.tuple #[.int .i64 r, .bool c]) ∧ Below w.heap.size w w' := by
  have H := Held.start w
  have C := Lib.hid (fun v => rubase_any k m d q o s f t y n true v hM hn (decide_eq_true h0.1))
  have C2 := Lib.hid (fun u => rweek_is n v u hw)
  have HR := Lib.hid hr
  clear hM hn hw hr
  subst hs
  subst hv
  go_enter Tryd.func42, Tryd.ntmps42
  replace H := H.oct (w.heap.size) (.int .i64 k) (.int .i64 m) (.int .i64 d) (.int .i64 q) (.int .i64 o) (.int .i64 2) (.int .i64 f) (.int .i64 t) 57 rfl
  go_wp2_with fail
  (with_reducible refine (C.out _).mono ?_)
  rintro e w1 ⟨rfl, hb1⟩
  replace H := H.below hb1
  clear hb1
  go_wp2_with fail
  (with_reducible refine (C2.out _).mono ?_)
  rintro e w2 ⟨rfl, hb1⟩
  replace H := H.below hb1
  clear hb1
  have c0 := H.cell (w.heap.size) 0 (.int .i64 k) (List.Mem.head _)
  have c1 := H.cell (w.heap.size) 1 (.int .i64 m) (List.Mem.tail _ (List.Mem.head _))
  have c2 := H.cell (w.heap.size) 2 (.int .i64 d) (List.Mem.tail _ (List.Mem.tail _ (List.Mem.head _)))
  have c3 := H.cell (w.heap.size) 3 (.int .i64 q) (List.Mem.tail _ (List.Mem.tail _ (List.Mem.tail _ (List.Mem.head _))))
  have c4 := H.cell (w.heap.size) 4 (.int .i64 o) (List.Mem.tail _ (List.Mem.tail _ (List.Mem.tail _ (List.Mem.tail _ (List.Mem.head _)))))
  have c5 := H.cell (w.heap.size) 5 (.int .i64 2) (List.Mem.tail _ (List.Mem.tail _ (List.Mem.tail _ (List.Mem.tail _ (List.Mem.tail _ (List.Mem.head _))))))
  have c6 := H.cell (w.heap.size) 6 (.int .i64 f) (List.Mem.tail _ (List.Mem.tail _ (List.Mem.tail _ (List.Mem.tail _ (List.Mem.tail _ (List.Mem.tail _ (List.Mem.head _)))))))
  have c7 := H.cell (w.heap.size) 7 (.int .i64 t) (List.Mem.tail _ (List.Mem.tail _ (List.Mem.tail _ (List.Mem.tail _ (List.Mem.tail _ (List.Mem.tail _ (List.Mem.tail _ (List.Mem.head _))))))))
  by_cases hc : 1 ≤ n + 1 ∧ n + 1 ≤ 3652059
  · obtain ⟨rfl, rfl⟩ := HR.out.2 hc
    go_wp2
    go_ret2
    exact ⟨rfl, H.old⟩
  · have hc2 : n + 1 < 1 ∨ 3652059 < n + 1 := by omega
    obtain ⟨rfl, rfl⟩ := HR.out.1 hc2
    first
    | (exfalso; omega)
    | (rcases hc2 with hc2 | hc2
       · first
         | (exfalso; omega)
         | (go_wp2
            go_ret2
            exact ⟨rfl, H.old⟩)
       · first
         | (exfalso; omega)
         | (go_wp2
            go_ret2
            exact ⟨rfl, H.old⟩))

set_option maxHeartbeats 2000000 in
theorem ruin_2x (k m d q o s f t y n v r : Int) (c : Bool) (w : World) (hM : Ru.May ⟨k, m, d, q, o, s, f, t⟩) (hn : Ru.bas ⟨k, m, d, q, o, s, f, t⟩ y = n) (h0 : 0 < n ∧ n ≤ 3652059) (hw : wk n = v) (hs : s = 2) (hv : v ≠ 5 ∧ v ≠ 6) (hr : (n < 1 ∨ 3652059 < n → r = 0 ∧ c = false) ∧ (1 ≤ n ∧ n ≤ 3652059 → r = n ∧ c = true)) : Calls Tryd.prog 42 #[.agg #[.int .i64 k, .int .i64 m, .int .i64 d, .int .i64 q, .int .i64 o, .int .i64 s, .int .i64 f, .int .i64 t], .int .i64 y] w fun e w' => e = .returned (.tuple #[.int .i64 r, .bool c]) ∧ Below w.heap.size w w' := by
  have H := Held.start w
  have C := Lib.hid (fun v => rubase_any k m d q o s f t y n true v hM hn (decide_eq_true h0.1))
  have C2 := Lib.hid (fun u => rweek_is n v u hw)
  have HR := Lib.hid hr
  clear hM hn hw hr
  subst hs
  have v5 : (v == 5) = false := by simpa using hv.1
  have v6 : (v == 6) = false := by simpa using hv.2
  go_enter Tryd.func42, Tryd.ntmps42
  replace H := H.oct (w.heap.size) (.int .i64 k) (.int .i64 m) (.int .i64 d) (.int .i64 q) (.int .i64 o) (.int .i64 2) (.int .i64 f) (.int .i64 t) 57 rfl
  go_wp2_with fail
  (with_reducible refine (C.out _).mono ?_)
  rintro e w1 ⟨rfl, hb1⟩
  replace H := H.below hb1
  clear hb1
  go_wp2_with fail
  (with_reducible refine (C2.out _).mono ?_)
  rintro e w2 ⟨rfl, hb1⟩
  replace H := H.below hb1
  clear hb1
  have c0 := H.cell (w.heap.size) 0 (.int .i64 k) (List.Mem.head _)
  have c1 := H.cell (w.heap.size) 1 (.int .i64 m) (List.Mem.tail _ (List.Mem.head _))
  have c2 := H.cell (w.heap.size) 2 (.int .i64 d) (List.Mem.tail _ (List.Mem.tail _ (List.Mem.head _)))
  have c3 := H.cell (w.heap.size) 3 (.int .i64 q) (List.Mem.tail _ (List.Mem.tail _ (List.Mem.tail _ (List.Mem.head _))))
  have c4 := H.cell (w.heap.size) 4 (.int .i64 o) (List.Mem.tail _ (List.Mem.tail _ (List.Mem.tail _ (List.Mem.tail _ (List.Mem.head _)))))
  have c5 := H.cell (w.heap.size) 5 (.int .i64 2) (List.Mem.tail _ (List.Mem.tail _ (List.Mem.tail _ (List.Mem.tail _ (List.Mem.tail _ (List.Mem.head _))))))
  have c6 := H.cell (w.heap.size) 6 (.int .i64 f) (List.Mem.tail _ (List.Mem.tail _ (List.Mem.tail _ (List.Mem.tail _ (List.Mem.tail _ (List.Mem.tail _ (List.Mem.head _)))))))
  have c7 := H.cell (w.heap.size) 7 (.int .i64 t) (List.Mem.tail _ (List.Mem.tail _ (List.Mem.tail _ (List.Mem.tail _ (List.Mem.tail _ (List.Mem.tail _ (List.Mem.tail _ (List.Mem.head _))))))))
  by_cases hc : 1 ≤ n ∧ n ≤ 3652059
  · obtain ⟨rfl, rfl⟩ := HR.out.2 hc
    go_wp2
    go_ret2
    exact ⟨rfl, H.old⟩
  · have hc2 : n < 1 ∨ 3652059 < n := by omega
    obtain ⟨rfl, rfl⟩ := HR.out.1 hc2
    first
    | (exfalso; omega)
    | (rcases hc2 with hc2 | hc2
       · first
         | (exfalso; omega)
         | (go_wp2
            go_ret2
            exact ⟨rfl, H.old⟩)
       · first
         | (exfalso; omega)
         | (go_wp2
            go_ret2
            exact ⟨rfl, H.old⟩))

theorem ruin_any (k m d q o s f t y n : Int) (b : Bool) (w : World) (hM : Ru.May ⟨k, m, d, q, o, s, f, t⟩) (hn : Ru.inn ⟨k, m, d, q, o, s, f, t⟩ y = n) (hb : decide (0 < n) = b) : Calls Tryd.prog 42 #[.agg #[.int .i64 k, .int .i64 m, .int .i64 d, .int .i64 q, .int .i64 o, .int .i64 s, .int .i64 f, .int .i64 t], .int .i64 y] w fun e w' => e = .returned (.tuple #[.int .i64 n, .bool b]) ∧ Below w.heap.size w w' := by
  obtain ⟨x, hx⟩ : ∃ x, Ru.bas ⟨k, m, d, q, o, s, f, t⟩ y = x := ⟨_, rfl⟩
  have xb := bas_bd y hM
  rw [hx] at xb
  by_cases h0 : x = 0
  · subst h0
    rw [inn_out hx] at hn
    subst hn
    subst hb
    exact ruin_no _ _ _ _ _ _ _ _ _ w hM hx
  · have hp : 0 < x ∧ x ≤ 3652059 := by omega
    have hs := hM.2.1
    simp only at hs
    have key : ∀ z, shd s x = z → (z < 1 ∨ 3652059 < z → n = 0 ∧ b = false) ∧ (1 ≤ z ∧ z ≤ 3652059 → n = z ∧ b = true) := fun z hz => by
      unfold Ru.inn at hn
      rw [hx] at hn
      simp only at hn
      rw [hz] at hn
      refine ⟨fun h => ?_, fun h => ?_⟩
      · rw [if_neg (by omega)] at hn
        subst hn; subst hb
        exact ⟨rfl, rfl⟩
      · rw [if_pos ⟨hp.1, h.1, h.2⟩] at hn
        subst hn; subst hb
        exact ⟨rfl, decide_eq_true (by omega)⟩
    have s3 : s = 0 ∨ s = 1 ∨ s = 2 := by omega
    have v3 : wk x = 5 ∨ wk x = 6 ∨ (wk x ≠ 5 ∧ wk x ≠ 6) := by omega
    rcases s3 with h | h | h
    · rcases v3 with g | g | g
      · exact ruin_05 _ _ _ _ _ _ _ _ _ _ _ _ _ w hM hx hp rfl h g (key _ (by unfold shd; simp [h, g]))
      · exact ruin_06 _ _ _ _ _ _ _ _ _ _ _ _ _ w hM hx hp rfl h g (key _ (by unfold shd; simp [h, g]))
      · exact ruin_0x _ _ _ _ _ _ _ _ _ _ _ _ _ w hM hx hp rfl h g (key _ (by unfold shd; simp [h, g]))
    · rcases v3 with g | g | g
      · exact ruin_15 _ _ _ _ _ _ _ _ _ _ _ _ _ w hM hx hp rfl h g (key _ (by unfold shd; simp [h, g]))
      · exact ruin_16 _ _ _ _ _ _ _ _ _ _ _ _ _ w hM hx hp rfl h g (key _ (by unfold shd; simp [h, g]))
      · exact ruin_1x _ _ _ _ _ _ _ _ _ _ _ _ _ w hM hx hp rfl h g (key _ (by unfold shd; simp [h, g]))
    · rcases v3 with g | g | g
      · exact ruin_25 _ _ _ _ _ _ _ _ _ _ _ _ _ w hM hx hp rfl h g (key _ (by unfold shd; simp [h, g]))
      · exact ruin_26 _ _ _ _ _ _ _ _ _ _ _ _ _ w hM hx hp rfl h g (key _ (by unfold shd; simp [h, g]))
      · exact ruin_2x _ _ _ _ _ _ _ _ _ _ _ _ _ w hM hx hp rfl h g (key _ (by unfold shd; simp [h, g]))
end Go.Proofs.YtkbhicdcjfpbaaaDoor
