/- CivilNext: the walk. -/
import Derived.Test.YthnondaheppkiaaDoorCShown
namespace Go.Proofs.YthnondaheppkiaaDoor
open Go.RowKit
set_option linter.unusedVariables false
set_option linter.unusedSimpArgs false


set_option maxHeartbeats 4000000 in
set_option maxRecDepth 100000 in
theorem cnext_low (n : Int) (w : World) (hL : Lens w) (hn : n < 1) :
    Calls Tryd.prog 5 #[.int .i64 n] w fun e w' => e = .returned (.bool true) ∧ Below w.heap.size w w' := by
  have H := (Held.start w).add (f := lensF) hL
  clear hL
  go_enter Tryd.func5, Tryd.ntmps5
  go_wp2_with fail
  (with_reducible refine (cshown_any _ (H.lens (List.Mem.head _))).mono ?_)
  rintro e w1 ⟨rfl, hb⟩
  replace H := H.below hb
  clear hb
  go_wp2_with fail
  go_ret
  exact ⟨rfl, H.old⟩

set_option maxHeartbeats 4000000 in
set_option maxRecDepth 100000 in
theorem cnext_high (n : Int) (w : World) (hL : Lens w) (hn : 3652059 ≤ n) :
    Calls Tryd.prog 5 #[.int .i64 n] w fun e w' => e = .returned (.bool true) ∧ Below w.heap.size w w' := by
  have H := (Held.start w).add (f := lensF) hL
  clear hL
  go_enter Tryd.func5, Tryd.ntmps5
  go_wp2_with fail
  (with_reducible refine (cshown_any _ (H.lens (List.Mem.head _))).mono ?_)
  rintro e w1 ⟨rfl, hb⟩
  replace H := H.below hb
  clear hb
  go_wp2_with fail
  go_ret
  exact ⟨rfl, H.old⟩

set_option maxHeartbeats 4000000 in
set_option maxRecDepth 100000 in
theorem cnext_day (n y m d l k : Int) (w : World) (hL : Lens w) (h1 : may y m d) (hn : nb y m d = n) (h2 : may (y) (m) (d + 1)) (hn2 : nb (y) (m) (d + 1) = n + 1) (hl : ln y m = l) (hk : wk n = k) (hd : d ≠ l) :
    Calls Tryd.prog 5 #[.int .i64 n] w fun e w' => e = .returned (.bool true) ∧ Below w.heap.size w w' := by
  have H := (Held.start w).add (f := lensF) hL
  clear hL
  have b1 := nb_bd y m d h1
  have b2 := nb_bd (y) (m) (d + 1) h2
  rw [hn] at b1
  rw [hn2] at b2
  have O1 : Hid (DayIs n y m d 0) := Lib.hid (Or.inl ⟨h1, hn, rfl⟩)
  have O2 : Hid (DayIs (n + 1) (y) (m) (d + 1) 0) := Lib.hid (Or.inl ⟨h2, hn2, rfl⟩)
  have k0 : 0 ≤ k ∧ k < 7 := by rw [← hk]; unfold wk; omega
  have K1 := Lib.hid hk
  have K2 : Hid (wk (n + 1) = (k + 1) % 7) := Lib.hid (by rw [← hk]; unfold wk; omega)
  have C := Lib.hid (fun v => rlength_any y m v)
  rw [hl] at C
  obtain ⟨y1, y2, m1, m2, d1, d2⟩ := h1
  have d3 : d ≤ 31 := by have := ln_le y m; omega
  have t1 : (d == l) = false := beq_eq_false_iff_ne.2 hd
  clear d2 hn hn2 hl hk h2
  go_enter Tryd.func5, Tryd.ntmps5
  go_wp2_with fail
  (with_reducible refine (cshown_any _ (H.lens (List.Mem.head _))).mono ?_)
  rintro e w1 ⟨rfl, hb⟩
  replace H := H.below hb
  clear hb
  go_wp2_with fail
  (with_reducible refine (of_any n y m d 0 _ (H.lens (List.Mem.head _)) O1.out).mono ?_)
  rintro e w2 ⟨rfl, hb⟩
  replace H := H.below hb
  clear hb
  go_wp2_with fail
  replace H := (H.triple (w2.heap.size) (.int .i64 y) (.int .i64 m) (.int .i64 d) 23 rfl)
  (with_reducible refine (of_any (n + 1) (y) (m) (d + 1) 0 _ (H.lens (List.Mem.tail _ (List.Mem.tail _ (List.Mem.tail _ (List.Mem.tail _ (List.Mem.tail _ (List.Mem.tail _ (List.Mem.head _)))))))) O2.out).mono ?_)
  rintro e w3 ⟨rfl, hb⟩
  replace H := H.below hb
  clear hb
  go_wp2_with fail
  replace H := (H.triple (w3.heap.size) (.int .i64 y) (.int .i64 m) (.int .i64 (d + 1)) 23 rfl)
  (with_reducible refine (week_is (n + 1) ((k + 1) % 7) _ K2.out).mono ?_)
  rintro e w4 ⟨rfl, hb⟩
  replace H := H.below hb
  clear hb
  go_wp2_with fail
  (with_reducible refine (week_is n k _ K1.out).mono ?_)
  rintro e w5 ⟨rfl, hb⟩
  replace H := H.below hb
  clear hb
  have ca0 := H.cell (w2.heap.size) 0 (.int .i64 y) (List.Mem.tail _ (List.Mem.tail _ (List.Mem.tail _ (List.Mem.tail _ (List.Mem.tail _ (List.Mem.tail _ (List.Mem.head _)))))))
  have ca1 := H.cell (w2.heap.size) 1 (.int .i64 m) (List.Mem.tail _ (List.Mem.tail _ (List.Mem.tail _ (List.Mem.tail _ (List.Mem.tail _ (List.Mem.tail _ (List.Mem.tail _ (List.Mem.head _))))))))
  have ca2 := H.cell (w2.heap.size) 2 (.int .i64 d) (List.Mem.tail _ (List.Mem.tail _ (List.Mem.tail _ (List.Mem.tail _ (List.Mem.tail _ (List.Mem.tail _ (List.Mem.tail _ (List.Mem.tail _ (List.Mem.head _)))))))))
  have la := H.lt (w2.heap.size) 0 (.int .i64 y) (List.Mem.tail _ (List.Mem.tail _ (List.Mem.tail _ (List.Mem.tail _ (List.Mem.tail _ (List.Mem.tail _ (List.Mem.head _)))))))
  have cb0 := H.cell (w3.heap.size) 0 (.int .i64 y) (List.Mem.head _)
  have cb1 := H.cell (w3.heap.size) 1 (.int .i64 m) (List.Mem.tail _ (List.Mem.head _))
  have cb2 := H.cell (w3.heap.size) 2 (.int .i64 (d + 1)) (List.Mem.tail _ (List.Mem.tail _ (List.Mem.head _)))
  have lb := H.lt (w3.heap.size) 0 (.int .i64 y) (List.Mem.head _)
  have HK := H.old
  clear H
  go_wp2
  go_quiet ((go_at_call 18; with_reducible exact quietLeft (C.out _)))
  go_wp2
  go_ret
  exact ⟨rfl, belowDrewN (HK.alloc HK.size _) _⟩

set_option maxHeartbeats 4000000 in
set_option maxRecDepth 100000 in
theorem cnext_month (n y m d k : Int) (w : World) (hL : Lens w) (h1 : may y m d) (hn : nb y m d = n) (h2 : may (y) (m + 1) (1)) (hn2 : nb (y) (m + 1) (1) = n + 1) (hl : ln y m = d) (hk : wk n = k) (hm : m ≠ 12) :
    Calls Tryd.prog 5 #[.int .i64 n] w fun e w' => e = .returned (.bool true) ∧ Below w.heap.size w w' := by
  have H := (Held.start w).add (f := lensF) hL
  clear hL
  have b1 := nb_bd y m d h1
  have b2 := nb_bd (y) (m + 1) (1) h2
  rw [hn] at b1
  rw [hn2] at b2
  have O1 : Hid (DayIs n y m d 0) := Lib.hid (Or.inl ⟨h1, hn, rfl⟩)
  have O2 : Hid (DayIs (n + 1) (y) (m + 1) (1) 0) := Lib.hid (Or.inl ⟨h2, hn2, rfl⟩)
  have k0 : 0 ≤ k ∧ k < 7 := by rw [← hk]; unfold wk; omega
  have K1 := Lib.hid hk
  have K2 : Hid (wk (n + 1) = (k + 1) % 7) := Lib.hid (by rw [← hk]; unfold wk; omega)
  have C := Lib.hid (fun v => rlength_any y m v)
  rw [hl] at C
  obtain ⟨y1, y2, m1, m2, d1, d2⟩ := h1
  have d3 : d ≤ 31 := by have := ln_le y m; omega
  have t2 : (m == 12) = false := beq_eq_false_iff_ne.2 hm
  clear d2 hn hn2 hl hk h2
  go_enter Tryd.func5, Tryd.ntmps5
  go_wp2_with fail
  (with_reducible refine (cshown_any _ (H.lens (List.Mem.head _))).mono ?_)
  rintro e w1 ⟨rfl, hb⟩
  replace H := H.below hb
  clear hb
  go_wp2_with fail
  (with_reducible refine (of_any n y m d 0 _ (H.lens (List.Mem.head _)) O1.out).mono ?_)
  rintro e w2 ⟨rfl, hb⟩
  replace H := H.below hb
  clear hb
  go_wp2_with fail
  replace H := (H.triple (w2.heap.size) (.int .i64 y) (.int .i64 m) (.int .i64 d) 23 rfl)
  (with_reducible refine (of_any (n + 1) (y) (m + 1) (1) 0 _ (H.lens (List.Mem.tail _ (List.Mem.tail _ (List.Mem.tail _ (List.Mem.tail _ (List.Mem.tail _ (List.Mem.tail _ (List.Mem.head _)))))))) O2.out).mono ?_)
  rintro e w3 ⟨rfl, hb⟩
  replace H := H.below hb
  clear hb
  go_wp2_with fail
  replace H := (H.triple (w3.heap.size) (.int .i64 y) (.int .i64 (m + 1)) (.int .i64 1) 23 rfl)
  (with_reducible refine (week_is (n + 1) ((k + 1) % 7) _ K2.out).mono ?_)
  rintro e w4 ⟨rfl, hb⟩
  replace H := H.below hb
  clear hb
  go_wp2_with fail
  (with_reducible refine (week_is n k _ K1.out).mono ?_)
  rintro e w5 ⟨rfl, hb⟩
  replace H := H.below hb
  clear hb
  have ca0 := H.cell (w2.heap.size) 0 (.int .i64 y) (List.Mem.tail _ (List.Mem.tail _ (List.Mem.tail _ (List.Mem.tail _ (List.Mem.tail _ (List.Mem.tail _ (List.Mem.head _)))))))
  have ca1 := H.cell (w2.heap.size) 1 (.int .i64 m) (List.Mem.tail _ (List.Mem.tail _ (List.Mem.tail _ (List.Mem.tail _ (List.Mem.tail _ (List.Mem.tail _ (List.Mem.tail _ (List.Mem.head _))))))))
  have ca2 := H.cell (w2.heap.size) 2 (.int .i64 d) (List.Mem.tail _ (List.Mem.tail _ (List.Mem.tail _ (List.Mem.tail _ (List.Mem.tail _ (List.Mem.tail _ (List.Mem.tail _ (List.Mem.tail _ (List.Mem.head _)))))))))
  have la := H.lt (w2.heap.size) 0 (.int .i64 y) (List.Mem.tail _ (List.Mem.tail _ (List.Mem.tail _ (List.Mem.tail _ (List.Mem.tail _ (List.Mem.tail _ (List.Mem.head _)))))))
  have cb0 := H.cell (w3.heap.size) 0 (.int .i64 y) (List.Mem.head _)
  have cb1 := H.cell (w3.heap.size) 1 (.int .i64 (m + 1)) (List.Mem.tail _ (List.Mem.head _))
  have cb2 := H.cell (w3.heap.size) 2 (.int .i64 1) (List.Mem.tail _ (List.Mem.tail _ (List.Mem.head _)))
  have lb := H.lt (w3.heap.size) 0 (.int .i64 y) (List.Mem.head _)
  have HK := H.old
  clear H
  go_wp2
  go_quiet ((go_at_call 18; with_reducible exact quietLeft (C.out _)))
  go_wp2
  go_ret
  exact ⟨rfl, belowDrewN (HK.alloc HK.size _) _⟩

set_option maxHeartbeats 4000000 in
set_option maxRecDepth 100000 in
theorem cnext_year (n y d k : Int) (w : World) (hL : Lens w) (h1 : may y 12 d) (hn : nb y 12 d = n) (h2 : may (y + 1) (1) (1)) (hn2 : nb (y + 1) (1) (1) = n + 1) (hl : ln y 12 = d) (hk : wk n = k)  :
    Calls Tryd.prog 5 #[.int .i64 n] w fun e w' => e = .returned (.bool true) ∧ Below w.heap.size w w' := by
  have H := (Held.start w).add (f := lensF) hL
  clear hL
  have b1 := nb_bd y 12 d h1
  have b2 := nb_bd (y + 1) (1) (1) h2
  rw [hn] at b1
  rw [hn2] at b2
  have O1 : Hid (DayIs n y 12 d 0) := Lib.hid (Or.inl ⟨h1, hn, rfl⟩)
  have O2 : Hid (DayIs (n + 1) (y + 1) (1) (1) 0) := Lib.hid (Or.inl ⟨h2, hn2, rfl⟩)
  have k0 : 0 ≤ k ∧ k < 7 := by rw [← hk]; unfold wk; omega
  have K1 := Lib.hid hk
  have K2 : Hid (wk (n + 1) = (k + 1) % 7) := Lib.hid (by rw [← hk]; unfold wk; omega)
  have C := Lib.hid (fun v => rlength_any y 12 v)
  rw [hl] at C
  obtain ⟨y1, y2, m1, m2, d1, d2⟩ := h1
  have d3 : d ≤ 31 := by have := ln_le y 12; omega
  clear d2 hn hn2 hl hk h2
  go_enter Tryd.func5, Tryd.ntmps5
  go_wp2_with fail
  (with_reducible refine (cshown_any _ (H.lens (List.Mem.head _))).mono ?_)
  rintro e w1 ⟨rfl, hb⟩
  replace H := H.below hb
  clear hb
  go_wp2_with fail
  (with_reducible refine (of_any n y 12 d 0 _ (H.lens (List.Mem.head _)) O1.out).mono ?_)
  rintro e w2 ⟨rfl, hb⟩
  replace H := H.below hb
  clear hb
  go_wp2_with fail
  replace H := (H.triple (w2.heap.size) (.int .i64 y) (.int .i64 12) (.int .i64 d) 23 rfl)
  (with_reducible refine (of_any (n + 1) (y + 1) (1) (1) 0 _ (H.lens (List.Mem.tail _ (List.Mem.tail _ (List.Mem.tail _ (List.Mem.tail _ (List.Mem.tail _ (List.Mem.tail _ (List.Mem.head _)))))))) O2.out).mono ?_)
  rintro e w3 ⟨rfl, hb⟩
  replace H := H.below hb
  clear hb
  go_wp2_with fail
  replace H := (H.triple (w3.heap.size) (.int .i64 (y + 1)) (.int .i64 1) (.int .i64 1) 23 rfl)
  (with_reducible refine (week_is (n + 1) ((k + 1) % 7) _ K2.out).mono ?_)
  rintro e w4 ⟨rfl, hb⟩
  replace H := H.below hb
  clear hb
  go_wp2_with fail
  (with_reducible refine (week_is n k _ K1.out).mono ?_)
  rintro e w5 ⟨rfl, hb⟩
  replace H := H.below hb
  clear hb
  have ca0 := H.cell (w2.heap.size) 0 (.int .i64 y) (List.Mem.tail _ (List.Mem.tail _ (List.Mem.tail _ (List.Mem.tail _ (List.Mem.tail _ (List.Mem.tail _ (List.Mem.head _)))))))
  have ca1 := H.cell (w2.heap.size) 1 (.int .i64 12) (List.Mem.tail _ (List.Mem.tail _ (List.Mem.tail _ (List.Mem.tail _ (List.Mem.tail _ (List.Mem.tail _ (List.Mem.tail _ (List.Mem.head _))))))))
  have ca2 := H.cell (w2.heap.size) 2 (.int .i64 d) (List.Mem.tail _ (List.Mem.tail _ (List.Mem.tail _ (List.Mem.tail _ (List.Mem.tail _ (List.Mem.tail _ (List.Mem.tail _ (List.Mem.tail _ (List.Mem.head _)))))))))
  have la := H.lt (w2.heap.size) 0 (.int .i64 y) (List.Mem.tail _ (List.Mem.tail _ (List.Mem.tail _ (List.Mem.tail _ (List.Mem.tail _ (List.Mem.tail _ (List.Mem.head _)))))))
  have cb0 := H.cell (w3.heap.size) 0 (.int .i64 (y + 1)) (List.Mem.head _)
  have cb1 := H.cell (w3.heap.size) 1 (.int .i64 1) (List.Mem.tail _ (List.Mem.head _))
  have cb2 := H.cell (w3.heap.size) 2 (.int .i64 1) (List.Mem.tail _ (List.Mem.tail _ (List.Mem.head _)))
  have lb := H.lt (w3.heap.size) 0 (.int .i64 (y + 1)) (List.Mem.head _)
  have HK := H.old
  clear H
  go_wp2
  go_quiet ((go_at_call 18; with_reducible exact quietLeft (C.out _)))
  go_wp2
  go_ret
  exact ⟨rfl, belowDrewN (HK.alloc HK.size _) _⟩

theorem cnext_walk (n : Int) (w : World) (hL : Lens w) (hn : -9223372036854775808 ≤ n ∧ n < 9223372036854775808) : Calls Tryd.prog 5 #[.int .i64 n] w fun e w' => e = .returned (.bool true) ∧ Below w.heap.size w w' := by
  by_cases h1 : n < 1
  · exact cnext_low n w hL h1
  · by_cases h2 : 3652059 ≤ n
    · exact cnext_high n w hL h2
    · obtain ⟨y, m, d, hm, hb⟩ := day_of n (by omega) (by omega)
      have hm' := hm
      obtain ⟨y1, y2, m1, m2, d1, d2⟩ := hm'
      have hb' : ah y + am y m + d = n := hb
      by_cases hd : d = ln y m
      · have st := am_step y m m1 m2
        by_cases h12 : m = 12
        · subst h12
          have e := am_end y
          have e2 : am y (12 + 1) = am y 13 := rfl
          rw [e2, e] at st
          have e3 := ah_step y
          have y3 : y ≠ 9999 := by
            rintro rfl
            have e4 : ah (9999 + 1) = 3652059 := ah_end
            omega
          refine cnext_year n y d (wk n) w hL hm hb ⟨by omega, by omega, by omega, by omega, by omega, ?_⟩ ?_ hd.symm rfl
          · have := ln_ge (y + 1) 1 (by omega) (by omega); omega
          · unfold nb; rw [am_one]; omega
        · refine cnext_month n y m d (wk n) w hL hm hb ⟨y1, y2, by omega, by omega, by omega, ?_⟩ ?_ hd.symm rfl h12
          · have := ln_ge y (m + 1) (by omega) (by omega); omega
          · unfold nb; omega
      · exact cnext_day n y m d (ln y m) (wk n) w hL hm hb ⟨y1, y2, m1, m2, by omega, by omega⟩ (by unfold nb; omega) rfl rfl hd
end Go.Proofs.YthnondaheppkiaaDoor
