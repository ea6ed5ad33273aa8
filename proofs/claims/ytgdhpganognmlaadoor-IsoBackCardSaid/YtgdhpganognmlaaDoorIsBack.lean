/- IsoBack: the walk. -/
import Derived.Test.YtgdhpganognmlaaDoorIsShown
namespace Go.Proofs.YtgdhpganognmlaaDoor
open Go.RowKit
set_option linter.unusedVariables false
set_option linter.unusedSimpArgs false

set_option maxHeartbeats 4000000 in
set_option maxRecDepth 100000 in
theorem iback_long (n : Int) (l : List UInt8) (w : World) (hL : Tabs w) (h : l.length > 40) :
    Calls Tryd.prog 4 #[.int .i64 n, .string ⟨l.toArray⟩] w fun e w' => e = .returned (.bool true) ∧ Below w.heap.size w w' := by
  have H := (Held.start w).add (f := tabsF) hL
  clear hL
  have h2 : ((l.length : Int) > 40) := by omega
  clear h
  go_enter Tryd.func4, Tryd.ntmps4
  go_wp2_with fail
  (with_reducible refine (ishown_any _ (H.tabs (List.Mem.head _))).mono ?_)
  rintro e w1 ⟨rfl, hb⟩
  replace H := H.below hb
  clear hb
  go_wp2_with fail
  go_ret
  exact ⟨rfl, H.old⟩

set_option maxHeartbeats 4000000 in
set_option maxRecDepth 100000 in
theorem iback_11 (n x : Int) (l a : List UInt8) (w : World) (hL : Tabs w) (h : ¬ l.length > 40) (h1 : 1 ≤ n ∧ n ≤ 3652059) (hs : ShowIs n a 0) (hl : a.length = 10) (hr : ReadIs a n 0) (hy : ReadIs l x 0) (hz : ShowIs x l 0) :
    Calls Tryd.prog 4 #[.int .i64 n, .string ⟨l.toArray⟩] w fun e w' => e = .returned (.bool true) ∧ Below w.heap.size w w' := by
  have H := (Held.start w).add (f := tabsF) hL
  clear hL
  have h2 : ¬ ((l.length : Int) > 40) := by omega
  clear h
  have D1 : Hid (decide (1 ≤ n ∧ n ≤ 3652059) = true) := Lib.hid (by rw [decide_eq_true_eq]; exact h1)
  have S1 := Lib.hid hs
  have R1 := Lib.hid hr
  clear hs hr
  have R2 := Lib.hid hy
  clear hy
  have S2 := Lib.hid hz
  clear hz
  go_enter Tryd.func4, Tryd.ntmps4
  go_wp2_with fail
  (with_reducible refine (ishown_any _ (H.tabs (List.Mem.head _))).mono ?_)
  rintro e w1 ⟨rfl, hb⟩
  replace H := H.below hb
  clear hb
  go_wp2_with fail
  (with_reducible refine (show_any n 0 a _ (H.tabs (List.Mem.head _)) S1.out).mono ?_)
  rintro e w2 ⟨rfl, hb⟩
  replace H := H.below hb
  clear hb
  go_wp2_with fail
  (with_reducible refine (day_of_is n true _ D1.out).mono ?_)
  rintro e w3 ⟨rfl, hb⟩
  replace H := H.below hb
  clear hb
  go_wp2_with fail
  (with_reducible refine (read_any a n 0 _ (H.tabs (List.Mem.head _)) R1.out).mono ?_)
  rintro e w4 ⟨rfl, hb⟩
  replace H := H.below hb
  clear hb
  go_wp2_with fail
  (with_reducible refine (read_any l x 0 _ (H.tabs (List.Mem.head _)) R2.out).mono ?_)
  rintro e w5 ⟨rfl, hb⟩
  replace H := H.below hb
  clear hb
  go_wp2_with fail
  (with_reducible refine (show_any x 0 l _ (H.tabs (List.Mem.head _)) S2.out).mono ?_)
  rintro e w6 ⟨rfl, hb⟩
  replace H := H.below hb
  clear hb
  go_wp2_with fail
  go_ret
  exact ⟨rfl, H.old⟩

set_option maxHeartbeats 4000000 in
set_option maxRecDepth 100000 in
theorem iback_10 (n e : Int) (l a : List UInt8) (w : World) (hL : Tabs w) (h : ¬ l.length > 40) (h1 : 1 ≤ n ∧ n ≤ 3652059) (hs : ShowIs n a 0) (hl : a.length = 10) (hr : ReadIs a n 0) (hy : ReadIs l 0 e) (he : e ≠ 0) :
    Calls Tryd.prog 4 #[.int .i64 n, .string ⟨l.toArray⟩] w fun e w' => e = .returned (.bool true) ∧ Below w.heap.size w w' := by
  have H := (Held.start w).add (f := tabsF) hL
  clear hL
  have h2 : ¬ ((l.length : Int) > 40) := by omega
  clear h
  have D1 : Hid (decide (1 ≤ n ∧ n ≤ 3652059) = true) := Lib.hid (by rw [decide_eq_true_eq]; exact h1)
  have S1 := Lib.hid hs
  have R1 := Lib.hid hr
  clear hs hr
  have R2 := Lib.hid hy
  clear hy
  have t1 : (e != 0) = true := by simpa using he
  clear he
  go_enter Tryd.func4, Tryd.ntmps4
  go_wp2_with fail
  (with_reducible refine (ishown_any _ (H.tabs (List.Mem.head _))).mono ?_)
  rintro e w1 ⟨rfl, hb⟩
  replace H := H.below hb
  clear hb
  go_wp2_with fail
  (with_reducible refine (show_any n 0 a _ (H.tabs (List.Mem.head _)) S1.out).mono ?_)
  rintro e w2 ⟨rfl, hb⟩
  replace H := H.below hb
  clear hb
  go_wp2_with fail
  (with_reducible refine (day_of_is n true _ D1.out).mono ?_)
  rintro e w3 ⟨rfl, hb⟩
  replace H := H.below hb
  clear hb
  go_wp2_with fail
  (with_reducible refine (read_any a n 0 _ (H.tabs (List.Mem.head _)) R1.out).mono ?_)
  rintro e w4 ⟨rfl, hb⟩
  replace H := H.below hb
  clear hb
  go_wp2_with fail
  (with_reducible refine (read_any l 0 e _ (H.tabs (List.Mem.head _)) R2.out).mono ?_)
  rintro e w5 ⟨rfl, hb⟩
  replace H := H.below hb
  clear hb
  go_wp2_with fail
  go_ret
  exact ⟨rfl, H.old⟩

set_option maxHeartbeats 4000000 in
set_option maxRecDepth 100000 in
theorem iback_01 (n x : Int) (l : List UInt8) (w : World) (hL : Tabs w) (h : ¬ l.length > 40) (h1 : n < 1 ∨ 3652059 < n) (hy : ReadIs l x 0) (hz : ShowIs x l 0) :
    Calls Tryd.prog 4 #[.int .i64 n, .string ⟨l.toArray⟩] w fun e w' => e = .returned (.bool true) ∧ Below w.heap.size w w' := by
  have H := (Held.start w).add (f := tabsF) hL
  clear hL
  have h2 : ¬ ((l.length : Int) > 40) := by omega
  clear h
  have D1 : Hid (decide (1 ≤ n ∧ n ≤ 3652059) = false) := Lib.hid (by rw [decide_eq_false_iff_not]; omega)
  have S1 := Lib.hid (show_out h1)
  have R2 := Lib.hid hy
  clear hy
  have S2 := Lib.hid hz
  clear hz
  go_enter Tryd.func4, Tryd.ntmps4
  go_wp2_with fail
  (with_reducible refine (ishown_any _ (H.tabs (List.Mem.head _))).mono ?_)
  rintro e w1 ⟨rfl, hb⟩
  replace H := H.below hb
  clear hb
  go_wp2_with fail
  (with_reducible refine (show_any n 3 [] _ (H.tabs (List.Mem.head _)) S1.out).mono ?_)
  rintro e w2 ⟨rfl, hb⟩
  replace H := H.below hb
  clear hb
  go_wp2_with fail
  (with_reducible refine (day_of_is n false _ D1.out).mono ?_)
  rintro e w3 ⟨rfl, hb⟩
  replace H := H.below hb
  clear hb
  go_wp2_with fail
  (with_reducible refine (read_any l x 0 _ (H.tabs (List.Mem.head _)) R2.out).mono ?_)
  rintro e w4 ⟨rfl, hb⟩
  replace H := H.below hb
  clear hb
  go_wp2_with fail
  (with_reducible refine (show_any x 0 l _ (H.tabs (List.Mem.head _)) S2.out).mono ?_)
  rintro e w5 ⟨rfl, hb⟩
  replace H := H.below hb
  clear hb
  go_wp2_with fail
  go_ret
  exact ⟨rfl, H.old⟩

set_option maxHeartbeats 4000000 in
set_option maxRecDepth 100000 in
theorem iback_00 (n e : Int) (l : List UInt8) (w : World) (hL : Tabs w) (h : ¬ l.length > 40) (h1 : n < 1 ∨ 3652059 < n) (hy : ReadIs l 0 e) (he : e ≠ 0) :
    Calls Tryd.prog 4 #[.int .i64 n, .string ⟨l.toArray⟩] w fun e w' => e = .returned (.bool true) ∧ Below w.heap.size w w' := by
  have H := (Held.start w).add (f := tabsF) hL
  clear hL
  have h2 : ¬ ((l.length : Int) > 40) := by omega
  clear h
  have D1 : Hid (decide (1 ≤ n ∧ n ≤ 3652059) = false) := Lib.hid (by rw [decide_eq_false_iff_not]; omega)
  have S1 := Lib.hid (show_out h1)
  have R2 := Lib.hid hy
  clear hy
  have t1 : (e != 0) = true := by simpa using he
  clear he
  go_enter Tryd.func4, Tryd.ntmps4
  go_wp2_with fail
  (with_reducible refine (ishown_any _ (H.tabs (List.Mem.head _))).mono ?_)
  rintro e w1 ⟨rfl, hb⟩
  replace H := H.below hb
  clear hb
  go_wp2_with fail
  (with_reducible refine (show_any n 3 [] _ (H.tabs (List.Mem.head _)) S1.out).mono ?_)
  rintro e w2 ⟨rfl, hb⟩
  replace H := H.below hb
  clear hb
  go_wp2_with fail
  (with_reducible refine (day_of_is n false _ D1.out).mono ?_)
  rintro e w3 ⟨rfl, hb⟩
  replace H := H.below hb
  clear hb
  go_wp2_with fail
  (with_reducible refine (read_any l 0 e _ (H.tabs (List.Mem.head _)) R2.out).mono ?_)
  rintro e w4 ⟨rfl, hb⟩
  replace H := H.below hb
  clear hb
  go_wp2_with fail
  go_ret
  exact ⟨rfl, H.old⟩

theorem iback_walk (n : Int) (s : ByteArray) (w : World) (hL : Tabs w) (hn : -9223372036854775808 ≤ n ∧ n < 9223372036854775808) :
    Calls Tryd.prog 4 #[.int .i64 n, .string s] w fun e w' => e = .returned (.bool true) ∧ Below w.heap.size w w' := by
  obtain ⟨⟨l⟩⟩ := s
  by_cases h : l.length > 40
  · exact iback_long n l w hL h
  · have HR : (∃ x, ReadIs l x 0 ∧ ShowIs x l 0) ∨ ∃ e, ReadIs l 0 e ∧ e ≠ 0 := by
      obtain ⟨x, e, hr⟩ := read_is l
      by_cases he : e = 0
      · subst he
        obtain ⟨y, m, d, a, b, c⟩ := txt_read l x hr
        exact Or.inl ⟨x, hr, show_in y m d a b c⟩
      · have hx : x = 0 := by
          rcases hr with ⟨a, b, c, d, f, g, i, j, -, -, h1, h2⟩ | ⟨-, h1, -⟩
          · by_cases hm : may (v4 a b c d) (v2 f g) (v2 i j)
            · exact absurd (h2.trans (n_yes hm).2) he
            · exact h1.trans (n_no hm).1
          · exact h1
        subst hx
        exact Or.inr ⟨e, hr, he⟩
    by_cases h1 : n < 1 ∨ 3652059 < n
    · rcases HR with ⟨x, r, s⟩ | ⟨e, r, he⟩
      · exact iback_01 n x l w hL h h1 r s
      · exact iback_00 n e l w hL h h1 r he
    · obtain ⟨y, m, d, hm, hb⟩ := day_of n (by omega) (by omega)
      have R : 1 ≤ n ∧ n ≤ 3652059 := by omega
      have bd := may_bd hm
      have hr : ReadIs (txt y m d) n 0 := read_at y m d n 0 _ rfl ⟨bd.1, bd.2.1⟩ ⟨bd.2.2.1, bd.2.2.2.1⟩ ⟨bd.2.2.2.2.1, bd.2.2.2.2.2⟩ (by rw [← hb]; exact n_yes hm)
      rcases HR with ⟨x, r, s⟩ | ⟨e, r, he⟩
      · exact iback_11 n x l _ w hL h R (show_in y m d hm hb rfl) (txt_len _ _ _) hr r s
      · exact iback_10 n e l _ w hL h R (show_in y m d hm hb rfl) (txt_len _ _ _) hr r he
end Go.Proofs.YtgdhpganognmlaaDoor
