/- RatioGcd: the walk. -/
import Derived.Test.YtghhnpbepilefaaRShown
import Derived.Deep.QuietTactic
import Derived.BigQuiet
namespace Go.Proofs.Ytghhnpbepilefaa
open Go.RowKit
set_option linter.unusedVariables false

theorem gcd_q (a b g : Int) (w : World) (h : (0 ≤ a ∧ a < 18446744073709551616) ∧ (0 ≤ b ∧ b < 18446744073709551616) ∧ gi a b = g) :
    Calls Try.prog 17 #[.int .u64 a, .int .u64 b] w fun e w' => e = .returned (.int .u64 g) ∧ ∃ n, w' = w.drewN n := by
  obtain ⟨⟨a0, a1⟩, ⟨b0, b1⟩, rfl⟩ := h; exact gcd_any a b w a0 a1 b0 b1
theorem gi_sum (x y : Int) : gi (x + y) y = gi x y := by
  have := Int.gcd_add_mul_right_left (m := y) (n := x) (k := 1)
  rw [Int.one_mul] at this
  unfold gi; rw [this]

theorem rgcd_zero (w : World) :
    Calls Try.prog 7 #[.int .u64 0, .int .u64 0] w fun e w' => e = .returned (.bool true) ∧ Below w.heap.size w w' := by
  have H := Held.start w
  go_enter Try.func7, Try.ntmps7
  go_wp2_with fail
  (with_reducible refine (rshown_any _).mono ?_)
  rintro e w1 ⟨rfl, hb⟩
  replace H := H.below hb
  clear hb
  go_wp2_with fail
  (with_reducible refine (gcd_is 0 0 0 _ (by decide +kernel) (by decide +kernel) (by decide +kernel) (by decide +kernel) (by decide +kernel)).mono ?_)
  rintro e w2 ⟨rfl, hb⟩
  replace H := H.below hb
  clear hb
  go_wp2
  go_ret
  exact ⟨rfl, H.old⟩

set_option maxHeartbeats 4000000 in
set_option maxRecDepth 100000 in
theorem rgcd_a (a b : Int) (w : World) (a0 : 0 ≤ a) (a1 : a < 18446744073709551616) (b0 : 0 ≤ b) (b1 : b < 18446744073709551616) (ha : 0 < a) :
    Calls Try.prog 7 #[.int .u64 a, .int .u64 b] w fun e w' => e = .returned (.bool true) ∧ Below w.heap.size w w' := by
  have H := Held.start w
  have hp : 0 < a ∨ 0 < b := by omega
  have t1 : (a == 0) = false := beq_eq_false_iff_ne.2 (by omega)
  have gp := gi_pos a b hp
  have g1 := (gi_bd a b 18446744073709551616 a0 b0 a1 b1).2
  have m1 := m_one a b hp
  have e1 : a % gi a b = 0 := Int.emod_eq_zero_of_dvd (gi_dvd_l a b)
  have e2 : b % gi a b = 0 := Int.emod_eq_zero_of_dvd (gi_dvd_r a b)
  have m2 := m_le a b a0 b0
  have m3 := mN_nonneg a b a0
  have m4 : 0 ≤ mD a b := Int.ediv_nonneg b0 (by omega)
  simp only [mN, mD] at m1 m2 m3 m4
  obtain ⟨g, HG⟩ : ∃ g, Hid (gi a b = g) := ⟨_, Lib.hid rfl⟩
  rw [HG.out] at gp g1 m1 m2 m3 m4 e1 e2
  obtain ⟨p, HP⟩ : ∃ p, Hid (a / g = p) := ⟨_, Lib.hid rfl⟩
  obtain ⟨q, HQ⟩ : ∃ q, Hid (b / g = q) := ⟨_, Lib.hid rfl⟩
  rw [HP.out] at m1 m2 m3
  rw [HQ.out] at m1 m2 m4
  obtain ⟨x, HX⟩ : ∃ x, Hid (a / 2 = x) := ⟨_, Lib.hid rfl⟩
  obtain ⟨y, HY⟩ : ∃ y, Hid (b / 2 = y) := ⟨_, Lib.hid rfl⟩
  have x0 : 0 ≤ x := by rw [← HX.out]; omega
  have x1 : x ≤ 9223372036854775807 := by rw [← HX.out]; omega
  have y0 : 0 ≤ y := by rw [← HY.out]; omega
  have y1 : y ≤ 9223372036854775807 := by rw [← HY.out]; omega
  obtain ⟨k, HK⟩ : ∃ k, Hid (gi x y = k) := ⟨_, Lib.hid rfl⟩
  have wS : IntKind.u64.wrap (x + y) = x + y := IntWalk.u64_in _ (by omega)
  have s0 : 0 ≤ x + y := by omega
  have s1 : x + y < 18446744073709551616 := by omega
  have C1 := Lib.hid (fun w => gcd_q p q 1 w ⟨by omega, by omega, m1⟩)
  have C2 := Lib.hid (fun w => gcd_q b a g w ⟨by omega, by omega, by rw [gi_comm]; exact HG.out⟩)
  have C3 := Lib.hid (fun w => gcd_q a 0 a w ⟨by omega, by omega, gi_zero a a0⟩)
  have C4 := Lib.hid (fun w => gcd_q a a a w ⟨by omega, by omega, gi_self a a0⟩)
  have C5 := Lib.hid (fun w => gcd_q x y k w ⟨by omega, by omega, HK.out⟩)
  have C6 := Lib.hid (fun w => gcd_q (x + y) y k w ⟨by omega, by omega, by rw [gi_sum]; exact HK.out⟩)
  have tg : (g == 0) = false := beq_eq_false_iff_ne.2 (by omega)
  have hp1 := HP.out
  have hq1 := HQ.out
  have hx1 := HX.out
  have hy1 := HY.out
  have q0 : 0 ≤ g := by omega
  clear m1 m2 m3 m4 hp
  go_enter Try.func7, Try.ntmps7
  go_wp2_with fail
  (with_reducible refine (rshown_any _).mono ?_)
  rintro e w1 ⟨rfl, hb⟩
  replace H := H.below hb
  clear hb
  go_wp2_with fail
  (with_reducible refine (gcd_is a b g _ a0 a1 b0 b1 HG.out).mono ?_)
  rintro e w2 ⟨rfl, hb⟩
  replace H := H.below hb
  clear hb
  go_wp2_with fail
  go_quiet ((go_at_call 17; first | (with_reducible exact quietDrew (C1.out _)) | (with_reducible exact quietDrew (C2.out _)) | (with_reducible exact quietDrew (C3.out _)) | (with_reducible exact quietDrew (C4.out _)) | (with_reducible exact quietDrew (C5.out _)) | (with_reducible exact quietDrew (C6.out _))))
  go_wp2
  go_ret
  exact ⟨rfl, belowDrewN H.old _⟩

set_option maxHeartbeats 4000000 in
set_option maxRecDepth 100000 in
theorem rgcd_b (a b : Int) (w : World) (a0 : 0 ≤ a) (a1 : a < 18446744073709551616) (b0 : 0 ≤ b) (b1 : b < 18446744073709551616) (ha : a = 0) (hb : 0 < b) :
    Calls Try.prog 7 #[.int .u64 a, .int .u64 b] w fun e w' => e = .returned (.bool true) ∧ Below w.heap.size w w' := by
  have H := Held.start w
  have hp : 0 < a ∨ 0 < b := by omega
  have t1 : (a == 0) = true := beq_iff_eq.2 ha
  have t2 : (b == 0) = false := beq_eq_false_iff_ne.2 (by omega)
  clear ha
  have gp := gi_pos a b hp
  have g1 := (gi_bd a b 18446744073709551616 a0 b0 a1 b1).2
  have m1 := m_one a b hp
  have e1 : a % gi a b = 0 := Int.emod_eq_zero_of_dvd (gi_dvd_l a b)
  have e2 : b % gi a b = 0 := Int.emod_eq_zero_of_dvd (gi_dvd_r a b)
  have m2 := m_le a b a0 b0
  have m3 := mN_nonneg a b a0
  have m4 : 0 ≤ mD a b := Int.ediv_nonneg b0 (by omega)
  simp only [mN, mD] at m1 m2 m3 m4
  obtain ⟨g, HG⟩ : ∃ g, Hid (gi a b = g) := ⟨_, Lib.hid rfl⟩
  rw [HG.out] at gp g1 m1 m2 m3 m4 e1 e2
  obtain ⟨p, HP⟩ : ∃ p, Hid (a / g = p) := ⟨_, Lib.hid rfl⟩
  obtain ⟨q, HQ⟩ : ∃ q, Hid (b / g = q) := ⟨_, Lib.hid rfl⟩
  rw [HP.out] at m1 m2 m3
  rw [HQ.out] at m1 m2 m4
  obtain ⟨x, HX⟩ : ∃ x, Hid (a / 2 = x) := ⟨_, Lib.hid rfl⟩
  obtain ⟨y, HY⟩ : ∃ y, Hid (b / 2 = y) := ⟨_, Lib.hid rfl⟩
  have x0 : 0 ≤ x := by rw [← HX.out]; omega
  have x1 : x ≤ 9223372036854775807 := by rw [← HX.out]; omega
  have y0 : 0 ≤ y := by rw [← HY.out]; omega
  have y1 : y ≤ 9223372036854775807 := by rw [← HY.out]; omega
  obtain ⟨k, HK⟩ : ∃ k, Hid (gi x y = k) := ⟨_, Lib.hid rfl⟩
  have wS : IntKind.u64.wrap (x + y) = x + y := IntWalk.u64_in _ (by omega)
  have s0 : 0 ≤ x + y := by omega
  have s1 : x + y < 18446744073709551616 := by omega
  have C1 := Lib.hid (fun w => gcd_q p q 1 w ⟨by omega, by omega, m1⟩)
  have C2 := Lib.hid (fun w => gcd_q b a g w ⟨by omega, by omega, by rw [gi_comm]; exact HG.out⟩)
  have C3 := Lib.hid (fun w => gcd_q a 0 a w ⟨by omega, by omega, gi_zero a a0⟩)
  have C4 := Lib.hid (fun w => gcd_q a a a w ⟨by omega, by omega, gi_self a a0⟩)
  have C5 := Lib.hid (fun w => gcd_q x y k w ⟨by omega, by omega, HK.out⟩)
  have C6 := Lib.hid (fun w => gcd_q (x + y) y k w ⟨by omega, by omega, by rw [gi_sum]; exact HK.out⟩)
  have tg : (g == 0) = false := beq_eq_false_iff_ne.2 (by omega)
  have hp1 := HP.out
  have hq1 := HQ.out
  have hx1 := HX.out
  have hy1 := HY.out
  have q0 : 0 ≤ g := by omega
  clear m1 m2 m3 m4 hp
  go_enter Try.func7, Try.ntmps7
  go_wp2_with fail
  (with_reducible refine (rshown_any _).mono ?_)
  rintro e w1 ⟨rfl, hb⟩
  replace H := H.below hb
  clear hb
  go_wp2_with fail
  (with_reducible refine (gcd_is a b g _ a0 a1 b0 b1 HG.out).mono ?_)
  rintro e w2 ⟨rfl, hb⟩
  replace H := H.below hb
  clear hb
  go_wp2_with fail
  go_quiet ((go_at_call 17; first | (with_reducible exact quietDrew (C1.out _)) | (with_reducible exact quietDrew (C2.out _)) | (with_reducible exact quietDrew (C3.out _)) | (with_reducible exact quietDrew (C4.out _)) | (with_reducible exact quietDrew (C5.out _)) | (with_reducible exact quietDrew (C6.out _))))
  go_wp2
  go_ret
  exact ⟨rfl, belowDrewN H.old _⟩

theorem rgcd_walk (a b : Int) (w : World) (ha : 0 ≤ a ∧ a < 18446744073709551616) (hb : 0 ≤ b ∧ b < 18446744073709551616) :
    Calls Try.prog 7 #[.int .u64 a, .int .u64 b] w fun e w' => e = .returned (.bool true) ∧ Below w.heap.size w w' := by
  by_cases h : 0 < a
  · exact rgcd_a a b w ha.1 ha.2 hb.1 hb.2 h
  · by_cases k : 0 < b
    · exact rgcd_b a b w ha.1 ha.2 hb.1 hb.2 (by omega) k
    · obtain rfl : a = 0 := by omega
      obtain rfl : b = 0 := by omega
      exact rgcd_zero w
end Go.Proofs.Ytghhnpbepilefaa
