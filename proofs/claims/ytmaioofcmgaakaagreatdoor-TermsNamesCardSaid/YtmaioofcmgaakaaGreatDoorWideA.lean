/- Package wide: Of, Mul, Cmp, Add, Sub, Times: what each answers, for every numbers. -/
import Derived.Test.YtmaioofcmgaakaaGreatDoorUpward
import Derived.Test.YtmaioofcmgaakaaGreatDoorNum
import Derived.RegionTactic
namespace Go.Proofs.YtmaioofcmgaakaaGreatDoor
open Go.RowKit

theorem of_any (n : Int) (w : World) :
    Calls Tryz.prog 78 #[.int .u64 n] w fun e w' => e = .returned (.agg #[.int .u64 0, .int .u64 n]) ∧ Below w.heap.size w w' := by
  go_enter Tryz.func78, Tryz.ntmps78
  go_wp2
  exact bodyPost_ret (v := .agg #[.int .u64 0, .int .u64 n]) (by simp [results, Tryz.results78, go_sem]) rfl ⟨rfl, (Below.refl _ _).alloc (Nat.le_refl _) _⟩

theorem mul_any (a b : Int) (w : World) (h1 : 0 ≤ a) (h2 : a < 18446744073709551616) (h3 : 0 ≤ b) (h4 : b < 18446744073709551616) :
    Calls Tryz.prog 82 #[.int .u64 a, .int .u64 b] w fun e w' => e = .returned (.agg #[.int .u64 (hi (a * b)), .int .u64 (lo (a * b))]) ∧ Below w.heap.size w w' := by
  have c31 := fun w => mul64 a b h1 h2 h3 h4 w
  have C31 := Lib.hid c31
  clear c31
  unfold hi lo
  generalize a * b = p at *
  go_enter Tryz.func82, Tryz.ntmps82
  go_wp2_with (go_at_call 97; refine (C31.out _).mono ?_; rintro e w' ⟨rfl, rfl⟩)
  exact bodyPost_ret (v := .agg #[.int .u64 (p / 18446744073709551616), .int .u64 (p % 18446744073709551616)]) (by simp [results, Tryz.results82, go_sem]) rfl ⟨rfl, (Below.refl _ _).alloc (Nat.le_refl _) _⟩

theorem isNaN_any (x : Int) (w : World) : Calls Tryz.prog 110 #[.int .u64 x] w fun e w' => e = .returned (.bool false) ∧ w = w' := by
  go_enter Tryz.func110, Tryz.ntmps110
  go_wp2
  go_ret
  simp

/-- How two numbers lie to each other. -/
def cmpI (x y : Int) : Int := if x < y then -1 else if y < x then 1 else 0

theorem compare_any (x y : Int) (w : World) : Calls Tryz.prog 107 #[.int .u64 x, .int .u64 y] w fun e w' => e = .returned (.int .i64 (cmpI x y)) ∧ w = w' := by
  obtain ⟨c, C⟩ : ∃ c, Hid (cmpI x y = c) := ⟨_, Lib.hid rfl⟩
  rw [C.out]
  go_enter Tryz.func107, Tryz.ntmps107
  by_cases h1 : x < y
  · obtain rfl : c = -1 := by have := C.out; unfold cmpI at this; rw [if_pos h1] at this; omega
    go_wp2_with (go_at_call 110; refine (isNaN_any _ _).mono ?_; rintro e w' ⟨rfl, rfl⟩)
    go_ret
    exact ⟨rfl, rfl⟩
  · by_cases h2 : y < x
    · obtain rfl : c = 1 := by have := C.out; unfold cmpI at this; rw [if_neg h1, if_pos h2] at this; omega
      go_wp2_with (go_at_call 110; refine (isNaN_any _ _).mono ?_; rintro e w' ⟨rfl, rfl⟩)
      go_ret
      exact ⟨rfl, rfl⟩
    · obtain rfl : c = 0 := by have := C.out; unfold cmpI at this; rw [if_neg h1, if_neg h2] at this; omega
      go_wp2_with (go_at_call 110; refine (isNaN_any _ _).mono ?_; rintro e w' ⟨rfl, rfl⟩)
      go_ret
      exact ⟨rfl, rfl⟩

theorem cmpI_hi (a1 a0 b1 b0 : Int) (ha : 0 ≤ a0) (ha' : a0 < 18446744073709551616) (hb : 0 ≤ b0) (hb' : b0 < 18446744073709551616) (h : a1 ≠ b1) : cmpI (wn a1 a0) (wn b1 b0) = cmpI a1 b1 := by
  unfold cmpI
  by_cases h1 : a1 < b1
  · rw [if_pos h1, if_pos (cmp_hi _ _ _ _ ha ha' hb hb' h1)]
  · have h2 : b1 < a1 := by omega
    have := cmp_hi _ _ _ _ hb hb' ha ha' h2
    rw [if_neg h1, if_pos h2, if_neg (by omega), if_pos this]
theorem cmpI_lo (a1 a0 b0 : Int) : cmpI (wn a1 a0) (wn a1 b0) = cmpI a0 b0 := by
  unfold cmpI wn
  repeat' split
  all_goals omega

theorem cmp_any (a1 a0 b1 b0 : Int) (w : World) (ha : 0 ≤ a0) (ha' : a0 < 18446744073709551616) (hb : 0 ≤ b0) (hb' : b0 < 18446744073709551616) :
    Calls Tryz.prog 91 #[.agg #[.int .u64 a1, .int .u64 a0], .agg #[.int .u64 b1, .int .u64 b0]] w fun e w' => e = .returned (.int .i64 (cmpI (wn a1 a0) (wn b1 b0))) ∧ Below w.heap.size w w' := by
  obtain ⟨c, C⟩ : ∃ c, Hid (cmpI (wn a1 a0) (wn b1 b0) = c) := ⟨_, Lib.hid rfl⟩
  rw [C.out]
  by_cases h1 : a1 = b1
  · subst h1
    have hq : (a1 != a1) = false := by simp
    have E : Hid (cmpI a0 b0 = c) := Lib.hid (by rw [← C.out, cmpI_lo])
    go_enter Tryz.func91, Tryz.ntmps91
    go_wp2_with (go_at_call 107; refine (compare_any _ _ _).mono ?_; rw [E.out]; rintro e w' ⟨rfl, rfl⟩)
    go_ret
    exact ⟨rfl, ((Below.refl _ _).alloc (Nat.le_refl _) _).alloc (by simp) _⟩
  · have hq : (a1 != b1) = true := by simp [h1]
    have E : Hid (cmpI a1 b1 = c) := Lib.hid (by rw [← C.out, cmpI_hi _ _ _ _ ha ha' hb hb' h1])
    go_enter Tryz.func91, Tryz.ntmps91
    go_wp2_with (go_at_call 107; refine (compare_any _ _ _).mono ?_; rw [E.out]; rintro e w' ⟨rfl, rfl⟩)
    go_ret
    exact ⟨rfl, ((Below.refl _ _).alloc (Nat.le_refl _) _).alloc (by simp) _⟩
end Go.Proofs.YtmaioofcmgaakaaGreatDoor
