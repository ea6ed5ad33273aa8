/- Package wide: the closures that Add, Sub and Times hand to upward, and upward with each of them. -/
import Derived.Test.YtcpifgoglcoeeaaHalves
namespace Go.Proofs.Ytcpifgoglcoeeaa
open Go.RowKit

set_option maxHeartbeats 400000 in
theorem addStep0 (a b c : Int) (pa pb : Nat) (w : World) (ha : w.cell? ⟨pa, 0, none⟩ = some (.int .u64 a)) (hb : w.cell? ⟨pb, 0, none⟩ = some (.int .u64 b))
    (h1 : 0 ≤ a) (h2 : 0 ≤ b) (h3 : 0 ≤ c) (h4 : c ≤ 1) :
    Calls Try.prog 33 #[.int .i64 0, .int .u64 c, .pointer (some ⟨pa, 0, none⟩), .pointer (some ⟨pb, 0, none⟩)] w fun e w' =>
      e = .returned (.tuple #[.int .u64 ((a + b + c) % 18446744073709551616), .int .u64 ((a + b + c) / 18446744073709551616)]) ∧ ∃ n, w' = w.drewN n := by
  have hadd := fun w => add64 a b c h1 h2 h3 h4 w
  go_enter Try.func33, Try.ntmps33
  go_wp2
  go_quiet (fail)
  go_wp2
  go_ret2
  exact ⟨rfl, _, rfl⟩

set_option maxHeartbeats 400000 in
theorem subStep0 (a b c : Int) (pa pb : Nat) (w : World) (ha : w.cell? ⟨pa, 0, none⟩ = some (.int .u64 a)) (hb : w.cell? ⟨pb, 0, none⟩ = some (.int .u64 b))
    (h1 : 0 ≤ a) (h2 : 0 ≤ b) (h5 : b < 18446744073709551616) (h3 : 0 ≤ c) (h4 : c ≤ 1) :
    Calls Try.prog 34 #[.int .i64 0, .int .u64 c, .pointer (some ⟨pa, 0, none⟩), .pointer (some ⟨pb, 0, none⟩)] w fun e w' =>
      e = .returned (.tuple #[.int .u64 ((a - b - c) % 18446744073709551616), .int .u64 (if a < b + c then 1 else 0)]) ∧ ∃ n, w' = w.drewN n := by
  have hadd := fun w => sub64 a b c h1 h2 h5 h3 h4 w
  generalize (if a < b + c then (1 : Int) else 0) = q at *
  go_enter Try.func34, Try.ntmps34
  go_wp2
  go_quiet (fail)
  go_wp2
  go_ret2
  exact ⟨rfl, _, rfl⟩

set_option maxHeartbeats 400000 in
theorem timesStep0 (a n c : Int) (pa pn : Nat) (w : World) (ha : w.cell? ⟨pa, 0, none⟩ = some (.int .u64 a)) (hn : w.cell? ⟨pn, 0, none⟩ = some (.int .u64 n))
    (h1 : 0 ≤ a) (h5 : a < 18446744073709551616) (h2 : 0 ≤ n) (h6 : n < 18446744073709551616) (h3 : 0 ≤ c) (h4 : c < 18446744073709551616) :
    Calls Try.prog 30 #[.int .i64 0, .int .u64 c, .pointer (some ⟨pa, 0, none⟩), .pointer (some ⟨pn, 0, none⟩)] w fun e w' =>
      e = .returned (.tuple #[.int .u64 ((a * n + c) % 18446744073709551616), .int .u64 ((a * n + c) / 18446744073709551616)]) ∧ ∃ m, w' = w.drewN m := by
  have hp : 0 ≤ a * n := Int.mul_nonneg h1 h2
  have hle : a * n ≤ 18446744073709551615 * 18446744073709551615 := Int.mul_le_mul (by omega) (by omega) h2 (by omega)
  have c31 := fun w => mul64 a n h1 h5 h2 h6 w
  have hadd := fun w => add64 (a * n % 18446744073709551616) c 0 (by omega) h3 (by omega) (by omega) w
  have fin : IntKind.u64.wrap (a * n / 18446744073709551616 + (a * n % 18446744073709551616 + c) / 18446744073709551616) = (a * n + c) / 18446744073709551616 := by
    rw [IntKind.wrap_u64]
    generalize a * n = p at *
    omega
  have Fin := Lib.hid fin
  have C31 := Lib.hid c31
  clear fin c31 hle hp
  generalize a * n = p at *
  go_enter Try.func30, Try.ntmps30
  go_wp2
  go_quiet ((go_at_call 31; exact quietLeft (C31.out _)))
  go_wp2
  go_ret2
  refine ⟨?_, _, rfl⟩
  rw [Fin.out]
  rfl

set_option maxHeartbeats 400000 in
theorem addStep1 (a b c : Int) (pa pb : Nat) (w : World) (ha : w.cell? ⟨pa, 1, none⟩ = some (.int .u64 a)) (hb : w.cell? ⟨pb, 1, none⟩ = some (.int .u64 b))
    (h1 : 0 ≤ a) (h2 : 0 ≤ b) (h3 : 0 ≤ c) (h4 : c ≤ 1) :
    Calls Try.prog 33 #[.int .i64 1, .int .u64 c, .pointer (some ⟨pa, 0, none⟩), .pointer (some ⟨pb, 0, none⟩)] w fun e w' =>
      e = .returned (.tuple #[.int .u64 ((a + b + c) % 18446744073709551616), .int .u64 ((a + b + c) / 18446744073709551616)]) ∧ ∃ n, w' = w.drewN n := by
  have hadd := fun w => add64 a b c h1 h2 h3 h4 w
  go_enter Try.func33, Try.ntmps33
  go_wp2
  go_quiet (fail)
  go_wp2
  go_ret2
  exact ⟨rfl, _, rfl⟩

set_option maxHeartbeats 400000 in
theorem subStep1 (a b c : Int) (pa pb : Nat) (w : World) (ha : w.cell? ⟨pa, 1, none⟩ = some (.int .u64 a)) (hb : w.cell? ⟨pb, 1, none⟩ = some (.int .u64 b))
    (h1 : 0 ≤ a) (h2 : 0 ≤ b) (h5 : b < 18446744073709551616) (h3 : 0 ≤ c) (h4 : c ≤ 1) :
    Calls Try.prog 34 #[.int .i64 1, .int .u64 c, .pointer (some ⟨pa, 0, none⟩), .pointer (some ⟨pb, 0, none⟩)] w fun e w' =>
      e = .returned (.tuple #[.int .u64 ((a - b - c) % 18446744073709551616), .int .u64 (if a < b + c then 1 else 0)]) ∧ ∃ n, w' = w.drewN n := by
  have hadd := fun w => sub64 a b c h1 h2 h5 h3 h4 w
  generalize (if a < b + c then (1 : Int) else 0) = q at *
  go_enter Try.func34, Try.ntmps34
  go_wp2
  go_quiet (fail)
  go_wp2
  go_ret2
  exact ⟨rfl, _, rfl⟩

set_option maxHeartbeats 400000 in
theorem timesStep1 (a n c : Int) (pa pn : Nat) (w : World) (ha : w.cell? ⟨pa, 1, none⟩ = some (.int .u64 a)) (hn : w.cell? ⟨pn, 0, none⟩ = some (.int .u64 n))
    (h1 : 0 ≤ a) (h5 : a < 18446744073709551616) (h2 : 0 ≤ n) (h6 : n < 18446744073709551616) (h3 : 0 ≤ c) (h4 : c < 18446744073709551616) :
    Calls Try.prog 30 #[.int .i64 1, .int .u64 c, .pointer (some ⟨pa, 0, none⟩), .pointer (some ⟨pn, 0, none⟩)] w fun e w' =>
      e = .returned (.tuple #[.int .u64 ((a * n + c) % 18446744073709551616), .int .u64 ((a * n + c) / 18446744073709551616)]) ∧ ∃ m, w' = w.drewN m := by
  have hp : 0 ≤ a * n := Int.mul_nonneg h1 h2
  have hle : a * n ≤ 18446744073709551615 * 18446744073709551615 := Int.mul_le_mul (by omega) (by omega) h2 (by omega)
  have c31 := fun w => mul64 a n h1 h5 h2 h6 w
  have hadd := fun w => add64 (a * n % 18446744073709551616) c 0 (by omega) h3 (by omega) (by omega) w
  have fin : IntKind.u64.wrap (a * n / 18446744073709551616 + (a * n % 18446744073709551616 + c) / 18446744073709551616) = (a * n + c) / 18446744073709551616 := by
    rw [IntKind.wrap_u64]
    generalize a * n = p at *
    omega
  have Fin := Lib.hid fin
  have C31 := Lib.hid c31
  clear fin c31 hle hp
  generalize a * n = p at *
  go_enter Try.func30, Try.ntmps30
  go_wp2
  go_quiet ((go_at_call 31; exact quietLeft (C31.out _)))
  go_wp2
  go_ret2
  refine ⟨?_, _, rfl⟩
  rw [Fin.out]
  rfl
end Go.Proofs.Ytcpifgoglcoeeaa
