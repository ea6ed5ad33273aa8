/- Package wide: the closures that Add, Sub and Times hand to upward, and upward with each of them. -/
import Derived.Test.YtmaioofcmgaakaaGreatDoorHalves
namespace Go.Proofs.YtmaioofcmgaakaaGreatDoor
open Go.RowKit

set_option maxHeartbeats 400000 in
theorem addStep0 (a b c : Int) (pa pb : Nat) (w : World) (ha : w.cell? ⟨pa, 0, none⟩ = some (.int .u64 a)) (hb : w.cell? ⟨pb, 0, none⟩ = some (.int .u64 b))
    (h1 : 0 ≤ a) (h2 : 0 ≤ b) (h3 : 0 ≤ c) (h4 : c ≤ 1) :
    Calls Tryz.prog 95 #[.int .i64 0, .int .u64 c, .pointer (some ⟨pa, 0, none⟩), .pointer (some ⟨pb, 0, none⟩)] w fun e w' =>
      e = .returned (.tuple #[.int .u64 ((a + b + c) % 18446744073709551616), .int .u64 ((a + b + c) / 18446744073709551616)]) ∧ ∃ n, w' = w.drewN n := by
  have hadd := fun w => add64 a b c h1 h2 h3 h4 w
  go_enter Tryz.func95, Tryz.ntmps95
  go_wp2
  go_quiet (fail)
  go_wp2
  go_ret2
  exact ⟨rfl, _, rfl⟩

set_option maxHeartbeats 400000 in
theorem addStep1 (a b c : Int) (pa pb : Nat) (w : World) (ha : w.cell? ⟨pa, 1, none⟩ = some (.int .u64 a)) (hb : w.cell? ⟨pb, 1, none⟩ = some (.int .u64 b))
    (h1 : 0 ≤ a) (h2 : 0 ≤ b) (h3 : 0 ≤ c) (h4 : c ≤ 1) :
    Calls Tryz.prog 95 #[.int .i64 1, .int .u64 c, .pointer (some ⟨pa, 0, none⟩), .pointer (some ⟨pb, 0, none⟩)] w fun e w' =>
      e = .returned (.tuple #[.int .u64 ((a + b + c) % 18446744073709551616), .int .u64 ((a + b + c) / 18446744073709551616)]) ∧ ∃ n, w' = w.drewN n := by
  have hadd := fun w => add64 a b c h1 h2 h3 h4 w
  go_enter Tryz.func95, Tryz.ntmps95
  go_wp2
  go_quiet (fail)
  go_wp2
  go_ret2
  exact ⟨rfl, _, rfl⟩

end Go.Proofs.YtmaioofcmgaakaaGreatDoor
