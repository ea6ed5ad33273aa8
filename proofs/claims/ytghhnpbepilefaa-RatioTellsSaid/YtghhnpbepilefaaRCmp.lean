/- Package ratio: Cmp: how two fractions lie to each other. -/
import Derived.Test.YtghhnpbepilefaaRKit
import Derived.Deep.RegionHeld3
namespace Go.Proofs.Ytghhnpbepilefaa
open Go.RowKit
set_option linter.unusedVariables false

set_option maxHeartbeats 4000000 in
theorem rcmp_any (an ad bn bd : Int) (w : World) (a0 : 0 ≤ an) (a1 : an ≤ 4611686018427387904) (a2 : 0 ≤ ad) (a3 : ad ≤ 4611686018427387904) (b0 : 0 ≤ bn) (b1 : bn ≤ 4611686018427387904) (b2 : 0 ≤ bd) (b3 : bd ≤ 4611686018427387904) :
    Calls Try.prog 22 #[.agg #[.int .i64 an, .int .i64 ad], .agg #[.int .i64 bn, .int .i64 bd]] w fun e w' => e = .returned (.int .i64 (cmpI (an * bd) (bn * ad))) ∧ Below w.heap.size w w' := by
  have H := Held.start w
  obtain ⟨p, HP⟩ : ∃ p, Hid (an * bd = p) := ⟨_, Lib.hid rfl⟩
  obtain ⟨q, HQ⟩ : ∃ q, Hid (bn * ad = q) := ⟨_, Lib.hid rfl⟩
  rw [HP.out, HQ.out]
  have wan : IntKind.u64.wrap an = an := IntWalk.u64_in _ (by omega)
  have wad : IntKind.u64.wrap ad = ad := IntWalk.u64_in _ (by omega)
  have wbn : IntKind.u64.wrap bn = bn := IntWalk.u64_in _ (by omega)
  have wbd : IntKind.u64.wrap bd = bd := IntWalk.u64_in _ (by omega)
  go_enter Try.func22, Try.ntmps22
  go_wp2_with fail
  replace H := ((H.pair (w.heap.size) (.int .i64 an) (.int .i64 ad) 23 rfl).pair (w.heap.size + 1) (.int .i64 bn) (.int .i64 bd) 23 (by simp))
  have KS : Hid (∀ w' : World, Held w [.cell (w.heap.size + 1) 0 (.int .i64 bn), .cell (w.heap.size + 1) 1 (.int .i64 bd), .free (w.heap.size + 1) 0, .free (w.heap.size + 1) 1, .cell (w.heap.size) 0 (.int .i64 an), .cell (w.heap.size) 1 (.int .i64 ad), .free (w.heap.size) 0, .free (w.heap.size) 1] w' → w'.cell? ⟨w.heap.size, 0, none⟩ = some (.int .i64 an) ∧ w'.cell? ⟨w.heap.size, 1, none⟩ = some (.int .i64 ad) ∧ w'.cell? ⟨w.heap.size + 1, 0, none⟩ = some (.int .i64 bn) ∧ w'.cell? ⟨w.heap.size + 1, 1, none⟩ = some (.int .i64 bd) ∧ Held w [.cell (w.heap.size + 1) 0 (.int .i64 bn), .cell (w.heap.size + 1) 1 (.int .i64 bd), .free (w.heap.size + 1) 0, .free (w.heap.size + 1) 1, .cell (w.heap.size) 0 (.int .i64 an), .cell (w.heap.size) 1 (.int .i64 ad), .free (w.heap.size) 0, .free (w.heap.size) 1] w') := Lib.hid (fun _ h => ⟨h.cell (w.heap.size) 0 (.int .i64 an) (List.Mem.tail _ (List.Mem.tail _ (List.Mem.tail _ (List.Mem.tail _ (List.Mem.head _))))), h.cell (w.heap.size) 1 (.int .i64 ad) (List.Mem.tail _ (List.Mem.tail _ (List.Mem.tail _ (List.Mem.tail _ (List.Mem.tail _ (List.Mem.head _)))))), h.cell (w.heap.size + 1) 0 (.int .i64 bn) (List.Mem.head _), h.cell (w.heap.size + 1) 1 (.int .i64 bd) (List.Mem.tail _ (List.Mem.head _)), h⟩)
  have KH : Hid (∀ w' : World, w'.cell? ⟨w.heap.size, 0, none⟩ = some (.int .i64 an) ∧ w'.cell? ⟨w.heap.size, 1, none⟩ = some (.int .i64 ad) ∧ w'.cell? ⟨w.heap.size + 1, 0, none⟩ = some (.int .i64 bn) ∧ w'.cell? ⟨w.heap.size + 1, 1, none⟩ = some (.int .i64 bd) ∧ Held w [.cell (w.heap.size + 1) 0 (.int .i64 bn), .cell (w.heap.size + 1) 1 (.int .i64 bd), .free (w.heap.size + 1) 0, .free (w.heap.size + 1) 1, .cell (w.heap.size) 0 (.int .i64 an), .cell (w.heap.size) 1 (.int .i64 ad), .free (w.heap.size) 0, .free (w.heap.size) 1] w' → Held w [.cell (w.heap.size + 1) 0 (.int .i64 bn), .cell (w.heap.size + 1) 1 (.int .i64 bd), .free (w.heap.size + 1) 0, .free (w.heap.size + 1) 1, .cell (w.heap.size) 0 (.int .i64 an), .cell (w.heap.size) 1 (.int .i64 ad), .free (w.heap.size) 0, .free (w.heap.size) 1] w') := Lib.hid (fun _ h => h.2.2.2.2)
  have HS := Lib.hid (KS.out _ H.drew)
  go_region_held3 (fun w' => w'.cell? ⟨w.heap.size, 0, none⟩ = some (.int .i64 an) ∧ w'.cell? ⟨w.heap.size, 1, none⟩ = some (.int .i64 ad) ∧ w'.cell? ⟨w.heap.size + 1, 0, none⟩ = some (.int .i64 bn) ∧ w'.cell? ⟨w.heap.size + 1, 1, none⟩ = some (.int .i64 bd) ∧ Held w [.cell (w.heap.size + 1) 0 (.int .i64 bn), .cell (w.heap.size + 1) 1 (.int .i64 bd), .free (w.heap.size + 1) 0, .free (w.heap.size + 1) 1, .cell (w.heap.size) 0 (.int .i64 an), .cell (w.heap.size) 1 (.int .i64 ad), .free (w.heap.size) 0, .free (w.heap.size) 1] w')
    (first | exact HS.out | (refine KS.out _ (Held.below (KH.out _ ?_) hb); assumption))
    (first
      | (go_at_call 34; (with_reducible refine (mul_p an bd p _ (by omega) (by omega) (by omega) (by omega) HP.out).mono ?_); rintro e w' ⟨rfl, hb⟩)
      | (go_at_call 34; (with_reducible refine (mul_p bn ad q _ (by omega) (by omega) (by omega) (by omega) HQ.out).mono ?_); rintro e w' ⟨rfl, hb⟩)
      | (go_at_call 39; (with_reducible refine (cmp_hl p q _).mono ?_); rintro e w' ⟨rfl, hb⟩))
  all_goals
    go_wp2
    go_ret
    exact ⟨rfl, (KH.out _ (by assumption)).old⟩
end Go.Proofs.Ytghhnpbepilefaa
