/- The library's IsSorted, at ints; which numbers are days, by the project. -/
import Derived.Test.YtcplfgmajbadmaaDoorIcMayR
import Derived.Test.YtcplfgmajbadmaaDoorIcCode
import Derived.Test.YtcplfgmajbadmaaDoorCivilB
namespace Go.Proofs.YtcplfgmajbadmaaDoor
open Go.RowKit
set_option linter.unusedVariables false
set_option linter.unusedSimpArgs false

theorem nan_any (x : Int) (w : World) : Calls Tryd.prog 78 #[.int .i64 x] w fun e w' => e = .returned (.bool false) ∧ w' = w := by
  go_enter Tryd.func78, Tryd.ntmps78
  go_wp2
  go_ret
  exact ⟨by simp, rfl⟩
theorem less_any (x y : Int) (w : World) : Calls Tryd.prog 68 #[.int .i64 x, .int .i64 y] w fun e w' => e = .returned (.bool (decide (x < y))) ∧ w' = w := by
  have N := Lib.hid (fun z v => nan_any z v)
  go_enter Tryd.func68, Tryd.ntmps68
  go_wp2_with fail
  (with_reducible refine (N.out _ _).mono ?_)
  rintro e w1 ⟨rfl, rfl⟩
  go_wp2_with fail
  go_ret
  exact ⟨rfl, rfl⟩

set_option maxHeartbeats 4000000 in
set_option maxRecDepth 100000 in
theorem sorted_any (b off m cap : Nat) (X : Nat → Int) (c : Bool) (w : World) (hm : m < 2000) (hC : Cells w b off X (m + 1)) (hc : c = true ↔ ∀ i, i + 1 < m + 1 → X i ≤ X (i + 1)) :
    Calls Tryd.prog 41 #[.slice (some ⟨b, off, none⟩) (m + 1) cap] w fun e w' => e = .returned (.bool c) ∧ Below w.heap.size w w' := by
  have HC := Lib.hid hC
  have HR := Lib.hid hc
  have LS := Lib.hid (fun x y v => less_any x y v)
  clear hC hc
  go_enter Tryd.func41, Tryd.ntmps41
  go_wp2_with fail
  go_loopw [3] (fun i wr => ∃ k : Nat, k ≤ m ∧ i = .int .i64 k ∧ (∀ i, k ≤ i → i + 1 < m + 1 → X i ≤ X (i + 1)) ∧ Below w.heap.size w wr) (fun i _ => (intOf i).toNat)
  case atStart => exact ⟨m, by omega, rfl, fun i h1 h2 => by omega, Below.refl _ _⟩
  case round =>
    obtain ⟨k, hk, rfl, hR, hB⟩ := hrel
    have KR := Lib.hid hR
    have KB := Lib.hid hB
    have KC := Lib.hid (HC.out.kept hB)
    clear hR hB
    match k, hk, KR with
    | 0, hk, KR =>
      have CT : c = true := HR.out.2 (fun i h => KR.out i (by omega) h)
      go_wp2_with fail
      go_ret
      exact ⟨by rw [CT]; rfl, KB.out⟩
    | j + 1, hk, KR =>
      have cj := KC.out j (by omega)
      have ck := KC.out (j + 1) (by omega)
      by_cases hl : X (j + 1) < X j
      · have t1 : decide (X (j + 1) < X j) = true := by simpa using hl
        have CT : c = false := by
          cases c
          · rfl
          · exact absurd (HR.out.1 rfl j (by omega)) (by omega)
        go_wp2_with fail
        go_quiet (first | (go_at_call 68; with_reducible refine Calls.quiet_of_same (LS.out _ _ _)))
        go_wp2
        go_ret
        exact ⟨by rw [CT]; rfl, belowDrewN KB.out _⟩
      · have t1 : decide (X (j + 1) < X j) = false := by simpa using hl
        go_wp2_with fail
        go_quiet (first | (go_at_call 68; with_reducible refine Calls.quiet_of_same (LS.out _ _ _)))
        go_wp2
        go_roundw
        case rel =>
          refine ⟨j, by omega, by go_num, fun i h1 h2 => ?_, belowDrewN KB.out _⟩
          by_cases e : i = j
          · subst e; omega
          · exact KR.out i (by omega) h2
        case measure => simp [intOf]

theorem isday_is (n : Int) (b : Bool) (w : World) (hL : Lens w) (h : decide (1 ≤ n ∧ n ≤ 3652059) = b) : Calls Tryd.prog 31 #[.int .i64 n] w fun e w' => e = .returned (.bool b) ∧ Below w.heap.size w w' := by
  have H := (Held.start w).add (f := lensF) hL
  clear hL
  obtain ⟨y, m, d, e, hd⟩ := day_is n
  have D := Lib.hid (fun v hv => civ_any n y m d e v hv hd)
  have E : Hid ((e == 0) = b) := Lib.hid (by
    rcases hd with ⟨h1, h2, rfl⟩ | ⟨h1, _, _, _, rfl⟩
    · have := nb_bd _ _ _ h1
      rw [← h]
      symm
      simp
      omega
    · rw [← h]
      symm
      simp
      omega)
  clear hd h
  go_enter Tryd.func31, Tryd.ntmps31
  go_wp2_with fail
  (with_reducible refine (D.out _ (H.lens (List.Mem.head _))).mono ?_)
  rintro e' w1 ⟨rfl, hb⟩
  replace H := H.below hb
  clear hb
  go_wp2_with fail
  replace H := H.triple w1.heap.size (.int .i64 y) (.int .i64 m) (.int .i64 d) 72 rfl
  go_ret
  exact ⟨by rw [E.out]; rfl, H.old⟩
end Go.Proofs.YtcplfgmajbadmaaDoor
