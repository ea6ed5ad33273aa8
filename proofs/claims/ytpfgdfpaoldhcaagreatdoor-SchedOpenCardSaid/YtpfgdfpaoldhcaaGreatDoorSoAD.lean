/- Several texts in one: CRefB, CShown. -/
import Derived.Test.YtpfgdfpaoldhcaaGreatDoorSoAC
set_option maxHeartbeats 8000000
set_option maxRecDepth 100000
set_option linter.unusedVariables false
set_option linter.unusedSimpArgs false
namespace Go.Proofs.YtpfgdfpaoldhcaaGreatDoor
open Go.RowKit
theorem zK9 (y m d : Int) (w : World) : Calls Tryz.prog 51 #[.agg #[.int .i64 y, .int .i64 m, .int .i64 d]] w fun e w' =>
  e = .returned (.tuple #[.int .i64 (nN y m d), .int .i64 (nE y m d)]) ∧ Below w.heap.size w w' := by
 have H := Held.start w
 by_cases hm : may y m d
 ·obtain ⟨e1, e2⟩ := zFu hm
  rw [e1, e2]
  have hb := (zEh y m d).2 hm
  have bd := zC8 y m d hm
  have C1 := Lib.hid (fun v => zLo y m d v)
  rw [hb] at C1
  obtain ⟨m1, m2, m3, m4, m5, m6⟩ := hm
  have C2 := Lib.hid (fun v => zMw y v m1 (by omega))
  have C3 := Lib.hid (fun k v => zDf y k v)
  have u1 := zIs y m1 (by omega)
  have hn : nb y m d = ah y + am y m + d := rfl
  have HN := Lib.hid hn
  have d31 : d ≤ 31 := by have := zC0 y m; omega
  obtain ⟨a, HA⟩ : ∃ a, Hid (ah y = a) := ⟨_, Lib.hid rfl⟩
  rw [HA.out] at u1 C2 HN
  clear hn m6 bd
  go_enter Tryz.func51, Tryz.ntmps51
  replace H := H.triple w.heap.size (.int .i64 y) (.int .i64 m) (.int .i64 d) 86 rfl
  go_wp2_with fail
  (with_reducible refine (C1.out _).mono ?_)
  rintro e w1 ⟨rfl, hb1⟩
  replace H := H.below hb1
  clear hb1
  have HK := H.old
  have c0 := H.cell w.heap.size 0 (.int .i64 y) i0_
  have c1 := H.cell w.heap.size 1 (.int .i64 m) i1_
  have c2 := H.cell w.heap.size 2 (.int .i64 d) i2_
  clear H
  go_wp2
  go_quiet ((go_at_call 74; with_reducible exact zAu (C2.out _)))
  go_wp2
  go_loop [5, 6] (fun n i => ∃ b : Int, 1 ≤ b ∧ b ≤ m ∧ i = .int .i64 b ∧ n = .int .i64 (a + d + am y b)) (fun _ i => (m - intOf i).toNat)
  case atStart => exact ⟨1, by omega, m3, rfl, by rw [zFz]; simp⟩
  case round =>
   obtain ⟨b, b1, b2, rfl, rfl⟩ := hrel
   by_cases hb : b < m
   ·have st := Lib.hid (zE0 y b b1 (by omega))
    have k1 := zIt y b
    have k2 := zC0 y b
    obtain ⟨A, HB⟩ : ∃ A, Hid (am y b = A) := ⟨_, Lib.hid rfl⟩
    rw [HB.out] at k1 st ⊢
    go_wp2_with fail
    (with_reducible refine (C3.out _ _).mono ?_)
    rintro e w1 ⟨rfl, rfl⟩
    obtain ⟨l, HC⟩ : ∃ l, Hid (ln y b = l) := ⟨_, Lib.hid rfl⟩
    rw [HC.out] at k2 st ⊢
    go_wp2
    go_round
    case rel => exact ⟨b + 1, by omega, by omega, rfl, by rw [st.out]; simp only [Value.int.injEq, true_and]; omega⟩
    case measure => simp [intOf]; omega
   ·have e : b = m := by omega
    subst e
    have e2 : a + d + am y b = nb y b d := by rw [HN.out]; omega
    rw [e2]
    go_wp2
    go_ret2
    exact ⟨rfl, zAa HK _⟩
 ·obtain ⟨e1, e2⟩ := n_no hm
  rw [e1, e2]
  have hb := (zLf y m d).2 hm
  have C1 := Lib.hid (fun v => zLo y m d v)
  rw [hb] at C1
  clear hb hm
  go_enter Tryz.func51, Tryz.ntmps51
  replace H := H.triple w.heap.size (.int .i64 y) (.int .i64 m) (.int .i64 d) 86 rfl
  go_wp2_with fail
  (with_reducible refine (C1.out _).mono ?_)
  rintro e w1 ⟨rfl, hb1⟩
  replace H := H.below hb1
  clear hb1
  have HK := H.old
  clear H
  go_wp2
  go_ret2
  exact ⟨rfl, HK⟩
theorem zPb (y m l : Int) (w : World) (hL : Lens w) (h : ln y m = l) : Calls Tryz.prog 167 #[.int .i64 y, .int .i64 m] w fun e w' => e = .returned (.int .i64 l) ∧ Below w.heap.size w w' := by
 subst h; exact Calls.same (zBa y m w hL)
theorem zBp (y m d n c : Int) (w : World) (hL : Lens w) (h : nN y m d = n ∧ nE y m d = c) : Calls Tryz.prog 145 #[.agg #[.int .i64 y, .int .i64 m, .int .i64 d]] w fun e w' => e = .returned (.tuple #[.int .i64 n, .int .i64 c]) ∧ Below w.heap.size w w' := by
 obtain ⟨rfl, rfl⟩ := h; exact zG9 y m d w hL
theorem zN4 (y m d n c : Int) (w : World) (h : nN y m d = n ∧ nE y m d = c) : Calls Tryz.prog 51 #[.agg #[.int .i64 y, .int .i64 m, .int .i64 d]] w fun e w' => e = .returned (.tuple #[.int .i64 n, .int .i64 c]) ∧ Below w.heap.size w w' := by
 obtain ⟨rfl, rfl⟩ := h; exact zK9 y m d w
end Go.Proofs.YtpfgdfpaoldhcaaGreatDoor
