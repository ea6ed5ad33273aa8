/- The reference of layer 4: numbers of days, days of numbers. -/
import Derived.Test.YtlhopmipcibgcaaDoorCRef
namespace Go.Proofs.YtlhopmipcibgcaaDoor
open Go.RowKit
set_option linter.unusedVariables false
set_option linter.unusedSimpArgs false

set_option maxHeartbeats 1000000 in
theorem rnumber_any (y m d : Int) (w : World) : Calls Tryd.prog 16 #[.agg #[.int .i64 y, .int .i64 m, .int .i64 d]] w fun e w' =>
    e = .returned (.tuple #[.int .i64 (nN y m d), .int .i64 (nE y m d)]) ∧ Below w.heap.size w w' := by
  have H := Held.start w
  by_cases hm : may y m d
  · obtain ⟨e1, e2⟩ := n_yes hm
    rw [e1, e2]
    have hb := (mb_iff y m d).2 hm
    have bd := nb_bd y m d hm
    have C1 := Lib.hid (fun v => rmay_any y m d v)
    rw [hb] at C1
    obtain ⟨m1, m2, m3, m4, m5, m6⟩ := hm
    have C2 := Lib.hid (fun v => rahead_any y v m1 (by omega))
    have C3 := Lib.hid (fun k v => rlength_any y k v)
    have u1 := ah_bd y m1 (by omega)
    have hn : nb y m d = ah y + am y m + d := rfl
    have HN := Lib.hid hn
    have d31 : d ≤ 31 := by have := ln_le y m; omega
    obtain ⟨a, HA⟩ : ∃ a, Hid (ah y = a) := ⟨_, Lib.hid rfl⟩
    rw [HA.out] at u1 C2 HN
    clear hn m6 bd
    go_enter Tryd.func16, Tryd.ntmps16
    replace H := H.triple w.heap.size (.int .i64 y) (.int .i64 m) (.int .i64 d) 35 rfl
    go_wp2_with fail
    (with_reducible refine (C1.out _).mono ?_)
    rintro e w1 ⟨rfl, hb1⟩
    replace H := H.below hb1
    clear hb1
    have HK := H.old
    have c0 := H.cell w.heap.size 0 (.int .i64 y) (List.Mem.head _)
    have c1 := H.cell w.heap.size 1 (.int .i64 m) (List.Mem.tail _ (List.Mem.head _))
    have c2 := H.cell w.heap.size 2 (.int .i64 d) (List.Mem.tail _ (List.Mem.tail _ (List.Mem.head _)))
    clear H
    go_wp2
    go_quiet ((go_at_call 31; with_reducible exact quietLeft (C2.out _)))
    go_wp2
    go_loop [5, 6] (fun n i => ∃ b : Int, 1 ≤ b ∧ b ≤ m ∧ i = .int .i64 b ∧ n = .int .i64 (a + d + am y b)) (fun _ i => (m - intOf i).toNat)
    case atStart => exact ⟨1, by omega, m3, rfl, by rw [am_one]; simp⟩
    case round =>
      obtain ⟨b, b1, b2, rfl, rfl⟩ := hrel
      by_cases hb : b < m
      · have st := Lib.hid (am_step y b b1 (by omega))
        have k1 := am_bd y b
        have k2 := ln_le y b
        obtain ⟨A, HB⟩ : ∃ A, Hid (am y b = A) := ⟨_, Lib.hid rfl⟩
        rw [HB.out] at k1 st ⊢
        go_wp2_with fail
        (with_reducible refine (C3.out _ _).mono ?_)
        rintro e w1 ⟨rfl, rfl⟩
        obtain ⟨l, HC⟩ : ∃ l, Hid (ln y b = l) := ⟨_, Lib.hid rfl⟩
        rw [HC.out] at k2 st ⊢
        go_wp2
        go_round
        case rel => exact ⟨b + 1, by omega, by omega, rfl, by rw [st.out]; simp only [Value.int.injEq, true_and]; omega⟩
        case measure => simp [intOf]; omega
      · have e : b = m := by omega
        subst e
        have e2 : a + d + am y b = nb y b d := by rw [HN.out]; omega
        rw [e2]
        go_wp2
        go_ret2
        exact ⟨rfl, belowDrewN HK _⟩
  · obtain ⟨e1, e2⟩ := n_no hm
    rw [e1, e2]
    have hb := (mb_not y m d).2 hm
    have C1 := Lib.hid (fun v => rmay_any y m d v)
    rw [hb] at C1
    clear hb hm
    go_enter Tryd.func16, Tryd.ntmps16
    replace H := H.triple w.heap.size (.int .i64 y) (.int .i64 m) (.int .i64 d) 35 rfl
    go_wp2_with fail
    (with_reducible refine (C1.out _).mono ?_)
    rintro e w1 ⟨rfl, hb1⟩
    replace H := H.below hb1
    clear hb1
    have HK := H.old
    clear H
    go_wp2
    go_ret2
    exact ⟨rfl, HK⟩

end Go.Proofs.YtlhopmipcibgcaaDoor
