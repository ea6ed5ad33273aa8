/- The reference of layer 12: is a day one of three years'? -/
import Derived.Test.YtkbhicdcjfpbaaaDoorRuRefC
namespace Go.Proofs.YtkbhicdcjfpbaaaDoor
open Go.RowKit
set_option linter.unusedVariables false
set_option linter.unusedSimpArgs false

theorem ru_is_bd {r : Ru} {n : Int} (h : r.Is n) : 1 ≤ n ∧ n ≤ 3652059 := by
  obtain ⟨h0, y, hy⟩ := h
  have := inn_bd (r := r) y
  omega

set_option maxHeartbeats 1000000 in
theorem ruis_out (k m d q o s f t n : Int) (w : World) (h : n < 1 ∨ 3652059 < n) : Calls Tryd.prog 35 #[.agg #[.int .i64 k, .int .i64 m, .int .i64 d, .int .i64 q, .int .i64 o, .int .i64 s, .int .i64 f, .int .i64 t], .int .i64 n] w fun e w' => e = .returned (.bool false) ∧ Below w.heap.size w w' := by
  have H := Held.start w
  have C := Lib.hid (fun v => rof_any n 0 0 0 3 v (Or.inr ⟨h, rfl, rfl, rfl, rfl⟩))
  clear h
  go_enter Tryd.func35, Tryd.ntmps35
  replace H := H.oct (w.heap.size) (.int .i64 k) (.int .i64 m) (.int .i64 d) (.int .i64 q) (.int .i64 o) (.int .i64 s) (.int .i64 f) (.int .i64 t) 57 rfl
  go_wp2_with fail
  (with_reducible refine (C.out _).mono ?_)
  rintro e w1 ⟨rfl, hb1⟩
  replace H := H.below hb1
  clear hb1
  go_wp2_with fail
  replace H := (H.triple (w1.heap.size) (.int .i64 0) (.int .i64 0) (.int .i64 0) 46 rfl)
  go_ret
  exact ⟨rfl, H.old⟩

set_option maxHeartbeats 4000000 in
theorem ruis_in (k m d q o s f t n Y M D : Int) (b : Bool) (w : World) (hM : Ru.May ⟨k, m, d, q, o, s, f, t⟩) (hd : may Y M D) (hN : nb Y M D = n) (h0 : 0 < n) (hb : b = true ↔ Ru.Is ⟨k, m, d, q, o, s, f, t⟩ n) : Calls Tryd.prog 35 #[.agg #[.int .i64 k, .int .i64 m, .int .i64 d, .int .i64 q, .int .i64 o, .int .i64 s, .int .i64 f, .int .i64 t], .int .i64 n] w fun e w' => e = .returned (.bool b) ∧ Below w.heap.size w w' := by
  have H := Held.start w
  have C := Lib.hid (fun v => rof_any n Y M D 0 v (Or.inl ⟨hd, hN, rfl⟩))
  have C2 := Lib.hid (fun y x c v h1 h2 => ruin_any k m d q o s f t y x c v hM h1 h2)
  have NR := Lib.hid (fun y (h : Ru.inn ⟨k, m, d, q, o, s, f, t⟩ y = n) => is_near hM h0 h hd hN)
  have HB := Lib.hid hb
  have hy : 1 ≤ Y ∧ Y ≤ 9999 := ⟨hd.1, hd.2.1⟩
  clear hb hd hN
  go_enter Tryd.func35, Tryd.ntmps35
  replace H := H.oct (w.heap.size) (.int .i64 k) (.int .i64 m) (.int .i64 d) (.int .i64 q) (.int .i64 o) (.int .i64 s) (.int .i64 f) (.int .i64 t) 57 rfl
  go_wp2_with fail
  (with_reducible refine (C.out _).mono ?_)
  rintro e w1 ⟨rfl, hb1⟩
  replace H := H.below hb1
  clear hb1
  go_wp2_with fail
  replace H := (H.triple (w1.heap.size) (.int .i64 Y) (.int .i64 M) (.int .i64 D) 46 rfl)
  go_loopw [7] (fun y W' => ∃ i : Int, y = .int .i64 i ∧ Y - 1 ≤ i ∧ i ≤ Y + 2 ∧ (∀ z, Y - 1 ≤ z → z < i → Ru.inn ⟨k, m, d, q, o, s, f, t⟩ z ≠ n) ∧ Held w (.cell (w1.heap.size) 0 (.int .i64 Y) :: .cell (w1.heap.size) 1 (.int .i64 M) :: .cell (w1.heap.size) 2 (.int .i64 D) :: .free (w1.heap.size) 0 :: .free (w1.heap.size) 1 :: .free (w1.heap.size) 2 :: .cell (w.heap.size) 0 (.int .i64 k) :: .cell (w.heap.size) 1 (.int .i64 m) :: .cell (w.heap.size) 2 (.int .i64 d) :: .cell (w.heap.size) 3 (.int .i64 q) :: .cell (w.heap.size) 4 (.int .i64 o) :: .cell (w.heap.size) 5 (.int .i64 s) :: .cell (w.heap.size) 6 (.int .i64 f) :: .cell (w.heap.size) 7 (.int .i64 t) :: .free (w.heap.size) 0 :: .free (w.heap.size) 1 :: .free (w.heap.size) 2 :: .free (w.heap.size) 3 :: .free (w.heap.size) 4 :: .free (w.heap.size) 5 :: .free (w.heap.size) 6 :: .free (w.heap.size) 7 :: []) W') (fun y _ => (Y + 2 - intOf y).toNat)
  case atStart => exact ⟨Y - 1, rfl, by omega, by omega, fun z a b => by omega, H⟩
  case round =>
    clear H
    obtain ⟨i, rfl, i1, i2, hz, H⟩ := hrel
    have ll := H.lt (w1.heap.size) 0 (.int .i64 Y) (List.Mem.head _)
    have kk := H.cell (w1.heap.size) 0 (.int .i64 Y) (List.Mem.head _)
    have c0 := H.cell (w.heap.size) 0 (.int .i64 k) (List.Mem.tail _ (List.Mem.tail _ (List.Mem.tail _ (List.Mem.tail _ (List.Mem.tail _ (List.Mem.tail _ (List.Mem.head _)))))))
    have c1 := H.cell (w.heap.size) 1 (.int .i64 m) (List.Mem.tail _ (List.Mem.tail _ (List.Mem.tail _ (List.Mem.tail _ (List.Mem.tail _ (List.Mem.tail _ (List.Mem.tail _ (List.Mem.head _))))))))
    have c2 := H.cell (w.heap.size) 2 (.int .i64 d) (List.Mem.tail _ (List.Mem.tail _ (List.Mem.tail _ (List.Mem.tail _ (List.Mem.tail _ (List.Mem.tail _ (List.Mem.tail _ (List.Mem.tail _ (List.Mem.head _)))))))))
    have c3 := H.cell (w.heap.size) 3 (.int .i64 q) (List.Mem.tail _ (List.Mem.tail _ (List.Mem.tail _ (List.Mem.tail _ (List.Mem.tail _ (List.Mem.tail _ (List.Mem.tail _ (List.Mem.tail _ (List.Mem.tail _ (List.Mem.head _))))))))))
    have c4 := H.cell (w.heap.size) 4 (.int .i64 o) (List.Mem.tail _ (List.Mem.tail _ (List.Mem.tail _ (List.Mem.tail _ (List.Mem.tail _ (List.Mem.tail _ (List.Mem.tail _ (List.Mem.tail _ (List.Mem.tail _ (List.Mem.tail _ (List.Mem.head _)))))))))))
    have c5 := H.cell (w.heap.size) 5 (.int .i64 s) (List.Mem.tail _ (List.Mem.tail _ (List.Mem.tail _ (List.Mem.tail _ (List.Mem.tail _ (List.Mem.tail _ (List.Mem.tail _ (List.Mem.tail _ (List.Mem.tail _ (List.Mem.tail _ (List.Mem.tail _ (List.Mem.head _))))))))))))
    have c6 := H.cell (w.heap.size) 6 (.int .i64 f) (List.Mem.tail _ (List.Mem.tail _ (List.Mem.tail _ (List.Mem.tail _ (List.Mem.tail _ (List.Mem.tail _ (List.Mem.tail _ (List.Mem.tail _ (List.Mem.tail _ (List.Mem.tail _ (List.Mem.tail _ (List.Mem.tail _ (List.Mem.head _)))))))))))))
    have c7 := H.cell (w.heap.size) 7 (.int .i64 t) (List.Mem.tail _ (List.Mem.tail _ (List.Mem.tail _ (List.Mem.tail _ (List.Mem.tail _ (List.Mem.tail _ (List.Mem.tail _ (List.Mem.tail _ (List.Mem.tail _ (List.Mem.tail _ (List.Mem.tail _ (List.Mem.tail _ (List.Mem.tail _ (List.Mem.head _))))))))))))))
    have HZ := Lib.hid hz
    clear hz
    by_cases hi : i ≤ Y + 1
    · obtain ⟨x, HX⟩ : ∃ x, Hid (Ru.inn ⟨k, m, d, q, o, s, f, t⟩ i = x) := ⟨_, Lib.hid rfl⟩
      obtain ⟨c, HC⟩ : ∃ c, Hid (decide (0 < x) = c) := ⟨_, Lib.hid rfl⟩
      go_wp2_with fail
      (with_reducible refine (C2.out i x c _ HX.out HC.out).mono ?_)
      rintro e w3 ⟨rfl, hb1⟩
      clear kk c0 c1 c2 c3 c4 c5 c6 c7 ll
      replace H := H.below hb1
      clear hb1
      have kk := H.cell (w1.heap.size) 0 (.int .i64 Y) (List.Mem.head _)
      have c0 := H.cell (w.heap.size) 0 (.int .i64 k) (List.Mem.tail _ (List.Mem.tail _ (List.Mem.tail _ (List.Mem.tail _ (List.Mem.tail _ (List.Mem.tail _ (List.Mem.head _)))))))
      have c1 := H.cell (w.heap.size) 1 (.int .i64 m) (List.Mem.tail _ (List.Mem.tail _ (List.Mem.tail _ (List.Mem.tail _ (List.Mem.tail _ (List.Mem.tail _ (List.Mem.tail _ (List.Mem.head _))))))))
      have c2 := H.cell (w.heap.size) 2 (.int .i64 d) (List.Mem.tail _ (List.Mem.tail _ (List.Mem.tail _ (List.Mem.tail _ (List.Mem.tail _ (List.Mem.tail _ (List.Mem.tail _ (List.Mem.tail _ (List.Mem.head _)))))))))
      have c3 := H.cell (w.heap.size) 3 (.int .i64 q) (List.Mem.tail _ (List.Mem.tail _ (List.Mem.tail _ (List.Mem.tail _ (List.Mem.tail _ (List.Mem.tail _ (List.Mem.tail _ (List.Mem.tail _ (List.Mem.tail _ (List.Mem.head _))))))))))
      have c4 := H.cell (w.heap.size) 4 (.int .i64 o) (List.Mem.tail _ (List.Mem.tail _ (List.Mem.tail _ (List.Mem.tail _ (List.Mem.tail _ (List.Mem.tail _ (List.Mem.tail _ (List.Mem.tail _ (List.Mem.tail _ (List.Mem.tail _ (List.Mem.head _)))))))))))
      have c5 := H.cell (w.heap.size) 5 (.int .i64 s) (List.Mem.tail _ (List.Mem.tail _ (List.Mem.tail _ (List.Mem.tail _ (List.Mem.tail _ (List.Mem.tail _ (List.Mem.tail _ (List.Mem.tail _ (List.Mem.tail _ (List.Mem.tail _ (List.Mem.tail _ (List.Mem.head _))))))))))))
      have c6 := H.cell (w.heap.size) 6 (.int .i64 f) (List.Mem.tail _ (List.Mem.tail _ (List.Mem.tail _ (List.Mem.tail _ (List.Mem.tail _ (List.Mem.tail _ (List.Mem.tail _ (List.Mem.tail _ (List.Mem.tail _ (List.Mem.tail _ (List.Mem.tail _ (List.Mem.tail _ (List.Mem.head _)))))))))))))
      have c7 := H.cell (w.heap.size) 7 (.int .i64 t) (List.Mem.tail _ (List.Mem.tail _ (List.Mem.tail _ (List.Mem.tail _ (List.Mem.tail _ (List.Mem.tail _ (List.Mem.tail _ (List.Mem.tail _ (List.Mem.tail _ (List.Mem.tail _ (List.Mem.tail _ (List.Mem.tail _ (List.Mem.tail _ (List.Mem.head _))))))))))))))
      by_cases hx : x = n
      · subst hx
        have e1 : b = true := HB.out.2 ⟨h0, i, HX.out⟩
        have e2 : c = true := by rw [← HC.out]; exact decide_eq_true h0
        subst e1
        subst e2
        go_wp2
        go_ret
        exact ⟨rfl, H.old⟩
      · have hx2 : (x == n) = false := by simpa using hx
        have HY := Lib.hid hx
        clear hx
        cases c
        · go_wp2
          go_roundw
          case rel => exact ⟨i + 1, rfl, by omega, by omega, fun z a b => by
            by_cases g : z = i
            · subst g; rw [HX.out]; exact HY.out
            · exact HZ.out z a (by omega), H⟩
          case measure => simp [intOf]; omega
        · go_wp2
          go_roundw
          case rel => exact ⟨i + 1, rfl, by omega, by omega, fun z a b => by
            by_cases g : z = i
            · subst g; rw [HX.out]; exact HY.out
            · exact HZ.out z a (by omega), H⟩
          case measure => simp [intOf]; omega
    · have e1 : b = false := by
        cases hbb : b with
        | false => rfl
        | true =>
          exfalso
          obtain ⟨-, z, hz⟩ := HB.out.1 hbb
          have := NR.out z hz
          exact HZ.out z (by omega) (by omega) hz
      subst e1
      go_wp2
      go_ret
      exact ⟨rfl, H.old⟩

theorem ruis_any (k m d q o s f t n : Int) (b : Bool) (w : World) (hM : Ru.May ⟨k, m, d, q, o, s, f, t⟩) (hb : b = true ↔ Ru.Is ⟨k, m, d, q, o, s, f, t⟩ n) : Calls Tryd.prog 35 #[.agg #[.int .i64 k, .int .i64 m, .int .i64 d, .int .i64 q, .int .i64 o, .int .i64 s, .int .i64 f, .int .i64 t], .int .i64 n] w fun e w' => e = .returned (.bool b) ∧ Below w.heap.size w w' := by
  by_cases h : 1 ≤ n ∧ n ≤ 3652059
  · obtain ⟨Y, M, D, h1, h2⟩ := day_of n h.1 h.2
    exact ruis_in _ _ _ _ _ _ _ _ _ _ _ _ _ w hM h1 h2 (by omega) hb
  · have e : b = false := by
      cases hbb : b with
      | false => rfl
      | true => exact absurd (ru_is_bd (hb.1 hbb)) h
    subst e
    exact ruis_out _ _ _ _ _ _ _ _ _ w (by omega)
end Go.Proofs.YtkbhicdcjfpbaaaDoor
