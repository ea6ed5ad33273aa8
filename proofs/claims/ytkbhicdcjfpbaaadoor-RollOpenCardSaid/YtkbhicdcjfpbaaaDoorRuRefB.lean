/- The reference of layer 12: the day of a year, as it stands. -/
import Derived.Test.YtkbhicdcjfpbaaaDoorRuRef
namespace Go.Proofs.YtkbhicdcjfpbaaaDoor
open Go.RowKit
set_option linter.unusedVariables false
set_option linter.unusedSimpArgs false

/-- How many of the first i - 1 days of a month are of the day of the week whose first one is day x. -/
def cnt (x i : Int) : Int := (i + 6 - x) / 7
def frs (F d : Int) : Int := 1 + (d - wk F) % 7
theorem cnt_hit {F d i : Int} (hd : 0 ≤ d ∧ d ≤ 6) (hi : 1 ≤ i) (h : wk (F + i - 1) = d) : cnt (frs F d) (i + 1) = cnt (frs F d) i + 1 ∧ i = frs F d + 7 * cnt (frs F d) i := by
  unfold cnt frs wk at *; omega
theorem cnt_miss {F d i : Int} (hd : 0 ≤ d ∧ d ≤ 6) (hi : 1 ≤ i) (h : wk (F + i - 1) ≠ d) : cnt (frs F d) (i + 1) = cnt (frs F d) i := by
  unfold cnt frs wk at *; omega
theorem cnt_one (F d : Int) : cnt (frs F d) 1 = 0 := by unfold cnt frs; omega
theorem cnt_bd {F d i : Int} (h : 1 ≤ i ∧ i ≤ 32) : 0 ≤ cnt (frs F d) i ∧ cnt (frs F d) i ≤ 5 := by unfold cnt frs; omega
theorem frs_bd (F d : Int) : 1 ≤ frs F d ∧ frs F d ≤ 7 := by unfold frs; omega
theorem rweek_eq (n k : Int) (w : World) (h : wk n = k) : Calls Tryd.prog 25 #[.int .i64 n] w fun e w' => e = .returned (.int .i64 k) ∧ w = w' := by
  subst h; exact rweek_any n w

set_option maxHeartbeats 4000000 in
theorem rubase_out (k m d q o s f t y : Int) (w : World) (h : y < f ∨ t < y) : Calls Tryd.prog 53 #[.agg #[.int .i64 k, .int .i64 m, .int .i64 d, .int .i64 q, .int .i64 o, .int .i64 s, .int .i64 f, .int .i64 t], .int .i64 y] w fun e w' => e = .returned (.tuple #[.int .i64 0, .bool false]) ∧ Below w.heap.size w w' := by
  have D : ∀ w : World, Below w.heap.size w (w.alloc (.cells #[.int .i64 k, .int .i64 m, .int .i64 d, .int .i64 q, .int .i64 o, .int .i64 s, .int .i64 f, .int .i64 t] 57)) := fun w => (Below.refl _ _).alloc (Nat.le_refl _) _
  go_enter Tryd.func53, Tryd.ntmps53
  go_wp2
  all_goals first | (exfalso; omega) | skip
  all_goals (go_ret2; exact ⟨rfl, D _⟩)

set_option maxHeartbeats 4000000 in
theorem rubase_east (k m d q o s f t y : Int) (E n : Int) (b : Bool) (w : World) (hy : 1 ≤ y ∧ y ≤ 9999 ∧ f ≤ y ∧ y ≤ t) (hk : k = 3) (he : EaIs y E 0) (hb : 0 ≤ E ∧ E ≤ 4000000) (ho : -100 ≤ o ∧ o ≤ 250) (hn : (if 1 ≤ E + o ∧ E + o ≤ 3652059 then E + o else 0) = n ∧ decide (0 < n) = b) : Calls Tryd.prog 53 #[.agg #[.int .i64 k, .int .i64 m, .int .i64 d, .int .i64 q, .int .i64 o, .int .i64 s, .int .i64 f, .int .i64 t], .int .i64 y] w fun e w' => e = .returned (.tuple #[.int .i64 n, .bool b]) ∧ Below w.heap.size w w' := by
  have H := Held.start w
  have C := Lib.hid (fun v => rea_any y E 0 v he)
  obtain ⟨y1, y2, y3, y4⟩ := hy
  have HN := Lib.hid hn
  clear he hn
  subst hk
  go_enter Tryd.func53, Tryd.ntmps53
  replace H := H.oct (w.heap.size) (.int .i64 3) (.int .i64 m) (.int .i64 d) (.int .i64 q) (.int .i64 o) (.int .i64 s) (.int .i64 f) (.int .i64 t) 57 rfl
  go_wp2_with fail
  (with_reducible refine (C.out _).mono ?_)
  rintro e w1 ⟨rfl, hb1⟩
  replace H := H.below hb1
  clear hb1
  have c0 := H.cell (w.heap.size) 0 (.int .i64 3) (List.Mem.head _)
  have c1 := H.cell (w.heap.size) 1 (.int .i64 m) (List.Mem.tail _ (List.Mem.head _))
  have c2 := H.cell (w.heap.size) 2 (.int .i64 d) (List.Mem.tail _ (List.Mem.tail _ (List.Mem.head _)))
  have c3 := H.cell (w.heap.size) 3 (.int .i64 q) (List.Mem.tail _ (List.Mem.tail _ (List.Mem.tail _ (List.Mem.head _))))
  have c4 := H.cell (w.heap.size) 4 (.int .i64 o) (List.Mem.tail _ (List.Mem.tail _ (List.Mem.tail _ (List.Mem.tail _ (List.Mem.head _)))))
  have c5 := H.cell (w.heap.size) 5 (.int .i64 s) (List.Mem.tail _ (List.Mem.tail _ (List.Mem.tail _ (List.Mem.tail _ (List.Mem.tail _ (List.Mem.head _))))))
  have c6 := H.cell (w.heap.size) 6 (.int .i64 f) (List.Mem.tail _ (List.Mem.tail _ (List.Mem.tail _ (List.Mem.tail _ (List.Mem.tail _ (List.Mem.tail _ (List.Mem.head _)))))))
  have c7 := H.cell (w.heap.size) 7 (.int .i64 t) (List.Mem.tail _ (List.Mem.tail _ (List.Mem.tail _ (List.Mem.tail _ (List.Mem.tail _ (List.Mem.tail _ (List.Mem.tail _ (List.Mem.head _))))))))
  by_cases hc : 1 ≤ E + o ∧ E + o ≤ 3652059
  · obtain ⟨n1, n2⟩ := HN.out
    rw [if_pos hc] at n1
    subst n1
    have e1 : b = true := by rw [← n2]; exact decide_eq_true (by omega)
    subst e1
    clear n2 HN
    go_wp2
    go_ret2
    exact ⟨rfl, H.old⟩
  · obtain ⟨n1, n2⟩ := HN.out
    rw [if_neg hc] at n1
    subst n1
    have e1 : b = false := by rw [← n2]; rfl
    subst e1
    clear n2 HN
    have hc2 : E + o < 1 ∨ 3652059 < E + o := by omega
    go_wp2
    all_goals first | (exfalso; omega) | skip
    all_goals (go_ret2; exact ⟨rfl, H.old⟩)

set_option maxHeartbeats 4000000 in
theorem rubase_fixed (k m d q o s f t y : Int) (L F n : Int) (b : Bool) (w : World) (hy : 1 ≤ y ∧ y ≤ 9999 ∧ f ≤ y ∧ y ≤ t) (hm : 1 ≤ m ∧ m ≤ 12) (hl : ln y m = L) (hF : nN y m 1 = F ∧ nE y m 1 = 0) (Fb : 1 ≤ F ∧ F + L ≤ 3652060) (Lb : 28 ≤ L ∧ L ≤ 31) (hk : k = 0) (hd : 1 ≤ d) (hn : (if d ≤ L then F + d - 1 else 0) = n) (hb : decide (0 < n) = b) : Calls Tryd.prog 53 #[.agg #[.int .i64 k, .int .i64 m, .int .i64 d, .int .i64 q, .int .i64 o, .int .i64 s, .int .i64 f, .int .i64 t], .int .i64 y] w fun e w' => e = .returned (.tuple #[.int .i64 n, .bool b]) ∧ Below w.heap.size w w' := by
  have H := Held.start w
  have C1 := Lib.hid (fun v => rlength_is y m L v hl)
  have C2 := Lib.hid (fun v => rnumber_is y m 1 F 0 v hF)
  have C3 := Lib.hid (fun n v => rweek_any n v)
  obtain ⟨y1, y2, y3, y4⟩ := hy
  have HN := Lib.hid hn
  have HB := Lib.hid hb
  clear hl hF hn hb
  subst hk
  go_enter Tryd.func53, Tryd.ntmps53
  replace H := H.oct (w.heap.size) (.int .i64 0) (.int .i64 m) (.int .i64 d) (.int .i64 q) (.int .i64 o) (.int .i64 s) (.int .i64 f) (.int .i64 t) 57 rfl
  go_wp2_with fail
  (with_reducible refine (C1.out _).mono ?_)
  rintro e w1 ⟨rfl, hb1⟩
  replace H := H.below hb1
  clear hb1
  have c0 := H.cell (w.heap.size) 0 (.int .i64 0) (List.Mem.head _)
  have c1 := H.cell (w.heap.size) 1 (.int .i64 m) (List.Mem.tail _ (List.Mem.head _))
  have c2 := H.cell (w.heap.size) 2 (.int .i64 d) (List.Mem.tail _ (List.Mem.tail _ (List.Mem.head _)))
  have c3 := H.cell (w.heap.size) 3 (.int .i64 q) (List.Mem.tail _ (List.Mem.tail _ (List.Mem.tail _ (List.Mem.head _))))
  have c4 := H.cell (w.heap.size) 4 (.int .i64 o) (List.Mem.tail _ (List.Mem.tail _ (List.Mem.tail _ (List.Mem.tail _ (List.Mem.head _)))))
  have c5 := H.cell (w.heap.size) 5 (.int .i64 s) (List.Mem.tail _ (List.Mem.tail _ (List.Mem.tail _ (List.Mem.tail _ (List.Mem.tail _ (List.Mem.head _))))))
  have c6 := H.cell (w.heap.size) 6 (.int .i64 f) (List.Mem.tail _ (List.Mem.tail _ (List.Mem.tail _ (List.Mem.tail _ (List.Mem.tail _ (List.Mem.tail _ (List.Mem.head _)))))))
  have c7 := H.cell (w.heap.size) 7 (.int .i64 t) (List.Mem.tail _ (List.Mem.tail _ (List.Mem.tail _ (List.Mem.tail _ (List.Mem.tail _ (List.Mem.tail _ (List.Mem.tail _ (List.Mem.head _))))))))
  go_wp2_with fail
  clear c0 c1 c2 c3 c4 c5 c6 c7
  (with_reducible refine (C2.out _).mono ?_)
  rintro e w2 ⟨rfl, hb1⟩
  replace H := H.below hb1
  clear hb1
  have c0 := H.cell (w.heap.size) 0 (.int .i64 0) (List.Mem.head _)
  have c1 := H.cell (w.heap.size) 1 (.int .i64 m) (List.Mem.tail _ (List.Mem.head _))
  have c2 := H.cell (w.heap.size) 2 (.int .i64 d) (List.Mem.tail _ (List.Mem.tail _ (List.Mem.head _)))
  have c3 := H.cell (w.heap.size) 3 (.int .i64 q) (List.Mem.tail _ (List.Mem.tail _ (List.Mem.tail _ (List.Mem.head _))))
  have c4 := H.cell (w.heap.size) 4 (.int .i64 o) (List.Mem.tail _ (List.Mem.tail _ (List.Mem.tail _ (List.Mem.tail _ (List.Mem.head _)))))
  have c5 := H.cell (w.heap.size) 5 (.int .i64 s) (List.Mem.tail _ (List.Mem.tail _ (List.Mem.tail _ (List.Mem.tail _ (List.Mem.tail _ (List.Mem.head _))))))
  have c6 := H.cell (w.heap.size) 6 (.int .i64 f) (List.Mem.tail _ (List.Mem.tail _ (List.Mem.tail _ (List.Mem.tail _ (List.Mem.tail _ (List.Mem.tail _ (List.Mem.head _)))))))
  have c7 := H.cell (w.heap.size) 7 (.int .i64 t) (List.Mem.tail _ (List.Mem.tail _ (List.Mem.tail _ (List.Mem.tail _ (List.Mem.tail _ (List.Mem.tail _ (List.Mem.tail _ (List.Mem.head _))))))))
  go_wp2
  go_loop [12, 13, 14] (fun a b c => ∃ i : Int, 1 ≤ i ∧ i ≤ L + 1 ∧ a = .int .i64 0 ∧ b = .int .i64 (if d < i then F + d - 1 else 0) ∧ c = .int .i64 i) (fun _ _ c => (L + 1 - intOf c).toNat)
  case atStart => exact ⟨1, by omega, by omega, rfl, by rw [if_neg (by omega)], rfl⟩
  case round =>
    obtain ⟨i, i1, i2, rfl, rfl, rfl⟩ := hrel
    by_cases hi : i ≤ L
    · by_cases hd2 : i = d
      · subst hd2
        rw [if_neg (by omega)]
        go_wp2
        go_round
        case rel => exact ⟨i + 1, by omega, by omega, rfl, by rw [if_pos (by omega)], rfl⟩
        case measure => simp [intOf]; omega
      · have e : (if d < i then F + d - 1 else 0) = (if d < i + 1 then F + d - 1 else 0) := by
          by_cases c : d < i
          · rw [if_pos c, if_pos (by omega)]
          · rw [if_neg c, if_neg (by omega)]
        have hd3 : (i == d) = false := by simpa using hd2
        obtain ⟨X, HX⟩ : ∃ X, Hid ((if d < i + 1 then F + d - 1 else 0) = X) := ⟨_, Lib.hid rfl⟩
        rw [e, HX.out]
        clear e
        go_wp2
        go_round
        case rel => exact ⟨i + 1, by omega, by omega, rfl, by rw [HX.out], rfl⟩
        case measure => simp [intOf]; omega
    · have e : i = L + 1 := by omega
      subst e
      have e : (if d < L + 1 then F + d - 1 else 0) = n := by
        rw [← HN.out]
        by_cases c : d ≤ L
        · rw [if_pos (by omega), if_pos c]
        · rw [if_neg (by omega), if_neg c]
      rw [e]
      clear e
      go_wp2
      go_ret2
      exact ⟨by rw [← HB.out]; rfl, H.old⟩

set_option maxHeartbeats 4000000 in
theorem rubase_last (k m d q o s f t y : Int) (L F n : Int) (b : Bool) (w : World) (hy : 1 ≤ y ∧ y ≤ 9999 ∧ f ≤ y ∧ y ≤ t) (hm : 1 ≤ m ∧ m ≤ 12) (hl : ln y m = L) (hF : nN y m 1 = F ∧ nE y m 1 = 0) (Fb : 1 ≤ F ∧ F + L ≤ 3652060) (Lb : 28 ≤ L ∧ L ≤ 31) (hk : k = 2) (hd : 0 ≤ d ∧ d ≤ 6) (hn : (F + (L - (wk (F + L - 1) - d) % 7) - 1) = n) (hb : decide (0 < n) = b) : Calls Tryd.prog 53 #[.agg #[.int .i64 k, .int .i64 m, .int .i64 d, .int .i64 q, .int .i64 o, .int .i64 s, .int .i64 f, .int .i64 t], .int .i64 y] w fun e w' => e = .returned (.tuple #[.int .i64 n, .bool b]) ∧ Below w.heap.size w w' := by
  have H := Held.start w
  have C1 := Lib.hid (fun v => rlength_is y m L v hl)
  have C2 := Lib.hid (fun v => rnumber_is y m 1 F 0 v hF)
  have C3 := Lib.hid (fun n v => rweek_any n v)
  obtain ⟨y1, y2, y3, y4⟩ := hy
  have HN := Lib.hid hn
  have HB := Lib.hid hb
  clear hl hF hn hb
  subst hk
  go_enter Tryd.func53, Tryd.ntmps53
  replace H := H.oct (w.heap.size) (.int .i64 2) (.int .i64 m) (.int .i64 d) (.int .i64 q) (.int .i64 o) (.int .i64 s) (.int .i64 f) (.int .i64 t) 57 rfl
  go_wp2_with fail
  (with_reducible refine (C1.out _).mono ?_)
  rintro e w1 ⟨rfl, hb1⟩
  replace H := H.below hb1
  clear hb1
  have c0 := H.cell (w.heap.size) 0 (.int .i64 2) (List.Mem.head _)
  have c1 := H.cell (w.heap.size) 1 (.int .i64 m) (List.Mem.tail _ (List.Mem.head _))
  have c2 := H.cell (w.heap.size) 2 (.int .i64 d) (List.Mem.tail _ (List.Mem.tail _ (List.Mem.head _)))
  have c3 := H.cell (w.heap.size) 3 (.int .i64 q) (List.Mem.tail _ (List.Mem.tail _ (List.Mem.tail _ (List.Mem.head _))))
  have c4 := H.cell (w.heap.size) 4 (.int .i64 o) (List.Mem.tail _ (List.Mem.tail _ (List.Mem.tail _ (List.Mem.tail _ (List.Mem.head _)))))
  have c5 := H.cell (w.heap.size) 5 (.int .i64 s) (List.Mem.tail _ (List.Mem.tail _ (List.Mem.tail _ (List.Mem.tail _ (List.Mem.tail _ (List.Mem.head _))))))
  have c6 := H.cell (w.heap.size) 6 (.int .i64 f) (List.Mem.tail _ (List.Mem.tail _ (List.Mem.tail _ (List.Mem.tail _ (List.Mem.tail _ (List.Mem.tail _ (List.Mem.head _)))))))
  have c7 := H.cell (w.heap.size) 7 (.int .i64 t) (List.Mem.tail _ (List.Mem.tail _ (List.Mem.tail _ (List.Mem.tail _ (List.Mem.tail _ (List.Mem.tail _ (List.Mem.tail _ (List.Mem.head _))))))))
  go_wp2_with fail
  clear c0 c1 c2 c3 c4 c5 c6 c7
  (with_reducible refine (C2.out _).mono ?_)
  rintro e w2 ⟨rfl, hb1⟩
  replace H := H.below hb1
  clear hb1
  have c0 := H.cell (w.heap.size) 0 (.int .i64 2) (List.Mem.head _)
  have c1 := H.cell (w.heap.size) 1 (.int .i64 m) (List.Mem.tail _ (List.Mem.head _))
  have c2 := H.cell (w.heap.size) 2 (.int .i64 d) (List.Mem.tail _ (List.Mem.tail _ (List.Mem.head _)))
  have c3 := H.cell (w.heap.size) 3 (.int .i64 q) (List.Mem.tail _ (List.Mem.tail _ (List.Mem.tail _ (List.Mem.head _))))
  have c4 := H.cell (w.heap.size) 4 (.int .i64 o) (List.Mem.tail _ (List.Mem.tail _ (List.Mem.tail _ (List.Mem.tail _ (List.Mem.head _)))))
  have c5 := H.cell (w.heap.size) 5 (.int .i64 s) (List.Mem.tail _ (List.Mem.tail _ (List.Mem.tail _ (List.Mem.tail _ (List.Mem.tail _ (List.Mem.head _))))))
  have c6 := H.cell (w.heap.size) 6 (.int .i64 f) (List.Mem.tail _ (List.Mem.tail _ (List.Mem.tail _ (List.Mem.tail _ (List.Mem.tail _ (List.Mem.tail _ (List.Mem.head _)))))))
  have c7 := H.cell (w.heap.size) 7 (.int .i64 t) (List.Mem.tail _ (List.Mem.tail _ (List.Mem.tail _ (List.Mem.tail _ (List.Mem.tail _ (List.Mem.tail _ (List.Mem.tail _ (List.Mem.head _))))))))
  obtain ⟨x, HX⟩ : ∃ x, Hid (frs F d = x) := ⟨_, Lib.hid rfl⟩
  have xb := frs_bd F d
  rw [HX.out] at xb
  (try rw [HX.out] at HN)
  have HH := Lib.hid (fun i (h1 : 1 ≤ i) (h : wk (F + i - 1) = d) => cnt_hit (F := F) (d := d) hd h1 h)
  have HI := Lib.hid (fun i (h1 : 1 ≤ i) (h : wk (F + i - 1) ≠ d) => cnt_miss (F := F) (d := d) hd h1 h)
  have H1 := Lib.hid (cnt_one F d)
  rw [HX.out] at HH HI H1
  have CB := Lib.hid (fun i h => cnt_bd (F := F) (d := d) (i := i) h)
  rw [HX.out] at CB
  go_wp2
  go_loopw [12, 13, 14] (fun a b c W' => ∃ i S : Int, 1 ≤ i ∧ i ≤ L + 1 ∧ a = .int .i64 S ∧ S = cnt x i ∧ b = .int .i64 (if S < 1 then 0 else F + x + 7 * (S - 1) - 1) ∧ c = .int .i64 i ∧ Below w2.heap.size w2 W') (fun _ _ c _ => (L + 1 - intOf c).toNat)
  case atStart => exact ⟨1, 0, by omega, by omega, rfl, by rw [H1.out], by rw [if_pos (by omega)], rfl, Below.refl _ _⟩
  case round =>
    obtain ⟨i, S, i1, i2, rfl, hS, rfl, rfl, hB⟩ := hrel
    have k0 := keep hB (cell_lt c0) c0
    have k2 := keep hB (cell_lt c2) c2
    have k3 := keep hB (cell_lt c3) c3
    clear c0 c1 c2 c3 c4 c5 c6 c7
    by_cases hi : i ≤ L
    · obtain ⟨v, HV⟩ : ∃ v, Hid (wk (F + i - 1) = v) := ⟨_, Lib.hid rfl⟩
      have C4 := Lib.hid (fun u => rweek_eq (F + i - 1) v u HV.out)
      have sb := CB.out i (by omega)
      rw [← hS] at sb
      have HS := Lib.hid hS
      clear hS
      by_cases hv : v = d
      · obtain ⟨j1, j2⟩ := HH.out i i1 (by rw [HV.out, hv])
        rw [← HS.out] at j1 j2
        have J1 := Lib.hid j1
        have J2 := Lib.hid j2
        clear j1 j2
        have hv2 : (v == d) = true := by simpa using hv
        obtain ⟨X, HY⟩ : ∃ X, Hid ((if S < 1 then 0 else F + x + 7 * (S - 1) - 1) = X) := ⟨_, Lib.hid rfl⟩
        rw [HY.out]
        clear hv
        go_wp2_with fail
        go_quiet ((go_at_call 25; with_reducible exact quietLeft (C4.out _)))
        go_wp2
        go_roundw
        case rel => exact ⟨i + 1, S + 1, by omega, by omega, rfl, J1.out.symm, by have := J2.out; rw [if_neg (by omega)]; simp only [Value.int.injEq, true_and]; omega, rfl, belowDrewN hB _⟩
        case measure => simp [intOf]; omega
      · have j1 := HI.out i i1 (by rw [HV.out]; exact hv)
        rw [← HS.out] at j1
        have J1 := Lib.hid j1
        clear j1
        have hv2 : (v == d) = false := by simpa using hv
        obtain ⟨X, HY⟩ : ∃ X, Hid ((if S < 1 then 0 else F + x + 7 * (S - 1) - 1) = X) := ⟨_, Lib.hid rfl⟩
        rw [HY.out]
        clear hv
        go_wp2_with fail
        go_quiet ((go_at_call 25; with_reducible exact quietLeft (C4.out _)))
        go_wp2
        go_roundw
        case rel => exact ⟨i + 1, S, by omega, by omega, rfl, J1.out.symm, by rw [HY.out], rfl, belowDrewN hB _⟩
        case measure => simp [intOf]; omega
    · have e : i = L + 1 := by omega
      subst e
      have e : (if S < 1 then 0 else F + x + 7 * (S - 1) - 1) = n := by
        have h1 := HN.out
        have h2 := HX.out
        unfold cnt at hS
        unfold frs wk at h2
        unfold wk at h1
        rw [if_neg (by omega)]
        omega
      rw [e]
      clear e
      go_wp2
      go_ret2
      exact ⟨by rw [← HB.out]; rfl, H.old.trans (hB.mono H.old.size)⟩

set_option maxHeartbeats 4000000 in
theorem rubase_nth (k m d q o s f t y : Int) (L F n : Int) (b : Bool) (w : World) (hy : 1 ≤ y ∧ y ≤ 9999 ∧ f ≤ y ∧ y ≤ t) (hm : 1 ≤ m ∧ m ≤ 12) (hl : ln y m = L) (hF : nN y m 1 = F ∧ nE y m 1 = 0) (Fb : 1 ≤ F ∧ F + L ≤ 3652060) (Lb : 28 ≤ L ∧ L ≤ 31) (hk : k = 1) (hd : 0 ≤ d ∧ d ≤ 6) (hq : 1 ≤ q ∧ q ≤ 5) (hn : (if frs F d + 7 * (q - 1) ≤ L then F + frs F d + 7 * (q - 1) - 1 else 0) = n) (hb : decide (0 < n) = b) : Calls Tryd.prog 53 #[.agg #[.int .i64 k, .int .i64 m, .int .i64 d, .int .i64 q, .int .i64 o, .int .i64 s, .int .i64 f, .int .i64 t], .int .i64 y] w fun e w' => e = .returned (.tuple #[.int .i64 n, .bool b]) ∧ Below w.heap.size w w' := by
  have H := Held.start w
  have C1 := Lib.hid (fun v => rlength_is y m L v hl)
  have C2 := Lib.hid (fun v => rnumber_is y m 1 F 0 v hF)
  have C3 := Lib.hid (fun n v => rweek_any n v)
  obtain ⟨y1, y2, y3, y4⟩ := hy
  have HN := Lib.hid hn
  have HB := Lib.hid hb
  clear hl hF hn hb
  subst hk
  go_enter Tryd.func53, Tryd.ntmps53
  replace H := H.oct (w.heap.size) (.int .i64 1) (.int .i64 m) (.int .i64 d) (.int .i64 q) (.int .i64 o) (.int .i64 s) (.int .i64 f) (.int .i64 t) 57 rfl
  go_wp2_with fail
  (with_reducible refine (C1.out _).mono ?_)
  rintro e w1 ⟨rfl, hb1⟩
  replace H := H.below hb1
  clear hb1
  have c0 := H.cell (w.heap.size) 0 (.int .i64 1) (List.Mem.head _)
  have c1 := H.cell (w.heap.size) 1 (.int .i64 m) (List.Mem.tail _ (List.Mem.head _))
  have c2 := H.cell (w.heap.size) 2 (.int .i64 d) (List.Mem.tail _ (List.Mem.tail _ (List.Mem.head _)))
  have c3 := H.cell (w.heap.size) 3 (.int .i64 q) (List.Mem.tail _ (List.Mem.tail _ (List.Mem.tail _ (List.Mem.head _))))
  have c4 := H.cell (w.heap.size) 4 (.int .i64 o) (List.Mem.tail _ (List.Mem.tail _ (List.Mem.tail _ (List.Mem.tail _ (List.Mem.head _)))))
  have c5 := H.cell (w.heap.size) 5 (.int .i64 s) (List.Mem.tail _ (List.Mem.tail _ (List.Mem.tail _ (List.Mem.tail _ (List.Mem.tail _ (List.Mem.head _))))))
  have c6 := H.cell (w.heap.size) 6 (.int .i64 f) (List.Mem.tail _ (List.Mem.tail _ (List.Mem.tail _ (List.Mem.tail _ (List.Mem.tail _ (List.Mem.tail _ (List.Mem.head _)))))))
  have c7 := H.cell (w.heap.size) 7 (.int .i64 t) (List.Mem.tail _ (List.Mem.tail _ (List.Mem.tail _ (List.Mem.tail _ (List.Mem.tail _ (List.Mem.tail _ (List.Mem.tail _ (List.Mem.head _))))))))
  go_wp2_with fail
  clear c0 c1 c2 c3 c4 c5 c6 c7
  (with_reducible refine (C2.out _).mono ?_)
  rintro e w2 ⟨rfl, hb1⟩
  replace H := H.below hb1
  clear hb1
  have c0 := H.cell (w.heap.size) 0 (.int .i64 1) (List.Mem.head _)
  have c1 := H.cell (w.heap.size) 1 (.int .i64 m) (List.Mem.tail _ (List.Mem.head _))
  have c2 := H.cell (w.heap.size) 2 (.int .i64 d) (List.Mem.tail _ (List.Mem.tail _ (List.Mem.head _)))
  have c3 := H.cell (w.heap.size) 3 (.int .i64 q) (List.Mem.tail _ (List.Mem.tail _ (List.Mem.tail _ (List.Mem.head _))))
  have c4 := H.cell (w.heap.size) 4 (.int .i64 o) (List.Mem.tail _ (List.Mem.tail _ (List.Mem.tail _ (List.Mem.tail _ (List.Mem.head _)))))
  have c5 := H.cell (w.heap.size) 5 (.int .i64 s) (List.Mem.tail _ (List.Mem.tail _ (List.Mem.tail _ (List.Mem.tail _ (List.Mem.tail _ (List.Mem.head _))))))
  have c6 := H.cell (w.heap.size) 6 (.int .i64 f) (List.Mem.tail _ (List.Mem.tail _ (List.Mem.tail _ (List.Mem.tail _ (List.Mem.tail _ (List.Mem.tail _ (List.Mem.head _)))))))
  have c7 := H.cell (w.heap.size) 7 (.int .i64 t) (List.Mem.tail _ (List.Mem.tail _ (List.Mem.tail _ (List.Mem.tail _ (List.Mem.tail _ (List.Mem.tail _ (List.Mem.tail _ (List.Mem.head _))))))))
  obtain ⟨x, HX⟩ : ∃ x, Hid (frs F d = x) := ⟨_, Lib.hid rfl⟩
  have xb := frs_bd F d
  rw [HX.out] at xb
  (try rw [HX.out] at HN)
  have HH := Lib.hid (fun i (h1 : 1 ≤ i) (h : wk (F + i - 1) = d) => cnt_hit (F := F) (d := d) hd h1 h)
  have HI := Lib.hid (fun i (h1 : 1 ≤ i) (h : wk (F + i - 1) ≠ d) => cnt_miss (F := F) (d := d) hd h1 h)
  have H1 := Lib.hid (cnt_one F d)
  rw [HX.out] at HH HI H1
  have CB := Lib.hid (fun i h => cnt_bd (F := F) (d := d) (i := i) h)
  rw [HX.out] at CB
  go_wp2
  go_loopw [12, 13, 14] (fun a b c W' => ∃ i S : Int, 1 ≤ i ∧ i ≤ L + 1 ∧ a = .int .i64 S ∧ S = cnt x i ∧ b = .int .i64 (if q ≤ S then F + x + 7 * (q - 1) - 1 else 0) ∧ c = .int .i64 i ∧ Below w2.heap.size w2 W') (fun _ _ c _ => (L + 1 - intOf c).toNat)
  case atStart => exact ⟨1, 0, by omega, by omega, rfl, by rw [H1.out], by rw [if_neg (by omega)], rfl, Below.refl _ _⟩
  case round =>
    obtain ⟨i, S, i1, i2, rfl, hS, rfl, rfl, hB⟩ := hrel
    have k0 := keep hB (cell_lt c0) c0
    have k2 := keep hB (cell_lt c2) c2
    have k3 := keep hB (cell_lt c3) c3
    clear c0 c1 c2 c3 c4 c5 c6 c7
    by_cases hi : i ≤ L
    · obtain ⟨v, HV⟩ : ∃ v, Hid (wk (F + i - 1) = v) := ⟨_, Lib.hid rfl⟩
      have C4 := Lib.hid (fun u => rweek_eq (F + i - 1) v u HV.out)
      have sb := CB.out i (by omega)
      rw [← hS] at sb
      have HS := Lib.hid hS
      clear hS
      by_cases hv : v = d
      · obtain ⟨j1, j2⟩ := HH.out i i1 (by rw [HV.out, hv])
        rw [← HS.out] at j1 j2
        have J1 := Lib.hid j1
        have J2 := Lib.hid j2
        clear j1 j2
        have hv2 : (v == d) = true := by simpa using hv
        by_cases hs : S + 1 = q
        · have e : (if q ≤ S then F + x + 7 * (q - 1) - 1 else 0) = 0 := if_neg (by omega)
          rw [e]
          clear e
          have hs2 : (S + 1 == q) = true := by simpa using hs
          clear hv
          go_wp2_with fail
          go_quiet ((go_at_call 25; with_reducible exact quietLeft (C4.out _)))
          go_wp2
          go_roundw
          case rel => exact ⟨i + 1, q, by omega, by omega, rfl, by rw [← hs]; exact J1.out.symm, by have := J2.out; rw [if_pos (by omega)]; simp only [Value.int.injEq, true_and]; subst hs; omega, rfl, belowDrewN hB _⟩
          case measure => simp [intOf]; omega
        · have e : (if q ≤ S then F + x + 7 * (q - 1) - 1 else 0) = (if q ≤ S + 1 then F + x + 7 * (q - 1) - 1 else 0) := by
            by_cases c : q ≤ S
            · rw [if_pos c, if_pos (by omega)]
            · rw [if_neg c, if_neg (by omega)]
          obtain ⟨X, HY⟩ : ∃ X, Hid ((if q ≤ S + 1 then F + x + 7 * (q - 1) - 1 else 0) = X) := ⟨_, Lib.hid rfl⟩
          rw [e, HY.out]
          clear e
          have hs2 : (S + 1 == q) = false := by simpa using hs
          clear hv
          go_wp2_with fail
          go_quiet ((go_at_call 25; with_reducible exact quietLeft (C4.out _)))
          go_wp2
          go_roundw
          case rel => exact ⟨i + 1, S + 1, by omega, by omega, rfl, J1.out.symm, by rw [HY.out], rfl, belowDrewN hB _⟩
          case measure => simp [intOf]; omega
      · have j1 := HI.out i i1 (by rw [HV.out]; exact hv)
        rw [← HS.out] at j1
        have J1 := Lib.hid j1
        clear j1
        have hv2 : (v == d) = false := by simpa using hv
        obtain ⟨X, HY⟩ : ∃ X, Hid ((if q ≤ S then F + x + 7 * (q - 1) - 1 else 0) = X) := ⟨_, Lib.hid rfl⟩
        rw [HY.out]
        clear hv
        go_wp2_with fail
        go_quiet ((go_at_call 25; with_reducible exact quietLeft (C4.out _)))
        go_wp2
        go_roundw
        case rel => exact ⟨i + 1, S, by omega, by omega, rfl, J1.out.symm, by rw [HY.out], rfl, belowDrewN hB _⟩
        case measure => simp [intOf]; omega
    · have e : i = L + 1 := by omega
      subst e
      have e : (if q ≤ S then F + x + 7 * (q - 1) - 1 else 0) = n := by
        rw [← HN.out]
        unfold cnt at hS
        by_cases c : q ≤ S
        · rw [if_pos c, if_pos (by omega)]
        · rw [if_neg c, if_neg (by omega)]
      rw [e]
      clear e
      go_wp2
      go_ret2
      exact ⟨by rw [← HB.out]; rfl, H.old.trans (hB.mono H.old.size)⟩

theorem ru_first {y m : Int} (h1 : 1 ≤ y) (h2 : y ≤ 9999) (h3 : 1 ≤ m) (h4 : m ≤ 12) : may y m 1 ∧ may y m (ln y m) := by
  have := ln_ge y m h3 h4
  exact ⟨⟨h1, h2, h3, h4, by omega, by omega⟩, ⟨h1, h2, h3, h4, by omega, by omega⟩⟩
set_option maxHeartbeats 1000000 in
theorem rubase_any (k m d q o s f t y n : Int) (b : Bool) (w : World) (hM : Ru.May ⟨k, m, d, q, o, s, f, t⟩) (hn : Ru.bas ⟨k, m, d, q, o, s, f, t⟩ y = n) (hb : decide (0 < n) = b) : Calls Tryd.prog 53 #[.agg #[.int .i64 k, .int .i64 m, .int .i64 d, .int .i64 q, .int .i64 o, .int .i64 s, .int .i64 f, .int .i64 t], .int .i64 y] w fun e w' => e = .returned (.tuple #[.int .i64 n, .bool b]) ∧ Below w.heap.size w w' := by
  by_cases h : y < f ∨ t < y
  · have e : Ru.bas ⟨k, m, d, q, o, s, f, t⟩ y = 0 := bas_out h
    rw [e] at hn
    subst hn
    rw [← hb]
    exact rubase_out _ _ _ _ _ _ _ _ _ w h
  · obtain ⟨h1, h2, h3, h4, h5, h6, h7, h8⟩ := id hM
    simp only at h1 h2 h3 h4 h5 h6 h7 h8
    have hy : 1 ≤ y ∧ y ≤ 9999 ∧ f ≤ y ∧ y ≤ t := by omega
    by_cases hk : k = 3
    · have eb := ea_bd y
      have mm := nb_bd _ _ _ (may_march y 1 hy.1 hy.2.1 (by decide) (by decide))
      refine rubase_east _ _ _ _ _ _ _ _ _ _ _ _ w hy hk (ea_in y hy.1 hy.2.1) (by omega) (h4 hk) ⟨?_, hb⟩
      rw [← hn]; unfold Ru.bas; simp only
      rw [if_neg h, if_pos hk]
    · have hm := h5 hk
      obtain ⟨f1, f2⟩ := ru_first hy.1 hy.2.1 hm.1 hm.2
      have a1 := nb_bd _ _ _ f1
      have a2 := nb_bd _ _ _ f2
      have e2 : nb y m (ln y m) = nb y m 1 + ln y m - 1 := by unfold nb; omega
      have l1 := ln_ge y m hm.1 hm.2
      have l2 := ln_le y m
      have val : ∀ x, Ru.dd ⟨k, m, d, q, o, s, f, t⟩ y = x → (if x ≤ ln y m then nb y m 1 + x - 1 else 0) = n := fun x hx => by
        rw [← hn]; unfold Ru.bas
        rw [hx]; simp only
        rw [if_neg h, if_neg hk]
        by_cases c : x ≤ ln y m
        · rw [if_pos c, if_pos c]; unfold nb; omega
        · rw [if_neg c, if_neg c]
      by_cases h0 : k = 0
      · have v := val d (by unfold Ru.dd; simp only; rw [if_pos h0])
        exact rubase_fixed _ _ _ _ _ _ _ _ _ _ _ _ _ w hy hm rfl (n_yes f1) (by omega) (by omega) h0 (h6 h0).1 v hb
      · by_cases hk1 : k = 1
        · have v := val (nthD y m d q) (by unfold Ru.dd; simp only; rw [if_neg h0, if_pos hk1])
          refine rubase_nth _ _ _ _ _ _ _ _ _ _ _ _ _ w hy hm rfl (n_yes f1) (by omega) (by omega) hk1 (h7 (Or.inl hk1)) (h8 hk1) ?_ hb
          rw [← v]; unfold nthD frs
          by_cases c : 1 + (d - wk (nb y m 1)) % 7 + 7 * (q - 1) ≤ ln y m
          · rw [if_pos c, if_pos c]; omega
          · rw [if_neg c, if_neg c]
        · have hk2 : k = 2 := by omega
          have v := val (lastD y m d) (by unfold Ru.dd; simp only; rw [if_neg h0, if_neg hk1])
          refine rubase_last _ _ _ _ _ _ _ _ _ _ _ _ _ w hy hm rfl (n_yes f1) (by omega) (by omega) hk2 (h7 (Or.inr hk2)) ?_ hb
          have c := (last_wk (y := y) (m := m) (h7 (Or.inr hk2))).2.1
          rw [if_pos c] at v
          rw [← v, ← e2]; unfold lastD; rfl
end Go.Proofs.YtkbhicdcjfpbaaaDoor
