/- IsoNext: the walk. -/
import Derived.Test.YtgdhpganognmlaaDoorIsShown
namespace Go.Proofs.YtgdhpganognmlaaDoor
open Go.RowKit
set_option linter.unusedVariables false
set_option linter.unusedSimpArgs false

theorem end_in_month (y m d : Int) (h : may y m d) : may y m (ln y m) := by
  obtain ⟨a1, a2, a3, a4, a5, a6⟩ := h
  have := ln_ge y m a3 a4
  exact ⟨a1, a2, a3, a4, by omega, Int.le_refl _⟩
/-- Of texts alike behind, what stands ahead is in order, too. -/
theorem less_ahead : ∀ (a b c : List UInt8), a.length = b.length → Op.bytesLess (a ++ c) (b ++ c) = true → Op.bytesLess a b = true
  | [], [], c, _, h => by
    exfalso
    have irr : ∀ c : List UInt8, Op.bytesLess c c = false := by
      intro c
      induction c with
      | nil => rfl
      | cons x c ih => simp [Op.bytesLess, ih]
    simp [irr] at h
  | x :: a, y :: b, c, hl, h => by
    simp only [List.cons_append, Op.bytesLess, Bool.or_eq_true, Bool.and_eq_true] at h ⊢
    rcases h with h | ⟨h1, h2⟩
    · exact Or.inl h
    · exact Or.inr ⟨h1, less_ahead a b c (by simpa using hl) h2⟩
  | [], _ :: _, _, hl, _ => by simp at hl
  | _ :: _, [], _, hl, _ => by simp at hl
/-- What a text of ten bytes holds: two last digits, and what stands ahead. -/
theorem text_facts (y m d : Int) (s : ByteArray) (h : (⟨(txt y m d).toArray⟩ : ByteArray) = s) (d1 : 0 ≤ d) (d2 : d ≤ 99) :
    ∃ hz : s.size = 10, ((s[8]'(by omega)).toNat : Int) = 48 + d / 10 ∧ ((s[9]'(by omega)).toNat : Int) = 48 + d % 10 ∧ (s.extract 0 8).toList = digs y 4 ++ 45 :: (digs m 2 ++ [45]) := by
  subst h
  have hz : (⟨(txt y m d).toArray⟩ : ByteArray).size = 10 := by show (txt y m d).toArray.size = 10; rw [List.size_toArray, txt_len]
  refine ⟨hz, ?_, ?_, ?_⟩
  · rw [index_at]; unfold bsl; rw [txt_eq]; simp only [List.getD_cons_succ, List.getD_cons_zero]; rw [dg_nat]; omega
  · rw [index_at]; unfold bsl; rw [txt_eq]; simp only [List.getD_cons_succ, List.getD_cons_zero]; rw [dg_nat]; omega
  · rw [ByteArray.extract_mk, ByteArray.toList_mk, txt_eq]; simp [digs]

set_option maxHeartbeats 4000000 in
set_option maxRecDepth 100000 in
theorem inext_low (n : Int) (w : World) (hL : Tabs w) (h : n < 1) :
    Calls Tryd.prog 7 #[.int .i64 n] w fun e w' => e = .returned (.bool true) ∧ Below w.heap.size w w' := by
  have H := (Held.start w).add (f := tabsF) hL
  clear hL
  go_enter Tryd.func7, Tryd.ntmps7
  go_wp2_with fail
  (with_reducible refine (ishown_any _ (H.tabs (List.Mem.head _))).mono ?_)
  rintro e w1 ⟨rfl, hb⟩
  replace H := H.below hb
  clear hb
  go_wp2_with fail
  go_ret
  exact ⟨rfl, H.old⟩

set_option maxHeartbeats 4000000 in
set_option maxRecDepth 100000 in
theorem inext_high (n : Int) (w : World) (hL : Tabs w) (h : n ≥ 3652059) :
    Calls Tryd.prog 7 #[.int .i64 n] w fun e w' => e = .returned (.bool true) ∧ Below w.heap.size w w' := by
  have H := (Held.start w).add (f := tabsF) hL
  clear hL
  go_enter Tryd.func7, Tryd.ntmps7
  go_wp2_with fail
  (with_reducible refine (ishown_any _ (H.tabs (List.Mem.head _))).mono ?_)
  rintro e w1 ⟨rfl, hb⟩
  replace H := H.below hb
  clear hb
  go_wp2_with fail
  go_ret
  exact ⟨rfl, H.old⟩

set_option maxHeartbeats 4000000 in
set_option maxRecDepth 100000 in
theorem inext_same (n x8 x9 y8 y9 : Int) (s s2 : ByteArray) (w : World) (hL : Tabs w) (h1 : 1 ≤ n) (h2 : n < 3652059) (hs : ∀ v, Tabs v → Calls Tryd.prog 9 #[.int .i64 n] v fun e w' => e = .returned (.tuple #[.string s, .int .i64 0]) ∧ Below v.heap.size v w') (hs2 : ∀ v, Tabs v → Calls Tryd.prog 9 #[.int .i64 (n + 1)] v fun e w' => e = .returned (.tuple #[.string s2, .int .i64 0]) ∧ Below v.heap.size v w') (hz : s.size = 10) (hz2 : s2.size = 10) (i8 : ((s[8]'(by omega)).toNat : Int) = x8) (i9 : ((s[9]'(by omega)).toNat : Int) = x9) (j8 : ((s2[8]'(by omega)).toNat : Int) = y8) (j9 : ((s2[9]'(by omega)).toNat : Int) = y9) (b1 : 48 ≤ x8 ∧ x8 ≤ 57) (b2 : 48 ≤ x9 ∧ x9 ≤ 57) (b3 : 48 ≤ y8 ∧ y8 ≤ 57) (b4 : 48 ≤ y9 ∧ y9 ≤ 57) (heq : ((s.extract 0 8).toList == (s2.extract 0 8).toList) = true) (hp : 10 * (y8 - 48) + y9 - 48 = 10 * (x8 - 48) + x9 - 48 + 1) :
    Calls Tryd.prog 7 #[.int .i64 n] w fun e w' => e = .returned (.bool true) ∧ Below w.heap.size w w' := by
  have H := (Held.start w).add (f := tabsF) hL
  clear hL
  have S1 := Lib.hid hs
  have S2 := Lib.hid hs2
  clear hs hs2
  have HP := Lib.hid hp
  clear hp
  go_enter Tryd.func7, Tryd.ntmps7
  go_wp2_with fail
  (with_reducible refine (ishown_any _ (H.tabs (List.Mem.head _))).mono ?_)
  rintro e w1 ⟨rfl, hb⟩
  replace H := H.below hb
  clear hb
  go_wp2_with fail
  (with_reducible refine (S1.out _ (H.tabs (List.Mem.head _))).mono ?_)
  rintro e w2 ⟨rfl, hb⟩
  replace H := H.below hb
  clear hb
  go_wp2_with fail
  (with_reducible refine (S2.out _ (H.tabs (List.Mem.head _))).mono ?_)
  rintro e w3 ⟨rfl, hb⟩
  replace H := H.below hb
  clear hb
  have HO := H.old
  clear H
  go_wp2
  go_region
  all_goals go_wp2
  go_region
  all_goals go_wp2
  go_region
  all_goals go_wp2
  go_ret
  refine ⟨retB ?_, HO.drew.drew.drew⟩
  have e := HP.out
  simp
  omega

set_option maxHeartbeats 4000000 in
set_option maxRecDepth 100000 in
theorem inext_new (n x8 x9 y8 y9 : Int) (s s2 : ByteArray) (w : World) (hL : Tabs w) (h1 : 1 ≤ n) (h2 : n < 3652059) (hs : ∀ v, Tabs v → Calls Tryd.prog 9 #[.int .i64 n] v fun e w' => e = .returned (.tuple #[.string s, .int .i64 0]) ∧ Below v.heap.size v w') (hs2 : ∀ v, Tabs v → Calls Tryd.prog 9 #[.int .i64 (n + 1)] v fun e w' => e = .returned (.tuple #[.string s2, .int .i64 0]) ∧ Below v.heap.size v w') (hz : s.size = 10) (hz2 : s2.size = 10) (i8 : ((s[8]'(by omega)).toNat : Int) = x8) (i9 : ((s[9]'(by omega)).toNat : Int) = x9) (j8 : ((s2[8]'(by omega)).toNat : Int) = y8) (j9 : ((s2[9]'(by omega)).toNat : Int) = y9) (b1 : 48 ≤ x8 ∧ x8 ≤ 57) (b2 : 48 ≤ x9 ∧ x9 ≤ 57) (b3 : 48 ≤ y8 ∧ y8 ≤ 57) (b4 : 48 ≤ y9 ∧ y9 ≤ 57) (heq : ((s.extract 0 8).toList == (s2.extract 0 8).toList) = false) (hlt : Op.bytesLess (s.extract 0 8).toList (s2.extract 0 8).toList = true) (hq : 10 * (y8 - 48) + y9 - 48 = 1) (hp : 10 * (x8 - 48) + x9 - 48 ≥ 28) :
    Calls Tryd.prog 7 #[.int .i64 n] w fun e w' => e = .returned (.bool true) ∧ Below w.heap.size w w' := by
  have H := (Held.start w).add (f := tabsF) hL
  clear hL
  have S1 := Lib.hid hs
  have S2 := Lib.hid hs2
  clear hs hs2
  go_enter Tryd.func7, Tryd.ntmps7
  go_wp2_with fail
  (with_reducible refine (ishown_any _ (H.tabs (List.Mem.head _))).mono ?_)
  rintro e w1 ⟨rfl, hb⟩
  replace H := H.below hb
  clear hb
  go_wp2_with fail
  (with_reducible refine (S1.out _ (H.tabs (List.Mem.head _))).mono ?_)
  rintro e w2 ⟨rfl, hb⟩
  replace H := H.below hb
  clear hb
  go_wp2_with fail
  (with_reducible refine (S2.out _ (H.tabs (List.Mem.head _))).mono ?_)
  rintro e w3 ⟨rfl, hb⟩
  replace H := H.below hb
  clear hb
  have HO := H.old
  clear H
  go_wp2
  go_region
  all_goals go_wp2
  go_region
  all_goals go_wp2
  go_region
  all_goals go_wp2
  go_region
  all_goals go_wp2
  go_ret
  refine ⟨retB ?_, HO.drew.drew.drew.drew⟩
  simp

theorem inext_walk (n : Int) (w : World) (hL : Tabs w) (hn : -9223372036854775808 ≤ n ∧ n < 9223372036854775808) : Calls Tryd.prog 7 #[.int .i64 n] w fun e w' => e = .returned (.bool true) ∧ Below w.heap.size w w' := by
  by_cases h1 : n < 1
  · exact inext_low n w hL h1
  · by_cases h2 : n ≥ 3652059
    · exact inext_high n w hL h2
    · obtain ⟨y, m, d, hm, hb⟩ := day_of n (by omega) (by omega)
      obtain ⟨Y, M, D, hM, hB⟩ := day_of (n + 1) (by omega) (by omega)
      have hm' := hm
      have hM' := hM
      obtain ⟨y1, y2, m1, m2, d1, d2⟩ := hm'
      obtain ⟨Y1, Y2, M1, M2, D1, D2⟩ := hM'
      have p := may_bd hm
      have q := may_bd hM
      obtain ⟨s, hs⟩ : ∃ s, (⟨(txt y m d).toArray⟩ : ByteArray) = s := ⟨_, rfl⟩
      obtain ⟨s2, hs2⟩ : ∃ s, (⟨(txt Y M D).toArray⟩ : ByteArray) = s := ⟨_, rfl⟩
      obtain ⟨hz, i8, i9, ex⟩ := text_facts y m d s hs p.2.2.2.2.1 p.2.2.2.2.2
      obtain ⟨hz2, j8, j9, ex2⟩ := text_facts Y M D s2 hs2 q.2.2.2.2.1 q.2.2.2.2.2
      have c1 : ∀ v, Tabs v → Calls Tryd.prog 9 #[.int .i64 n] v fun e w' => e = .returned (.tuple #[.string s, .int .i64 0]) ∧ Below v.heap.size v w' := fun v hv => by
        rw [← hs]; exact show_any n 0 _ v hv (show_in y m d hm hb rfl)
      have c2 : ∀ v, Tabs v → Calls Tryd.prog 9 #[.int .i64 (n + 1)] v fun e w' => e = .returned (.tuple #[.string s2, .int .i64 0]) ∧ Below v.heap.size v w' := fun v hv => by
        rw [← hs2]; exact show_any (n + 1) 0 _ v hv (show_in Y M D hM hB rfl)
      have l31 := (ln_le y m).2
      have L31 := (ln_le Y M).2
      have a : ah y + am y m + d = n := hb
      have b : ah Y + am Y M + D = n + 1 := hB
      by_cases he : Y = y ∧ M = m
      · obtain ⟨rfl, rfl⟩ := he
        have hD : D = d + 1 := by omega
        refine inext_same n _ _ _ _ s s2 w hL (by omega) (by omega) c1 c2 hz hz2 i8 i9 j8 j9 (by omega) (by omega) (by omega) (by omega) ?_ (by omega)
        rw [ex, ex2]; simp
      · have hl : y < Y ∨ y = Y ∧ m < M := by
          by_cases h : y < Y ∨ y = Y ∧ (m < M ∨ m = M ∧ d < D)
          · omega
          · exfalso
            by_cases f : Y < y ∨ Y = y ∧ (M < m ∨ M = m ∧ D < d)
            · have := nb_lt _ _ _ _ _ _ hM hm f
              omega
            · have hy : Y = y := by omega
              have ho : M = m := by omega
              exact he ⟨hy, ho⟩
        -- the first day of that month isn't ahead of the next one
        have hF : may Y M 1 := ⟨Y1, Y2, M1, M2, by omega, by omega⟩
        have hE := end_in_month y m d hm
        have k1 := nb_lt y m (ln y m) Y M 1 hE hF (by omega)
        have k2 : nb y m (ln y m) = ah y + am y m + ln y m := rfl
        have k3 : nb Y M 1 = ah Y + am Y M + 1 := rfl
        have hD : D = 1 := by omega
        have hd : d = ln y m := by omega
        have l28 := ln_ge y m m1 m2
        have neq : ¬ (digs y 4 ++ 45 :: (digs m 2 ++ [45]) = digs Y 4 ++ 45 :: (digs M 2 ++ [45])) := by
          intro h
          have h2 : txt y m 0 = txt Y M 0 := by
            have u : ∀ y m : Int, txt y m 0 = (digs y 4 ++ 45 :: (digs m 2 ++ [45])) ++ digs 0 2 := fun y m => by unfold txt; simp
            rw [u, u, h]
          have := txt_inj y m 0 Y M 0 p.1 p.2.1 p.2.2.1 p.2.2.2.1 (by omega) (by omega) q.1 q.2.1 q.2.2.1 q.2.2.2.1 (by omega) (by omega) h2
          omega
        have less : Op.bytesLess (digs y 4 ++ 45 :: (digs m 2 ++ [45])) (digs Y 4 ++ 45 :: (digs M 2 ++ [45])) = true := by
          have h2 := (txt_less y m 0 Y M 0 p.1 p.2.1 p.2.2.1 p.2.2.2.1 (by omega) (by omega) q.1 q.2.1 q.2.2.1 q.2.2.2.1 (by omega) (by omega)).2 (by omega)
          have u : ∀ y m : Int, txt y m 0 = (digs y 4 ++ 45 :: (digs m 2 ++ [45])) ++ digs 0 2 := fun y m => by unfold txt; simp
          rw [u, u] at h2
          exact less_ahead _ _ _ (by simp [digs_len]) h2
        refine inext_new n _ _ _ _ s s2 w hL (by omega) (by omega) c1 c2 hz hz2 i8 i9 j8 j9 (by omega) (by omega) (by omega) (by omega) ?_ ?_ (by omega) (by omega)
        · rw [ex, ex2, beq_eq_false_iff_ne]; exact neq
        · rw [ex, ex2]; exact less
end Go.Proofs.YtgdhpganognmlaaDoor
