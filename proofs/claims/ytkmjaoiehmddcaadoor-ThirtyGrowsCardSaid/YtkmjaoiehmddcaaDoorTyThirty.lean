/- Package thirty: what the three ways answer. -/
import Derived.Test.YtkmjaoiehmddcaaDoorTyShown
import Derived.Test.YtkmjaoiehmddcaaDoorTyHands
import Derived.Test.YtkmjaoiehmddcaaDoorTyDays
import Derived.Test.YtkmjaoiehmddcaaDoorTyBoth
import Derived.Test.YtkmjaoiehmddcaaDoorTyWays
namespace Go.Proofs.YtkmjaoiehmddcaaDoor
open Go.RowKit
set_option linter.unusedVariables false
set_option linter.unusedSimpArgs false

theorem px_max (y1 m1 v1 y2 m2 v2 : Int) : max (360 * (y2 - y1) + 30 * (m2 - m1) + v2 - v1) 0 = px y1 m1 v1 y2 m2 v2 := by
  unfold px; rw [Int.max_def]; split <;> split <;> omega
theorem pc_own_own (y1 m1 d1 y2 m2 d2 v1 v2 p q : Int) (l1 l2 : Bool) (h1 : may y1 m1 d1) (h2 : may y2 m2 d2) (e1 : d1 = v1) (e2 : d2 = v2)
    (hp : rN (px y1 m1 v1 y2 m2 v2) 360 = p) (hq : rD (px y1 m1 v1 y2 m2 v2) 360 = q) :
    Hid (∀ v, Calls Tryd.prog 31 #[.agg #[.int .i64 m1, .int .i64 d1, .bool l1, .int .i64 y1], .agg #[.int .i64 m2, .int .i64 d2, .bool l2, .int .i64 y2], .func (.methodOf 66 "demurrage/thirty.own") #[] #[], .func (.methodOf 66 "demurrage/thirty.own") #[] #[]] v fun e' w' => e' = .returned (.tuple #[.agg #[.int .i64 p, .int .i64 q], .int .i64 0]) ∧ Below v.heap.size v w') := by
  have c1 := ln_le y1 m1
  have c2 := ln_le y2 m2
  obtain ⟨a1, a2, a3, a4, a5, a6⟩ := h1
  obtain ⟨b1, b2, b3, b4, b5, b6⟩ := h2
  have bv1 : 0 ≤ v1 ∧ v1 ≤ 31 := by rw [← e1]; omega
  have bv2 : 0 ≤ v2 ∧ v2 ≤ 31 := by rw [← e2]; omega
  have bd := px_bd y1 m1 v1 y2 m2 v2 a1 a2 b1 b2 a3 a4 b3 b4 bv1.1 bv1.2 bv2.1 bv2.2
  have he := (r_yes (fit_small _ bd.1 bd.2)).2.2
  exact Lib.hid (fun v => part_own_own y1 m1 d1 y2 m2 d2 v1 v2 _ p q 0 l1 l2 v ⟨a1, a2⟩ ⟨b1, b2⟩ ⟨a3, a4⟩ ⟨b3, b4⟩ bv1 bv2 e1 e2 rfl (by rw [px_max]; exact ⟨hp, hq, he⟩))
theorem pc_cut_cut (y1 m1 d1 y2 m2 d2 v1 v2 p q : Int) (l1 l2 : Bool) (h1 : may y1 m1 d1) (h2 : may y2 m2 d2) (e1 : min d1 30 = v1) (e2 : min d2 30 = v2)
    (hp : rN (px y1 m1 v1 y2 m2 v2) 360 = p) (hq : rD (px y1 m1 v1 y2 m2 v2) 360 = q) :
    Hid (∀ v, Calls Tryd.prog 31 #[.agg #[.int .i64 m1, .int .i64 d1, .bool l1, .int .i64 y1], .agg #[.int .i64 m2, .int .i64 d2, .bool l2, .int .i64 y2], .func (.methodOf 66 "demurrage/thirty.cut") #[] #[], .func (.methodOf 66 "demurrage/thirty.cut") #[] #[]] v fun e' w' => e' = .returned (.tuple #[.agg #[.int .i64 p, .int .i64 q], .int .i64 0]) ∧ Below v.heap.size v w') := by
  have c1 := ln_le y1 m1
  have c2 := ln_le y2 m2
  obtain ⟨a1, a2, a3, a4, a5, a6⟩ := h1
  obtain ⟨b1, b2, b3, b4, b5, b6⟩ := h2
  have bv1 : 0 ≤ v1 ∧ v1 ≤ 31 := by rw [← e1]; rw [Int.min_def]; split <;> omega
  have bv2 : 0 ≤ v2 ∧ v2 ≤ 31 := by rw [← e2]; rw [Int.min_def]; split <;> omega
  have bd := px_bd y1 m1 v1 y2 m2 v2 a1 a2 b1 b2 a3 a4 b3 b4 bv1.1 bv1.2 bv2.1 bv2.2
  have he := (r_yes (fit_small _ bd.1 bd.2)).2.2
  exact Lib.hid (fun v => part_cut_cut y1 m1 d1 y2 m2 d2 v1 v2 _ p q 0 l1 l2 v ⟨a1, a2⟩ ⟨b1, b2⟩ ⟨a3, a4⟩ ⟨b3, b4⟩ bv1 bv2 e1 e2 rfl (by rw [px_max]; exact ⟨hp, hq, he⟩))
theorem pc_full_full (y1 m1 d1 y2 m2 d2 v1 v2 p q : Int) (l1 l2 : Bool) (h1 : may y1 m1 d1) (h2 : may y2 m2 d2) (e1 : (if l1 = true then 30 else d1) = v1) (e2 : (if l2 = true then 30 else d2) = v2)
    (hp : rN (px y1 m1 v1 y2 m2 v2) 360 = p) (hq : rD (px y1 m1 v1 y2 m2 v2) 360 = q) :
    Hid (∀ v, Calls Tryd.prog 31 #[.agg #[.int .i64 m1, .int .i64 d1, .bool l1, .int .i64 y1], .agg #[.int .i64 m2, .int .i64 d2, .bool l2, .int .i64 y2], .func (.methodOf 66 "demurrage/thirty.full") #[] #[], .func (.methodOf 66 "demurrage/thirty.full") #[] #[]] v fun e' w' => e' = .returned (.tuple #[.agg #[.int .i64 p, .int .i64 q], .int .i64 0]) ∧ Below v.heap.size v w') := by
  have c1 := ln_le y1 m1
  have c2 := ln_le y2 m2
  obtain ⟨a1, a2, a3, a4, a5, a6⟩ := h1
  obtain ⟨b1, b2, b3, b4, b5, b6⟩ := h2
  have bv1 : 0 ≤ v1 ∧ v1 ≤ 31 := by rw [← e1]; split <;> omega
  have bv2 : 0 ≤ v2 ∧ v2 ≤ 31 := by rw [← e2]; split <;> omega
  have bd := px_bd y1 m1 v1 y2 m2 v2 a1 a2 b1 b2 a3 a4 b3 b4 bv1.1 bv1.2 bv2.1 bv2.2
  have he := (r_yes (fit_small _ bd.1 bd.2)).2.2
  exact Lib.hid (fun v => part_full_full y1 m1 d1 y2 m2 d2 v1 v2 _ p q 0 l1 l2 v ⟨a1, a2⟩ ⟨b1, b2⟩ ⟨a3, a4⟩ ⟨b3, b4⟩ bv1 bv2 e1 e2 rfl (by rw [px_max]; exact ⟨hp, hq, he⟩))
theorem pc_full_own (y1 m1 d1 y2 m2 d2 v1 v2 p q : Int) (l1 l2 : Bool) (h1 : may y1 m1 d1) (h2 : may y2 m2 d2) (e1 : (if l1 = true then 30 else d1) = v1) (e2 : d2 = v2)
    (hp : rN (px y1 m1 v1 y2 m2 v2) 360 = p) (hq : rD (px y1 m1 v1 y2 m2 v2) 360 = q) :
    Hid (∀ v, Calls Tryd.prog 31 #[.agg #[.int .i64 m1, .int .i64 d1, .bool l1, .int .i64 y1], .agg #[.int .i64 m2, .int .i64 d2, .bool l2, .int .i64 y2], .func (.methodOf 66 "demurrage/thirty.full") #[] #[], .func (.methodOf 66 "demurrage/thirty.own") #[] #[]] v fun e' w' => e' = .returned (.tuple #[.agg #[.int .i64 p, .int .i64 q], .int .i64 0]) ∧ Below v.heap.size v w') := by
  have c1 := ln_le y1 m1
  have c2 := ln_le y2 m2
  obtain ⟨a1, a2, a3, a4, a5, a6⟩ := h1
  obtain ⟨b1, b2, b3, b4, b5, b6⟩ := h2
  have bv1 : 0 ≤ v1 ∧ v1 ≤ 31 := by rw [← e1]; split <;> omega
  have bv2 : 0 ≤ v2 ∧ v2 ≤ 31 := by rw [← e2]; omega
  have bd := px_bd y1 m1 v1 y2 m2 v2 a1 a2 b1 b2 a3 a4 b3 b4 bv1.1 bv1.2 bv2.1 bv2.2
  have he := (r_yes (fit_small _ bd.1 bd.2)).2.2
  exact Lib.hid (fun v => part_full_own y1 m1 d1 y2 m2 d2 v1 v2 _ p q 0 l1 l2 v ⟨a1, a2⟩ ⟨b1, b2⟩ ⟨a3, a4⟩ ⟨b3, b4⟩ bv1 bv2 e1 e2 rfl (by rw [px_max]; exact ⟨hp, hq, he⟩))
/-- The two days, in order. -/
theorem bo_ok (a b y1 m1 d1 y2 m2 d2 : Int) (h1 : may y1 m1 d1) (ha : nb y1 m1 d1 = a) (h2 : may y2 m2 d2) (hb : nb y2 m2 d2 = b) (hab : a ≤ b) :
    Hid (∀ v, Lens v → Calls Tryd.prog 26 #[.int .i64 a, .int .i64 b] v fun e' w' => e' = .returned (.tuple #[.agg #[.int .i64 m1, .int .i64 d1, .bool (decide (d1 = ln y1 m1)), .int .i64 y1], .agg #[.int .i64 m2, .int .i64 d2, .bool (decide (d2 = ln y2 m2)), .int .i64 y2], .int .i64 0]) ∧ Below v.heap.size v w') :=
  Lib.hid (fun v hv => both_ok a b y1 m1 d1 y2 m2 d2 _ _ v (Lib.hid read7_any) hv (Or.inl ⟨h1, ha, rfl, rfl⟩) (Or.inl ⟨h2, hb, rfl, rfl⟩) (by omega))
theorem bo_out (a b : Int) (h : (a < 1 ∨ 3652059 < a) ∨ (b < 1 ∨ 3652059 < b)) :
    Hid (∀ v, Lens v → Calls Tryd.prog 26 #[.int .i64 a, .int .i64 b] v fun e' w' => e' = .returned (.tuple #[.agg #[.int .i64 0, .int .i64 0, .bool false, .int .i64 0], .agg #[.int .i64 0, .int .i64 0, .bool false, .int .i64 0], .int .i64 3]) ∧ Below v.heap.size v w') := by
  by_cases ha : a < 1 ∨ 3652059 < a
  · exact Lib.hid (fun v hv => both_no1 a b v (Lib.hid read7_any) hv (Or.inr ⟨ha, rfl, rfl, rfl, rfl, rfl⟩))
  · obtain ⟨y1, m1, d1, h1, h2⟩ := day_of a (by omega) (by omega)
    have hb : b < 1 ∨ 3652059 < b := by omega
    exact Lib.hid (fun v hv => both_no2 a b y1 m1 d1 _ v (Lib.hid read7_any) hv (Or.inl ⟨h1, h2, rfl, rfl⟩) (Or.inr ⟨hb, rfl, rfl, rfl, rfl, rfl⟩))
theorem bo_gt (a b : Int) (ha : 1 ≤ a ∧ a ≤ 3652059) (hb : 1 ≤ b ∧ b ≤ 3652059) (h : b < a) :
    Hid (∀ v, Lens v → Calls Tryd.prog 26 #[.int .i64 a, .int .i64 b] v fun e' w' => e' = .returned (.tuple #[.agg #[.int .i64 0, .int .i64 0, .bool false, .int .i64 0], .agg #[.int .i64 0, .int .i64 0, .bool false, .int .i64 0], .int .i64 4]) ∧ Below v.heap.size v w') := by
  obtain ⟨y1, m1, d1, h1, h2⟩ := day_of a ha.1 ha.2
  obtain ⟨y2, m2, d2, h3, h4⟩ := day_of b hb.1 hb.2
  exact Lib.hid (fun v hv => both_gt a b y1 m1 d1 y2 m2 d2 _ _ v (Lib.hid read7_any) hv (Or.inl ⟨h1, h2, rfl, rfl⟩) (Or.inl ⟨h3, h4, rfl, rfl⟩) h)

theorem e_all (a b p q c : Int) (w : World) (hL : Lens w) (h : PartIs eX a b p q c) : Calls Tryd.prog 12 #[.int .i64 a, .int .i64 b] w fun e w' => e = .returned (.tuple #[.agg #[.int .i64 p, .int .i64 q], .int .i64 c]) ∧ Below w.heap.size w w' := by
  rcases h with ⟨y1, m1, d1, y2, m2, d2, h1, ha, h2, hb, hab, hp, hq, rfl⟩ | ⟨h, rfl, rfl, rfl⟩ | ⟨h1, h2, h, rfl, rfl, rfl⟩
  · have k1 : cutD d1 = min d1 30 := by have := (ln_le y1 m1).2; have := h1.2.2.2.2.2; unfold cutD; rw [Int.min_def]; split <;> split <;> omega
    have k2 : cutD d2 = min d2 30 := by have := (ln_le y2 m2).2; have := h2.2.2.2.2.2; unfold cutD; rw [Int.min_def]; split <;> split <;> omega
    unfold eX at hp hq
    rw [k1, k2] at hp hq
    exact e_ok a b y1 m1 d1 y2 m2 d2 p q _ _ w hL (bo_ok a b y1 m1 d1 y2 m2 d2 h1 ha h2 hb hab) (pc_cut_cut y1 m1 d1 y2 m2 d2 _ _ p q _ _ h1 h2 rfl rfl hp hq)
  · exact e_no3 a b w hL (bo_out a b h)
  · exact e_no4 a b w hL (bo_gt a b h1 h2 h)

theorem isda_all (a b k p q c : Int) (w : World) (hL : Lens w) (h : PartIs (iX (decide (b = k))) a b p q c) : Calls Tryd.prog 14 #[.int .i64 a, .int .i64 b, .int .i64 k] w fun e w' => e = .returned (.tuple #[.agg #[.int .i64 p, .int .i64 q], .int .i64 c]) ∧ Below w.heap.size w w' := by
  rcases h with ⟨y1, m1, d1, y2, m2, d2, h1, ha, h2, hb, hab, hp, hq, rfl⟩ | ⟨h, rfl, rfl, rfl⟩ | ⟨h1, h2, h, rfl, rfl, rfl⟩
  · have k1 : fulD y1 m1 d1 = if decide (d1 = ln y1 m1) = true then 30 else d1 := by simp [fulD]
    have bo := bo_ok a b y1 m1 d1 y2 m2 d2 h1 ha h2 hb hab
    unfold iX at hp hq
    rw [k1] at hp hq
    by_cases hk : b = k
    · subst hk
      by_cases hm : m2 = 2
      · subst hm
        have k2 : isB (decide (b = b)) y2 2 d2 = d2 := by simp [isB]
        rw [k2] at hp hq
        exact isda_own a b y1 m1 d1 y2 d2 p q _ _ w hL bo (pc_full_own y1 m1 d1 y2 2 d2 _ _ p q _ _ h1 h2 rfl rfl hp hq)
      · have k2 : isB (decide (b = b)) y2 m2 d2 = if decide (d2 = ln y2 m2) = true then 30 else d2 := by simp [isB, hm]
        rw [k2] at hp hq
        exact isda_end a b y1 m1 d1 y2 m2 d2 p q _ _ w hL bo (pc_full_full y1 m1 d1 y2 m2 d2 _ _ p q _ _ h1 h2 rfl rfl hp hq) hm
    · have k2 : isB (decide (b = k)) y2 m2 d2 = if decide (d2 = ln y2 m2) = true then 30 else d2 := by simp [isB, hk]
      rw [k2] at hp hq
      exact isda_full a b y1 m1 d1 y2 m2 d2 k p q _ _ w hL bo (pc_full_full y1 m1 d1 y2 m2 d2 _ _ p q _ _ h1 h2 rfl rfl hp hq) hk
  · exact isda_no3 a b k w hL (bo_out a b h)
  · exact isda_no4 a b k w hL (bo_gt a b h1 h2 h)

theorem us_cut2 (y1 m1 d1 y2 m2 d2 : Int) (h1 : may y1 m1 d1) (h2 : may y2 m2 d2) (hd : d1 ≥ 30) : cutD d1 = min d1 30 ∧ usC d1 d2 = min d2 30 := by
  have := (ln_le y1 m1).2; have := h1.2.2.2.2.2; have := (ln_le y2 m2).2; have := h2.2.2.2.2.2
  unfold cutD usC; rw [Int.min_def, Int.min_def]
  refine ⟨?_, ?_⟩ <;> split <;> split <;> omega
theorem us_own2 (d1 d2 : Int) (hd : ¬ d1 ≥ 30) : cutD d1 = d1 ∧ usC d1 d2 = d2 := by
  unfold cutD usC
  refine ⟨?_, ?_⟩ <;> split <;> omega
theorem us_full2 (y2 m2 d2 : Int) (h2 : may y2 m2 d2) : usC 30 (if febB y2 m2 d2 = true then 30 else d2) = if decide (d2 = ln y2 m2) = true then 30 else d2 := by
  have a := (ln_le y2 m2).2; have b := h2.2.2.2.2.2; have c := h2.2.2.1; have d := h2.2.2.2.1
  unfold usC febB
  by_cases hl : d2 = ln y2 m2
  · by_cases hm : m2 = 2
    · simp [hl, hm]
    · have : ln y2 m2 = 30 ∨ ln y2 m2 = 31 := by unfold ln l0; rw [if_neg (fun h => hm h.1)]; omega
      simp [hl, hm]; omega
  · simp [hl]; omega

theorem us_all (a b p q c : Int) (t : Bool) (w : World) (hL : Lens w) (h : PartIs (uX t) a b p q c) : Calls Tryd.prog 10 #[.int .i64 a, .int .i64 b, .bool t] w fun e w' => e = .returned (.tuple #[.agg #[.int .i64 p, .int .i64 q], .int .i64 c]) ∧ Below w.heap.size w w' := by
  rcases h with ⟨y1, m1, d1, y2, m2, d2, h1, ha, h2, hb, hab, hp, hq, rfl⟩ | ⟨h, rfl, rfl, rfl⟩ | ⟨h1, h2, h, rfl, rfl, rfl⟩
  · have bo := bo_ok a b y1 m1 d1 y2 m2 d2 h1 ha h2 hb hab
    cases t
    · have e : uX false y1 m1 d1 y2 m2 d2 = px y1 m1 (cutD d1) y2 m2 (usC d1 d2) := by simp [uX, usA, usB]
      rw [e] at hp hq
      by_cases hd : d1 ≥ 30
      · obtain ⟨k1, k2⟩ := us_cut2 y1 m1 d1 y2 m2 d2 h1 h2 hd
        rw [k1, k2] at hp hq
        exact us_f_cut a b y1 m1 d1 y2 m2 d2 p q _ _ w hL bo (pc_cut_cut y1 m1 d1 y2 m2 d2 _ _ p q _ _ h1 h2 rfl rfl hp hq) hd
      · obtain ⟨k1, k2⟩ := us_own2 d1 d2 hd
        rw [k1, k2] at hp hq
        exact us_f_own a b y1 m1 d1 y2 m2 d2 p q _ _ w hL bo (pc_own_own y1 m1 d1 y2 m2 d2 _ _ p q _ _ h1 h2 rfl rfl hp hq) hd
    · cases hf : febB y1 m1 d1
      · have e : uX true y1 m1 d1 y2 m2 d2 = px y1 m1 (cutD d1) y2 m2 (usC d1 d2) := by simp [uX, usA, usB, hf]
        have hf2 : decide (m1 = 2 ∧ decide (d1 = ln y1 m1) = true) = false := by unfold febB at hf; simpa using hf
        rw [e] at hp hq
        by_cases hd : d1 ≥ 30
        · obtain ⟨k1, k2⟩ := us_cut2 y1 m1 d1 y2 m2 d2 h1 h2 hd
          rw [k1, k2] at hp hq
          exact us_t_cut a b y1 m1 d1 y2 m2 d2 p q _ _ w hL bo (pc_cut_cut y1 m1 d1 y2 m2 d2 _ _ p q _ _ h1 h2 rfl rfl hp hq) hf2 hd
        · obtain ⟨k1, k2⟩ := us_own2 d1 d2 hd
          rw [k1, k2] at hp hq
          exact us_t_own a b y1 m1 d1 y2 m2 d2 p q _ _ w hL bo (pc_own_own y1 m1 d1 y2 m2 d2 _ _ p q _ _ h1 h2 rfl rfl hp hq) hf2 hd
      · have e : uX true y1 m1 d1 y2 m2 d2 = px y1 m1 30 y2 m2 (usC 30 (if febB y2 m2 d2 = true then 30 else d2)) := by simp [uX, usA, usB, cutD, hf]
        have hf2 : decide (m1 = 2 ∧ decide (d1 = ln y1 m1) = true) = true := by unfold febB at hf; simpa using hf
        have k1 : (if decide (d1 = ln y1 m1) = true then 30 else d1) = 30 := by unfold febB at hf; have := of_decide_eq_true hf; simp [this.2]
        rw [e, us_full2 y2 m2 d2 h2] at hp hq
        exact us_t_full a b y1 m1 d1 y2 m2 d2 p q _ _ w hL bo (pc_full_full y1 m1 d1 y2 m2 d2 _ _ p q _ _ h1 h2 k1 rfl hp hq) hf2
  · exact us_no3 a b t w hL (bo_out a b h)
  · exact us_no4 a b t w hL (bo_gt a b h1 h2 h)

theorem ways : Ways := ⟨us_all, e_all, isda_all⟩
end Go.Proofs.YtkmjaoiehmddcaaDoor
