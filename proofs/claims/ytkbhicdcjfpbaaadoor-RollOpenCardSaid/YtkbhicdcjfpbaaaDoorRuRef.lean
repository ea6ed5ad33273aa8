/- The reference of layer 12: which rules may be, the day of a year by going through the month, shifted days, whether a day is one of three years'. Boxes of eight cells. -/
import Derived.Test.YtkbhicdcjfpbaaaDoorEaRef
import Derived.Test.YtkbhicdcjfpbaaaDoorRuNum
namespace Go.Proofs.YtkbhicdcjfpbaaaDoor
open Go.RowKit
set_option linter.unusedVariables false
set_option linter.unusedSimpArgs false

theorem Held.oct {w W : World} {fs : List Fact} (h : Held w fs W) (B : Nat) (x0 x1 x2 x3 x4 x5 x6 x7 : Value) (t : TypeId) (hB : W.heap.size = B) :
    Held w (.cell B 0 x0 :: .cell B 1 x1 :: .cell B 2 x2 :: .cell B 3 x3 :: .cell B 4 x4 :: .cell B 5 x5 :: .cell B 6 x6 :: .cell B 7 x7 :: .free B 0 :: .free B 1 :: .free B 2 :: .free B 3 :: .free B 4 :: .free B 5 :: .free B 6 :: .free B 7 :: fs) (W.alloc (.cells #[x0, x1, x2, x3, x4, x5, x6, x7] t)) := by
  subst hB
  exact ((((((((((((((((h.alloc _).add (f := .free W.heap.size 7) ⟨by simp, by simp [go_sem]⟩).add (f := .free W.heap.size 6) ⟨by simp, by simp [go_sem]⟩).add (f := .free W.heap.size 5) ⟨by simp, by simp [go_sem]⟩).add (f := .free W.heap.size 4) ⟨by simp, by simp [go_sem]⟩).add (f := .free W.heap.size 3) ⟨by simp, by simp [go_sem]⟩).add (f := .free W.heap.size 2) ⟨by simp, by simp [go_sem]⟩).add (f := .free W.heap.size 1) ⟨by simp, by simp [go_sem]⟩).add (f := .free W.heap.size 0) ⟨by simp, by simp [go_sem]⟩).add (f := .cell W.heap.size 7 x7) (by simp [Fact.at, World.cell?_alloc_new])).add (f := .cell W.heap.size 6 x6) (by simp [Fact.at, World.cell?_alloc_new])).add (f := .cell W.heap.size 5 x5) (by simp [Fact.at, World.cell?_alloc_new])).add (f := .cell W.heap.size 4 x4) (by simp [Fact.at, World.cell?_alloc_new])).add (f := .cell W.heap.size 3 x3) (by simp [Fact.at, World.cell?_alloc_new])).add (f := .cell W.heap.size 2 x2) (by simp [Fact.at, World.cell?_alloc_new])).add (f := .cell W.heap.size 1 x1) (by simp [Fact.at, World.cell?_alloc_new])).add (f := .cell W.heap.size 0 x0) (by simp [Fact.at, World.cell?_alloc_new])

theorem rin_any (n lo hi : Int) (w : World) : Calls Tryd.prog 39 #[.int .i64 n, .int .i64 lo, .int .i64 hi] w fun e w' => e = .returned (.bool (decide (lo ≤ n ∧ n ≤ hi))) ∧ w = w' := by
  go_enter Tryd.func39, Tryd.ntmps39
  go_wp2
  all_goals (go_ret; refine ⟨retB ?_, rfl⟩; rw [Bool.eq_iff_iff]; (try simp only [ge_iff_le, Bool.and_eq_true, decide_eq_true_eq, Bool.false_eq_true, false_iff, true_iff]); omega)
theorem rin_is (n lo hi : Int) (b : Bool) (w : World) (h : decide (lo ≤ n ∧ n ≤ hi) = b) : Calls Tryd.prog 39 #[.int .i64 n, .int .i64 lo, .int .i64 hi] w fun e w' => e = .returned (.bool b) ∧ Below w.heap.size w w' := by
  subst h; exact Calls.same (rin_any n lo hi w)
theorem rin_eq (n lo hi : Int) (b : Bool) (w : World) (h : decide (lo ≤ n ∧ n ≤ hi) = b) : Calls Tryd.prog 39 #[.int .i64 n, .int .i64 lo, .int .i64 hi] w fun e w' => e = .returned (.bool b) ∧ w = w' := by
  subst h; exact rin_any n lo hi w
theorem rlen_eq (y m l : Int) (w : World) (h : ln y m = l) : Calls Tryd.prog 37 #[.int .i64 y, .int .i64 m] w fun e w' => e = .returned (.int .i64 l) ∧ w = w' := by
  subst h; exact rlength_any y m w

set_option maxHeartbeats 1000000 in
theorem rumay_a (k m d q o s f t : Int) (b : Bool) (w : World) (h : ¬ ((0 ≤ k ∧ k ≤ 3) ∧ (0 ≤ s ∧ s ≤ 2) ∧ (1 ≤ f ∧ f ≤ t ∧ t ≤ 9999))) : Calls Tryd.prog 27 #[.agg #[.int .i64 k, .int .i64 m, .int .i64 d, .int .i64 q, .int .i64 o, .int .i64 s, .int .i64 f, .int .i64 t]] w fun e w' => e = .returned (.bool false) ∧ Below w.heap.size w w' := by
  have D : ∀ w : World, Below w.heap.size w (w.alloc (.cells #[.int .i64 k, .int .i64 m, .int .i64 d, .int .i64 q, .int .i64 o, .int .i64 s, .int .i64 f, .int .i64 t] 57)) := fun w => (Below.refl _ _).alloc (Nat.le_refl _) _
  go_enter Tryd.func27, Tryd.ntmps27
  go_wp2
  all_goals first | (exfalso; omega) | skip
  all_goals (go_ret; exact ⟨rfl, D _⟩)

set_option maxHeartbeats 1000000 in
theorem rumay_b (k m d q o s f t : Int) (b : Bool) (w : World) (h : (0 ≤ k ∧ k ≤ 3) ∧ (0 ≤ s ∧ s ≤ 2) ∧ (1 ≤ f ∧ f ≤ t ∧ t ≤ 9999)) (hk : k = 3) (hb : decide (-100 ≤ o ∧ o ≤ 250) = b) : Calls Tryd.prog 27 #[.agg #[.int .i64 k, .int .i64 m, .int .i64 d, .int .i64 q, .int .i64 o, .int .i64 s, .int .i64 f, .int .i64 t]] w fun e w' => e = .returned (.bool b) ∧ Below w.heap.size w w' := by
  have H := Held.start w
  have C := Lib.hid (fun v => rin_is o (-100) 250 b v hb)
  obtain ⟨⟨a1, a2⟩, ⟨a3, a4⟩, a5, a6, a7⟩ := h
  subst hk
  clear hb
  go_enter Tryd.func27, Tryd.ntmps27
  replace H := H.oct (w.heap.size) (.int .i64 3) (.int .i64 m) (.int .i64 d) (.int .i64 q) (.int .i64 o) (.int .i64 s) (.int .i64 f) (.int .i64 t) 57 rfl
  go_wp2_with fail
  (with_reducible refine (C.out _).mono ?_)
  rintro e w1 ⟨rfl, hb1⟩
  replace H := H.below hb1
  clear hb1
  go_wp2
  go_ret
  exact ⟨rfl, H.old⟩

set_option maxHeartbeats 1000000 in
theorem rumay_c (k m d q o s f t : Int) (b : Bool) (w : World) (h : (0 ≤ k ∧ k ≤ 3) ∧ (0 ≤ s ∧ s ≤ 2) ∧ (1 ≤ f ∧ f ≤ t ∧ t ≤ 9999)) (hk : k ≠ 3) (hm : ¬ (1 ≤ m ∧ m ≤ 12)) : Calls Tryd.prog 27 #[.agg #[.int .i64 k, .int .i64 m, .int .i64 d, .int .i64 q, .int .i64 o, .int .i64 s, .int .i64 f, .int .i64 t]] w fun e w' => e = .returned (.bool false) ∧ Below w.heap.size w w' := by
  have D : ∀ w : World, Below w.heap.size w (w.alloc (.cells #[.int .i64 k, .int .i64 m, .int .i64 d, .int .i64 q, .int .i64 o, .int .i64 s, .int .i64 f, .int .i64 t] 57)) := fun w => (Below.refl _ _).alloc (Nat.le_refl _) _
  have hk2 : (k == 3) = false := by simpa using hk
  go_enter Tryd.func27, Tryd.ntmps27
  go_wp2
  all_goals first | (exfalso; omega) | skip
  all_goals (go_ret; exact ⟨rfl, D _⟩)

set_option maxHeartbeats 1000000 in
theorem rumay_d (k m d q o s f t : Int) (b : Bool) (w : World) (h : (0 ≤ k ∧ k ≤ 3) ∧ (0 ≤ s ∧ s ≤ 2) ∧ (1 ≤ f ∧ f ≤ t ∧ t ≤ 9999)) (hk : k = 0) (hm : 1 ≤ m ∧ m ≤ 12) (hb : decide (1 ≤ d ∧ d ≤ ln 2000 m) = b) : Calls Tryd.prog 27 #[.agg #[.int .i64 k, .int .i64 m, .int .i64 d, .int .i64 q, .int .i64 o, .int .i64 s, .int .i64 f, .int .i64 t]] w fun e w' => e = .returned (.bool b) ∧ Below w.heap.size w w' := by
  have H := Held.start w
  obtain ⟨l, HB⟩ : ∃ l, Hid (ln 2000 m = l) := ⟨_, Lib.hid rfl⟩
  rw [HB.out] at hb
  have C1 := Lib.hid (fun v => rlen_eq 2000 m l v HB.out)
  have C2 := Lib.hid (fun v => rin_eq d 1 l b v hb)
  obtain ⟨⟨a1, a2⟩, ⟨a3, a4⟩, a5, a6, a7⟩ := h
  obtain ⟨m1, m2⟩ := hm
  subst hk
  clear hb
  go_enter Tryd.func27, Tryd.ntmps27
  replace H := H.oct (w.heap.size) (.int .i64 0) (.int .i64 m) (.int .i64 d) (.int .i64 q) (.int .i64 o) (.int .i64 s) (.int .i64 f) (.int .i64 t) 57 rfl
  have c0 := H.cell (w.heap.size) 0 (.int .i64 0) (List.Mem.head _)
  have c1 := H.cell (w.heap.size) 1 (.int .i64 m) (List.Mem.tail _ (List.Mem.head _))
  have c2 := H.cell (w.heap.size) 2 (.int .i64 d) (List.Mem.tail _ (List.Mem.tail _ (List.Mem.head _)))
  have c3 := H.cell (w.heap.size) 3 (.int .i64 q) (List.Mem.tail _ (List.Mem.tail _ (List.Mem.tail _ (List.Mem.head _))))
  have c4 := H.cell (w.heap.size) 4 (.int .i64 o) (List.Mem.tail _ (List.Mem.tail _ (List.Mem.tail _ (List.Mem.tail _ (List.Mem.head _)))))
  have c5 := H.cell (w.heap.size) 5 (.int .i64 s) (List.Mem.tail _ (List.Mem.tail _ (List.Mem.tail _ (List.Mem.tail _ (List.Mem.tail _ (List.Mem.head _))))))
  have c6 := H.cell (w.heap.size) 6 (.int .i64 f) (List.Mem.tail _ (List.Mem.tail _ (List.Mem.tail _ (List.Mem.tail _ (List.Mem.tail _ (List.Mem.tail _ (List.Mem.head _)))))))
  have c7 := H.cell (w.heap.size) 7 (.int .i64 t) (List.Mem.tail _ (List.Mem.tail _ (List.Mem.tail _ (List.Mem.tail _ (List.Mem.tail _ (List.Mem.tail _ (List.Mem.tail _ (List.Mem.head _))))))))
  have lc := H.lt (w.heap.size) 0 (.int .i64 0) (List.Mem.head _)
  have HK := H.old
  clear H
  go_wp2_with fail
  go_quiet (first | (go_at_call 37; with_reducible exact quietLeft (C1.out _)) | (go_at_call 39; with_reducible exact quietLeft (C2.out _)))
  go_wp2
  go_ret
  exact ⟨rfl, belowDrewN HK _⟩

set_option maxHeartbeats 1000000 in
theorem rumay_e (k m d q o s f t : Int) (b : Bool) (w : World) (h : (0 ≤ k ∧ k ≤ 3) ∧ (0 ≤ s ∧ s ≤ 2) ∧ (1 ≤ f ∧ f ≤ t ∧ t ≤ 9999)) (hk : k = 1 ∨ k = 2) (hm : 1 ≤ m ∧ m ≤ 12) (d2 : Bool) (hd : decide (0 ≤ d ∧ d ≤ 6) = d2) (q2 : Bool) (hq : decide (1 ≤ q ∧ q ≤ 5) = q2) : Calls Tryd.prog 27 #[.agg #[.int .i64 k, .int .i64 m, .int .i64 d, .int .i64 q, .int .i64 o, .int .i64 s, .int .i64 f, .int .i64 t]] w fun e w' => e = .returned (.bool (d2 && (k == 2 || q2))) ∧ Below w.heap.size w w' := by
  have H := Held.start w
  have C1 := Lib.hid (fun v => rin_is d 0 6 d2 v hd)
  have C2 := Lib.hid (fun v => rin_is q 1 5 q2 v hq)
  obtain ⟨⟨a1, a2⟩, ⟨a3, a4⟩, a5, a6, a7⟩ := h
  obtain ⟨m1, m2⟩ := hm
  clear hd hq
  go_enter Tryd.func27, Tryd.ntmps27
  replace H := H.oct (w.heap.size) (.int .i64 k) (.int .i64 m) (.int .i64 d) (.int .i64 q) (.int .i64 o) (.int .i64 s) (.int .i64 f) (.int .i64 t) 57 rfl
  go_wp2_with fail
  (with_reducible refine (C1.out _).mono ?_)
  rintro e w1 ⟨rfl, hb1⟩
  replace H := H.below hb1
  clear hb1
  have c0 := H.cell (w.heap.size) 0 (.int .i64 k) (List.Mem.head _)
  have c1 := H.cell (w.heap.size) 1 (.int .i64 m) (List.Mem.tail _ (List.Mem.head _))
  have c2 := H.cell (w.heap.size) 2 (.int .i64 d) (List.Mem.tail _ (List.Mem.tail _ (List.Mem.head _)))
  have c3 := H.cell (w.heap.size) 3 (.int .i64 q) (List.Mem.tail _ (List.Mem.tail _ (List.Mem.tail _ (List.Mem.head _))))
  have c4 := H.cell (w.heap.size) 4 (.int .i64 o) (List.Mem.tail _ (List.Mem.tail _ (List.Mem.tail _ (List.Mem.tail _ (List.Mem.head _)))))
  have c5 := H.cell (w.heap.size) 5 (.int .i64 s) (List.Mem.tail _ (List.Mem.tail _ (List.Mem.tail _ (List.Mem.tail _ (List.Mem.tail _ (List.Mem.head _))))))
  have c6 := H.cell (w.heap.size) 6 (.int .i64 f) (List.Mem.tail _ (List.Mem.tail _ (List.Mem.tail _ (List.Mem.tail _ (List.Mem.tail _ (List.Mem.tail _ (List.Mem.head _)))))))
  have c7 := H.cell (w.heap.size) 7 (.int .i64 t) (List.Mem.tail _ (List.Mem.tail _ (List.Mem.tail _ (List.Mem.tail _ (List.Mem.tail _ (List.Mem.tail _ (List.Mem.tail _ (List.Mem.head _))))))))
  cases d2
  · go_wp2
    go_ret
    exact ⟨rfl, H.old⟩
  · rcases hk with rfl | rfl
    · go_wp2_with fail
      (with_reducible refine (C2.out _).mono ?_)
      rintro e w2 ⟨rfl, hb1⟩
      replace H := H.below hb1
      clear hb1
      go_wp2
      go_ret
      exact ⟨rfl, H.old⟩
    · go_wp2
      go_ret
      exact ⟨rfl, H.old⟩

theorem rumay_any (k m d q o s f t : Int) (b : Bool) (w : World) (hb : Ru.mb ⟨k, m, d, q, o, s, f, t⟩ = b) : Calls Tryd.prog 27 #[.agg #[.int .i64 k, .int .i64 m, .int .i64 d, .int .i64 q, .int .i64 o, .int .i64 s, .int .i64 f, .int .i64 t]] w fun e w' => e = .returned (.bool b) ∧ Below w.heap.size w w' := by
  by_cases h : (0 ≤ k ∧ k ≤ 3) ∧ (0 ≤ s ∧ s ≤ 2) ∧ (1 ≤ f ∧ f ≤ t ∧ t ≤ 9999)
  · by_cases h3 : k = 3
    · have e : decide (-100 ≤ o ∧ o ≤ 250) = b := by
        rw [← hb]; unfold Ru.mb; rw [decide_eq_decide]
        refine ⟨fun a => ⟨h.1, h.2.1, h.2.2, fun _ => a, fun c => absurd h3 c, fun c => ?_, fun c => ?_, fun c => ?_⟩, fun a => a.2.2.2.1 h3⟩ <;> (simp only at c; omega)
      exact rumay_b _ _ _ _ _ _ _ _ _ w h h3 e
    · by_cases hm : 1 ≤ m ∧ m ≤ 12
      · by_cases h0 : k = 0
        · have e : decide (1 ≤ d ∧ d ≤ ln 2000 m) = b := by
            rw [← hb]; unfold Ru.mb; rw [decide_eq_decide]
            refine ⟨fun a => ⟨h.1, h.2.1, h.2.2, fun c => absurd c h3, fun _ => hm, fun _ => a, fun c => ?_, fun c => ?_⟩, fun a => a.2.2.2.2.2.1 h0⟩ <;> (simp only at c; omega)
          exact rumay_d _ _ _ _ _ _ _ _ _ w h h0 hm e
        · have h12 : k = 1 ∨ k = 2 := by omega
          have e : (decide (0 ≤ d ∧ d ≤ 6) && (k == 2 || decide (1 ≤ q ∧ q ≤ 5))) = b := by
            rw [← hb, Bool.eq_iff_iff]
            unfold Ru.mb
            simp only [Bool.and_eq_true, Bool.or_eq_true, decide_eq_true_eq, beq_iff_eq]
            refine ⟨fun a => ⟨h.1, h.2.1, h.2.2, fun c => absurd c h3, fun _ => hm, fun c => absurd c h0, fun _ => a.1, fun c => ?_⟩, fun a => ⟨a.2.2.2.2.2.2.1 h12, ?_⟩⟩
            · simp only at c; rcases a.2 with x | x
              · omega
              · exact x
            · rcases h12 with x | x
              · exact Or.inr (a.2.2.2.2.2.2.2 x)
              · exact Or.inl x
          rw [← e]
          exact rumay_e _ _ _ _ _ _ _ _ true w h h12 hm _ rfl _ rfl
      · have e : Ru.mb ⟨k, m, d, q, o, s, f, t⟩ = false := ru_no (fun a => hm (a.2.2.2.2.1 h3))
        rw [← hb, e]
        exact rumay_c _ _ _ _ _ _ _ _ true w h h3 hm
  · have e : Ru.mb ⟨k, m, d, q, o, s, f, t⟩ = false := ru_no (fun a => h ⟨a.1, a.2.1, a.2.2.1⟩)
    rw [← hb, e]
    exact rumay_a _ _ _ _ _ _ _ _ true w h
end Go.Proofs.YtkbhicdcjfpbaaaDoor
