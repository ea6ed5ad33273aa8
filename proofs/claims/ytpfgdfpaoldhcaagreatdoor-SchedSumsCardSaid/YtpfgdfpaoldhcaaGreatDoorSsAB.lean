/- Several texts in one: ScSumNum. -/
import Derived.Test.YtpfgdfpaoldhcaaGreatDoorSrBF
import Derived.Test.YtpfgdfpaoldhcaaGreatDoorSsAA
set_option maxHeartbeats 8000000
set_option maxRecDepth 100000
set_option linter.unusedVariables false
set_option linter.unusedSimpArgs false
namespace Go.Proofs.YtpfgdfpaoldhcaaGreatDoor
theorem AcIs.same {X : Int → Int → Int → Int → Int → Int → Int} {k a b p q c p' q' c' : Int} (h : AcIs X k a b p q c) (g : AcIs X k a b p' q' c') : p = p' ∧ q = q' ∧ c = c' := by
 rcases h with ⟨y1, m1, d1, y2, m2, d2, h1, h2, h3, h4, h5, h6, h7, h8⟩ | ⟨h1, h2, h3, h4⟩ | ⟨h1, h2, h3, h4, h5, h6⟩ <;> rcases g with ⟨z1, n1, e1, z2, n2, e2, g1, g2, g3, g4, g5, g6, g7, g8⟩ | ⟨g1, g2, g3, g4⟩ | ⟨g1, g2, g3, g4, g5, g6⟩
 ·obtain ⟨rfl, rfl, rfl⟩ := nb_inj _ _ _ _ _ _ h1 g1 (h2.trans g2.symm)
  obtain ⟨rfl, rfl, rfl⟩ := nb_inj _ _ _ _ _ _ h3 g3 (h4.trans g4.symm)
  exact ⟨h6.symm.trans g6, h7.symm.trans g7, h8.trans g8.symm⟩
 ·have a1 := zAd _ _ _ h1
  have a2 := zAd _ _ _ h3
  omega
 ·omega
 ·have a1 := zAd _ _ _ g1
  have a2 := zAd _ _ _ g3
  omega
 ·exact ⟨h2.trans g2.symm, h3.trans g3.symm, h4.trans g4.symm⟩
 ·omega
 ·omega
 ·omega
 ·exact ⟨h4.trans g4.symm, h5.trans g5.symm, h6.trans g6.symm⟩
theorem IcIs.same {X : Nat → Int} {n : Nat} {f a b p q c p' q' c' : Int} (h : IcIs X n f a b p q c) (g : IcIs X n f a b p' q' c') : p = p' ∧ q = q' ∧ c = c' := by
 rcases h with ⟨h1, h2, h3, h4⟩ | ⟨h1, h5, h2, h3, h4⟩ | ⟨h1, h5, h6, h2, h3, h4⟩ | ⟨h1, h5, h6, h2, h3, h4⟩ <;> rcases g with ⟨g1, g2, g3, g4⟩ | ⟨g1, g5, g2, g3, g4⟩ | ⟨g1, g5, g6, g2, g3, g4⟩ | ⟨g1, g5, g6, g2, g3, g4⟩ <;> first
  | exact ⟨h2.trans g2.symm, h3.trans g3.symm, h4.trans g4.symm⟩
  | exact absurd g1 h1
  | exact absurd h1 g1
  | exact absurd g6 h6
  | exact absurd h6 g6
  | (exfalso; omega)
theorem CoIs.same {k a b : Int} {t : Bool} {en f : Int} {X : Nat → Int} {n : Nat} {p q c p' q' c' : Int} (hk : 3 ≤ k ∧ k ≤ 6) (h : CoIs k a b t en f X n p q c) (g : CoIs k a b t en f X n p' q' c') : p = p' ∧ q = q' ∧ c = c' := by
 rcases h with ⟨e, h⟩ | ⟨e, h⟩ | ⟨e, h⟩ | ⟨e, h⟩ | ⟨e, h⟩ | ⟨e, h⟩ | ⟨e, h⟩ | ⟨e, -⟩ <;> rcases g with ⟨d, g⟩ | ⟨d, g⟩ | ⟨d, g⟩ | ⟨d, g⟩ | ⟨d, g⟩ | ⟨d, g⟩ | ⟨d, g⟩ | ⟨d, -⟩ <;> first
  | (exfalso; omega)
  | exact AcIs.same h g
  | exact IcIs.same h g
theorem CoIs.side6 {a b : Int} {t : Bool} {en f : Int} {X : Nat → Int} {n : Nat} {p q : Int} (h : CoIs 6 a b t en f X n p q 0) : MayX X n f ∧ X 0 ≤ a ∧ b ≤ X (n - 1) := by
 rcases h with ⟨e, -⟩ | ⟨e, -⟩ | ⟨e, -⟩ | ⟨e, -⟩ | ⟨e, -⟩ | ⟨e, -⟩ | ⟨-, h⟩ | ⟨e, -⟩
 all_goals first | (exfalso; omega) | skip
 rcases h with ⟨-, -, -, e⟩ | ⟨-, -, -, -, e⟩ | ⟨-, -, -, -, -, e⟩ | ⟨-, -, h, -⟩
 all_goals first | (exfalso; omega) | exact h
structure PlFine (x : Pl) (t : Tm) : Prop where
 day : ∀ i, i < x.q + 2 → 1 ≤ x.V i ∧ x.V i ≤ 3652059
 rise : ∀ i, i + 1 < x.q + 2 → x.V i ≤ x.V (i + 1)
 part : ∀ i, i < x.q + 1 → CoIs t.co (x.V i) (x.V (i + 1)) t.eo (x.V (x.q + 1)) (fr t.ms) x.GV (x.ns t) (x.P i) (x.Q i) 0
theorem PlanIs.fine17 {x : Pl} {t : Tm} {c : Ca} (p : PlanIs t c x) (hc : x.code t = 0) : PlFine x t := by
 obtain ⟨h0, hC, hG, hP⟩ := Pl.good hc
 refine ⟨fun i hi => ?_, fun i hi => p.rolls h0 hC hi, fun i hi => ?_⟩
 ·have h := p.roll i hi
  rw [hC i hi] at h
  exact ⟨h.day, h.bd.2⟩
 ·have h := p.part i hi
  rw [hP i hi] at h
  exact h
theorem PlFine.up {x : Pl} {t : Tm} (h : PlFine x t) {i j : Nat} (hij : i ≤ j) (hj : j < x.q + 2) : x.V i ≤ x.V j := by
 induction j with
 | zero => rw [show i = 0 by omega]; omega
 | succ j ih =>
  by_cases e : i = j + 1
  ·rw [e]; omega
  ·have := ih zo zo
   have := h.rise j zo
   omega
theorem PlFine.side {x : Pl} {t : Tm} (h : PlFine x t) (h6 : t.co = 6) : MayX x.GV (x.ns t) (fr t.ms) ∧ x.GV 0 ≤ x.V 0 ∧ x.V (x.q + 1) ≤ x.GV (x.ns t - 1) := by
 have a := h.part 0 zo
 have b := h.part x.q zo
 rw [h6] at a b
 exact ⟨a.side6.1, a.side6.2.1, b.side6.2.2⟩
theorem PlFine.all {x : Pl} {t : Tm} (h : PlFine x t) (hk : 3 ≤ t.co ∧ t.co ≤ 6) {j : Nat} (hj : j < x.q + 2) : ∃ p q, CoIs t.co (x.V 0) (x.V j) t.eo (x.V (x.q + 1)) (fr t.ms) x.GV (x.ns t) p q 0 := by
 obtain ⟨p, q, g, -⟩ := co_told (k := t.co) (a := x.V 0) (b := x.V j) (t := t.eo) (en := x.V (x.q + 1)) (f := fr t.ms) (X := x.GV) (n := x.ns t) zo (h.day 0 zo) (h.day j hj) (h.up (Nat.zero_le j) hj) (fun e => by
  obtain ⟨a, b, c⟩ := h.side e
  have := h.up (show j ≤ x.q + 1 by omega) zo
  exact ⟨a, b, zo⟩)
 exact ⟨p, q, g⟩
theorem PlFine.sums {x : Pl} {t : Tm} (h : PlFine x t) (hk : 3 ≤ t.co ∧ t.co ≤ 6) : ∃ U W : Nat → Int, U 0 = 0 ∧ W 0 = 1 ∧
    (∀ i, i < x.q + 1 → zAi (U i) (W i) = true ∧ zAi (x.P i) (x.Q i) = true ∧ rN (U i * x.Q i + x.P i * W i) (W i * x.Q i) = U (i + 1) ∧ rD (U i * x.Q i + x.P i * W i) (W i * x.Q i) = W (i + 1) ∧ rE (U i * x.Q i + x.P i * W i) (W i * x.Q i) = 0) ∧
    CoIs t.co (x.V 0) (x.V (x.q + 1)) t.eo (x.V (x.q + 1)) (fr t.ms) x.GV (x.ns t) (U (x.q + 1)) (W (x.q + 1)) 0 := by
  have key : ∀ j : Nat, ∃ u : Int × Int, j < x.q + 2 → CoIs t.co (x.V 0) (x.V j) t.eo (x.V (x.q + 1)) (fr t.ms) x.GV (x.ns t) u.1 u.2 0 := fun j => by
    by_cases hj : j < x.q + 2
    · obtain ⟨p, q, g⟩ := h.all hk hj
      exact ⟨(p, q), fun _ => g⟩
    · exact ⟨(0, 0), fun g => absurd g hj⟩
  obtain ⟨F, hF⟩ := Classical.axiomOfChoice key
  have z := hF 0 zo
  have z0 : CoIs t.co (x.V 0) (x.V 0) t.eo (x.V (x.q + 1)) (fr t.ms) x.GV (x.ns t) 0 1 0 := co_same zo (h.day 0 zo) (fun e => by
    obtain ⟨a, b, c⟩ := h.side e
    have := h.up (show 0 ≤ x.q + 1 by omega) zo
    exact ⟨a, b, zo⟩)
  obtain ⟨z1, z2, -⟩ := z.same hk z0
  refine ⟨fun j => (F j).1, fun j => (F j).2, z1, z2, fun i hi => ?_, hF (x.q + 1) zo⟩
  have u0 := h.up (Nat.zero_le i) (show i < x.q + 2 by omega)
  have u1 := h.rise i zo
  have A : Adds t.co (x.V 0) (x.V i) (x.V (i + 1)) t.eo (x.V (x.q + 1)) (fr t.ms) x.GV (x.ns t) := by
    by_cases h6 : t.co = 6
    · obtain ⟨a, b, c⟩ := h.side h6
      obtain ⟨m, hm⟩ : ∃ m, x.ns t = m + 1 := ⟨x.ns t - 1, by have := a.1; omega⟩
      rw [hm] at a c ⊢
      rw [h6]
      have := h.up (show i + 1 ≤ x.q + 1 by omega) zo
      exact co_adds6 a b u0 u1 (by have : m + 1 - 1 = m := zo
                                   rw [this] at c; omega)
    · exact co_adds zo (h.day 0 zo) (h.day i zo) (h.day (i + 1) zo) u0 u1
  obtain ⟨p, q, r, s, u, v, g1, g2, g3, g4, g5, g6, g7, g8⟩ := A
  obtain ⟨rfl, rfl, -⟩ := (hF i zo).same hk g1
  obtain ⟨rfl, rfl, -⟩ := (h.part i hi).same hk g2
  obtain ⟨rfl, rfl, -⟩ := (hF (i + 1) zo).same hk g3
  exact ⟨g4, g5, g6, g7, g8⟩
theorem vP_whole (X : Nat → Int) (f : Int) {j N : Nat} (hX : Rising X (N + 1)) (hj : j < N) (hlt : X j < X (j + 1)) : ∀ n, n ≤ N → vP X n f (X j) (X (j + 1)) = if j < n then (1 : Rat) / (f : Rat) else 0 := by
 intro n
 induction n with
 | zero => intro _; rw [zMd, if_neg zo]
 | succ n ih =>
  intro hn
  rw [zH7, ih zo]
  by_cases h1 : j < n
  ·have a := hX.le (show j + 1 ≤ n by omega) zo
   rw [if_pos h1, if_pos zo, tm_ahead (show X (j + 1) ≤ X n by omega), tm_ahead (show X j ≤ X n by omega)]
   simp [Rat.div_def, Rat.add_zero, Rat.sub_self, Rat.zero_mul]
  ·by_cases h2 : j = n
   ·subst h2
    rw [if_neg h1, if_pos zo, tm_past (Int.le_refl _) hlt, tm_ahead (Int.le_refl _)]
    rw [Rat.zero_add, show (1 : Rat) - 0 = 1 by grind]
   ·rw [if_neg h1, if_neg zo]
    have b := hX.le (show n + 1 ≤ j by omega) zo
    by_cases h3 : X n < X (n + 1)
    ·rw [tm_past (show X (n + 1) ≤ X (j + 1) by omega) h3, tm_past b h3]
     simp [Rat.div_def, Rat.add_zero, Rat.sub_self, Rat.zero_mul]
    ·rw [tm_none zo, tm_none zo]
     simp [Rat.div_def, Rat.add_zero, Rat.sub_self, Rat.zero_mul]
theorem fr_part {m : Int} (h : Mo m) : ((1 : Rat) / ((fr m : Int) : Rat)).num = 1 ∧ (((1 : Rat) / ((fr m : Int) : Rat)).den : Int) = fr m := by
 rcases h with rfl | rfl | rfl | rfl | rfl | rfl <;> decide +kernel
theorem fr_div {m : Int} (h : Mo m) : Int.tdiv 12 m = fr m := by
 rcases h with rfl | rfl | rfl | rfl | rfl | rfl <;> decide
theorem fr_in {m : Int} (h : Mo m) : 1 ≤ fr m ∧ fr m ≤ 12 := by
 rcases h with rfl | rfl | rfl | rfl | rfl | rfl <;> decide
theorem PlanIs.mid {x : Pl} {t : Tm} {c : Ca} (p : PlanIs t c x) (hc : x.code t = 0) (h6 : t.co = 6) {i : Nat} (h1 : 1 ≤ i) (h2 : i < x.q) : ∃ j, j + 1 < x.ns t ∧ x.V i = x.GV j ∧ x.V (i + 1) = x.GV (j + 1) := by
 obtain ⟨h0, hC, hG, hP⟩ := Pl.good hc
 have w := p.walk h0
 have hq := p.qm h0
 have hK := zJd x.E x.m
 have one := w.one
 have ns : x.ns t = x.K := by unfold Pl.ns; rw [if_pos h6]
 have eK : x.K = gl x.E x.m := rfl
 have at1 : ∀ {i j : Nat}, 1 ≤ i → i ≤ x.q → j < x.K → (if t.bk = true then x.q + 1 - i else i) = (if t.bk = true then x.K - 1 - j else j) → x.V i = x.GV j := fun {i j} a1 a2 hj e => by
  have r1 := p.roll i zo
  have r2 := p.grid j hj
  have d1 : t.dd x.X x.q i = x.G t j := by
   rw [w.dd_step zo (fun g => by omega) (fun g => by omega)]
   unfold Pl.G
   rw [t.grid_at x.X hj, e]
  rw [d1] at r1
  exact (r1.same r2).1
 rw [ns]
 by_cases b : t.bk = true
 ·refine ⟨x.K - 1 - (x.q + 1 - i), zo, at1 h1 zo zo ?_, at1 zo zo zo ?_⟩
  ·rw [if_pos b, if_pos b]; omega
  ·rw [if_pos b, if_pos b]; omega
 ·refine ⟨i, zo, at1 h1 zo zo ?_, at1 zo zo zo ?_⟩
  ·rw [if_neg b, if_neg b]
  ·rw [if_neg b, if_neg b]
theorem PlanIs.whole {x : Pl} {t : Tm} {c : Ca} (p : PlanIs t c x) (hc : x.code t = 0) (h6 : t.co = 6) {i : Nat} (h1 : 1 ≤ i) (h2 : i < x.q) (hV : x.V i < x.V (i + 1)) : x.P i = 1 ∧ x.Q i = fr t.ms := by
 obtain ⟨h0, hC, hG, hP⟩ := Pl.good hc
 have F := p.fine17 hc
 obtain ⟨j, hj, e1, e2⟩ := p.mid hc h6 h1 h2
 obtain ⟨hM, hS, hE⟩ := F.side h6
 have hp := F.part i zo
 have u1 := F.up (Nat.zero_le i) (show i < x.q + 2 by omega)
 have u2 := F.up (show i + 1 ≤ x.q + 1 by omega) zo
 have ok := ic_ok (a := x.V i) (b := x.V (i + 1)) zo hM zo zo
 have g : CoIs t.co (x.V i) (x.V (i + 1)) t.eo (x.V (x.q + 1)) (fr t.ms) x.GV (x.ns t) _ _ 0 := Or.inr (Or.inr (Or.inr (Or.inr (Or.inr (Or.inr (Or.inl ⟨h6, ok⟩))))))
 obtain ⟨a1, a2, -⟩ := hp.same zo g
 have hR := hM.2.2.2.1
 have n1 : x.ns t - 1 + 1 = x.ns t := zo
 have v := vP_whole x.GV (fr t.ms) (j := j) (N := x.ns t - 1) (by rw [n1]; exact hR) zo zo (x.ns t - 1) (Nat.le_refl _)
 rw [if_pos zo, ← e1, ← e2] at v
 rw [a1, a2, v]
 exact fr_part (t.of_zero h0).1.2.2.2
end Go.Proofs.YtpfgdfpaoldhcaaGreatDoor
