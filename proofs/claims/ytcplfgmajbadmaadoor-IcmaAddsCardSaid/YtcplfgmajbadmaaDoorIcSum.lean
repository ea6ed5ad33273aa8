/- Plain numbers of layer 9: the shares of periods, their sum step by step; what Part tells. -/
import Derived.Test.YtcplfgmajbadmaaDoorIcNum
namespace Go.Proofs.YtcplfgmajbadmaaDoor
set_option linter.unusedVariables false
set_option linter.unusedSimpArgs false

/-- A share: some of a period's days, and all of them. -/
abbrev Sh := { p : Int × Int // 0 < p.1 ∧ p.1 ≤ p.2 ∧ p.2 ≤ 3652058 }
/-- The shares of the first n periods. -/
def sh (X : Nat → Int) (a b : Int) : Nat → List Sh
  | 0 => []
  | n + 1 => sh X a b n ++ (if h : 0 < dy a b (X n) (X (n + 1)) ∧ dy a b (X n) (X (n + 1)) ≤ X (n + 1) - X n ∧ X (n + 1) - X n ≤ 3652058 then [⟨(dy a b (X n) (X (n + 1)), X (n + 1) - X n), h⟩] else [])
theorem sh_yes {X : Nat → Int} {a b : Int} {n : Nat} (h : 0 < dy a b (X n) (X (n + 1)) ∧ dy a b (X n) (X (n + 1)) ≤ X (n + 1) - X n ∧ X (n + 1) - X n ≤ 3652058) : sh X a b (n + 1) = sh X a b n ++ [⟨(dy a b (X n) (X (n + 1)), X (n + 1) - X n), h⟩] := by
  show sh X a b n ++ _ = _
  rw [dif_pos h]
theorem sh_no {X : Nat → Int} {a b : Int} {n : Nat} (h : ¬ 0 < dy a b (X n) (X (n + 1))) : sh X a b (n + 1) = sh X a b n := by
  show sh X a b n ++ _ = _
  rw [dif_neg (fun k => h k.1), List.append_nil]
theorem sh_len (X : Nat → Int) (a b : Int) : ∀ n, (sh X a b n).length ≤ n := by
  intro n
  induction n with
  | zero => simp [sh]
  | succ n ih =>
    show (sh X a b n ++ _).length ≤ _
    rw [List.length_append]
    split <;> simp <;> omega
theorem sh_mono (X : Nat → Int) (a b : Int) {n m : Nat} (h : n ≤ m) : sh X a b n <+: sh X a b m := by
  induction m with
  | zero => obtain rfl : n = 0 := by omega
            exact List.prefix_rfl
  | succ m ih =>
    by_cases e : n = m + 1
    · subst e; exact List.prefix_rfl
    · exact (ih (by omega)).trans (List.prefix_append _ _)

/-- Two fractions added, whatever they are: nothing, if one isn't right, or it is too great. -/
def aN (an ad bn bd : Int) : Int := if rightB an ad = true ∧ rightB bn bd = true then rN (an * bd + bn * ad) (ad * bd) else 0
def aD (an ad bn bd : Int) : Int := if rightB an ad = true ∧ rightB bn bd = true then rD (an * bd + bn * ad) (ad * bd) else 0
def aE (an ad bn bd : Int) : Int := if rightB an ad = true ∧ rightB bn bd = true then rE (an * bd + bn * ad) (ad * bd) else 1
/-- A share more. -/
def add1 (f : Int) (s : Int × Int) (x : Sh) : Int × Int := (aN s.1 s.2 (rN x.1.1 (f * x.1.2)) (rD x.1.1 (f * x.1.2)), aD s.1 s.2 (rN x.1.1 (f * x.1.2)) (rD x.1.1 (f * x.1.2)))
def sumSh (f : Int) (S : List Sh) : Int × Int := S.foldl (add1 f) (0, 1)
theorem sumSh_snoc (f : Int) (S : List Sh) (x : Sh) : sumSh f (S ++ [x]) = add1 f (sumSh f S) x := by simp [sumSh]
theorem r_in (n d : Int) (hn : 0 ≤ n) (hd : 0 < d) : (0 ≤ rN n d ∧ rN n d ≤ 4611686018427387904) ∧ (0 ≤ rD n d ∧ rD n d ≤ 4611686018427387904) := by
  have h := r_bd n d hn hd
  omega
theorem a_in (an ad bn bd : Int) : (0 ≤ aN an ad bn bd ∧ aN an ad bn bd ≤ 4611686018427387904) ∧ (0 ≤ aD an ad bn bd ∧ aD an ad bn bd ≤ 4611686018427387904) := by
  unfold aN aD
  by_cases h : rightB an ad = true ∧ rightB bn bd = true
  · rw [if_pos h, if_pos h]
    obtain ⟨h1, h2⟩ := h
    rw [right_iff] at h1 h2
    have e1 := Int.mul_nonneg h1.1 (show (0 : Int) ≤ bd by omega)
    have e2 := Int.mul_nonneg h2.1 (show (0 : Int) ≤ ad by omega)
    exact r_in _ _ (by omega) (Int.mul_pos (by omega) (by omega))
  · rw [if_neg h, if_neg h]; omega
theorem sum_in (f : Int) (S : List Sh) : (0 ≤ (sumSh f S).1 ∧ (sumSh f S).1 ≤ 4611686018427387904) ∧ (0 ≤ (sumSh f S).2 ∧ (sumSh f S).2 ≤ 4611686018427387904) := by
  rcases List.eq_nil_or_concat S with rfl | ⟨S', x, rfl⟩
  · simp [sumSh]
  · rw [List.concat_eq_append, sumSh_snoc]
    exact a_in _ _ _ _
theorem share_bd (f : Int) (x : Sh) (hf : 1 ≤ f ∧ f ≤ 12) : 0 < f * x.1.2 ∧ f * x.1.2 ≤ 43824696 := by
  have h := x.2
  refine ⟨Int.mul_pos (by omega) (by omega), ?_⟩
  have := Int.mul_le_mul hf.2 h.2.2 (by omega) (by omega)
  omega

/-- A share, in lowest terms. -/
theorem share_is (f : Int) (x : Sh) (hf : 1 ≤ f ∧ f ≤ 12) : rN x.1.1 (f * x.1.2) = ((x.1.1 : Rat) / ((f * x.1.2 : Int) : Rat)).num ∧ rD x.1.1 (f * x.1.2) = (((x.1.1 : Rat) / ((f * x.1.2 : Int) : Rat)).den : Int) := by
  have h := x.2
  have hb := share_bd f x hf
  have k := m_le x.1.1 (f * x.1.2) (by omega) (by omega)
  have hy := r_yes ((fit_iff _ _).2 ⟨show mN x.1.1 (f * x.1.2) ≤ _ by omega, show mD x.1.1 (f * x.1.2) ≤ _ by omega⟩)
  rw [hy.1, hy.2.1]
  exact rat_parts _ _ hb.1
theorem share_right (f : Int) (x : Sh) (hf : 1 ≤ f ∧ f ≤ 12) : rightB (rN x.1.1 (f * x.1.2)) (rD x.1.1 (f * x.1.2)) = true := by
  have h := x.2
  have hb := share_bd f x hf
  rw [(share_is f x hf).1, (share_is f x hf).2]
  exact rat_right hb.1 rfl (by omega) (by omega) (by omega)
/-- The sum of two fractions that fits. -/
theorem add_is (x y : Rat) (hx : rightB x.num x.den = true) (hy : rightB y.num y.den = true) (hs : rightB (x + y).num (x + y).den = true) :
    rN (x.num * y.den + y.num * x.den) (x.den * y.den) = (x + y).num ∧ rD (x.num * y.den + y.num * x.den) (x.den * y.den) = ((x + y).den : Int) ∧ rE (x.num * y.den + y.num * x.den) (x.den * y.den) = 0 := by
  have h := rat_add x y
  rw [right_iff] at hs
  have hf : fitB (x.num * y.den + y.num * x.den) (x.den * y.den) = true := (fit_iff _ _).2 ⟨by rw [h.1]; exact hs.2.1, by rw [h.2]; exact hs.2.2.2.1⟩
  have k := r_yes hf
  exact ⟨k.1.trans h.1, k.2.1.trans h.2, k.2.2⟩
theorem mul_is (x y : Rat) (hx : rightB x.num x.den = true) (hy : rightB y.num y.den = true) (hs : rightB (x * y).num (x * y).den = true) :
    rN (x.num * y.num) (x.den * y.den) = (x * y).num ∧ rD (x.num * y.num) (x.den * y.den) = ((x * y).den : Int) ∧ rE (x.num * y.num) (x.den * y.den) = 0 := by
  have h := rat_mul x y
  rw [right_iff] at hs
  have hf : fitB (x.num * y.num) (x.den * y.den) = true := (fit_iff _ _).2 ⟨by rw [h.1]; exact hs.2.1, by rw [h.2]; exact hs.2.2.2.1⟩
  have k := r_yes hf
  exact ⟨k.1.trans h.1, k.2.1.trans h.2, k.2.2⟩

theorem step_share (f a b x y : Int) (hf : 1 ≤ f ∧ f ≤ 12) (hab : a ≤ b) (hxy : x ≤ y) (h : 0 < dy a b x y) : (tm x y b - tm x y a) / (f : Rat) = (dy a b x y : Rat) / ((f * (y - x) : Int) : Rat) := by
  obtain ⟨k, _, e⟩ := dy_yes hab hxy h
  rw [e]
  have h1 := cast_ne (d := f) (by omega)
  have h2 := cast_ne (d := y - x) (by omega)
  rw [Rat.intCast_mul]
  grind
/-- The shares' sum, step by step, is the part, in its own terms. -/
theorem sum_is (X : Nat → Int) (f a b : Int) (hf : 1 ≤ f ∧ f ≤ 12) (hab : a ≤ b) : ∀ n, Rising X (n + 1) → n ≤ 1204 → sumSh f (sh X a b n) = ((vP X n f a b).num, ((vP X n f a b).den : Int)) := by
  intro n
  induction n with
  | zero =>
    intro _ _
    rw [vP_zero]
    rfl
  | succ n ih =>
    intro hX hn
    have hX' := hX.less (m := n + 1) (by omega)
    have hle := hX.2 n (by omega)
    have b0 := hX.1 n (by omega)
    have b1 := hX.1 (n + 1) (by omega)
    by_cases c : 0 < dy a b (X n) (X (n + 1))
    · obtain ⟨k, k1, _⟩ := dy_yes hab hle c
      have hh : 0 < dy a b (X n) (X (n + 1)) ∧ dy a b (X n) (X (n + 1)) ≤ X (n + 1) - X n ∧ X (n + 1) - X n ≤ 3652058 := ⟨c, k1, by omega⟩
      rw [sh_yes hh, sumSh_snoc, ih hX' (by omega)]
      have hr := share_right f ⟨(dy a b (X n) (X (n + 1)), X (n + 1) - X n), hh⟩ hf
      have hs := share_is f ⟨(dy a b (X n) (X (n + 1)), X (n + 1) - X n), hh⟩ hf
      have hv := vP_right X n f a b hX' (by omega) hf hab
      have hv' := vP_right X (n + 1) f a b hX hn hf hab
      rw [vP_step, step_share f a b _ _ hf hab hle c] at hv' ⊢
      dsimp only at hr hs
      unfold add1 aN aD
      dsimp only
      rw [if_pos ⟨hv, hr⟩, if_pos ⟨hv, hr⟩]
      rw [hs.1, hs.2] at hr ⊢
      have := add_is _ _ hv hr hv'
      rw [this.1, this.2.1]
    · rw [sh_no c, ih hX' (by omega), vP_step, dy_no hab hle c]
      simp [Rat.div_def, Rat.add_zero, Rat.zero_mul]

/-- Periods may be. -/
def MayX (X : Nat → Int) (n : Nat) (f : Int) : Prop := 2 ≤ n ∧ n ≤ 1204 ∧ (1 ≤ f ∧ f ≤ 12) ∧ Rising X n ∧ X 0 < X (n - 1)
def isDay (n : Int) : Prop := 1 ≤ n ∧ n ≤ 3652059
/-- What Part tells. -/
def IcIs (X : Nat → Int) (n : Nat) (f a b p q c : Int) : Prop :=
  (¬ (isDay a ∧ isDay b) ∧ p = 0 ∧ q = 0 ∧ c = 3) ∨ ((isDay a ∧ isDay b) ∧ b < a ∧ p = 0 ∧ q = 0 ∧ c = 4) ∨
  ((isDay a ∧ isDay b) ∧ a ≤ b ∧ ¬ (MayX X n f ∧ X 0 ≤ a ∧ b ≤ X (n - 1)) ∧ p = 0 ∧ q = 0 ∧ c = 5) ∨
  ((isDay a ∧ isDay b) ∧ a ≤ b ∧ (MayX X n f ∧ X 0 ≤ a ∧ b ≤ X (n - 1)) ∧ p = (vP X (n - 1) f a b).num ∧ q = ((vP X (n - 1) f a b).den : Int) ∧ c = 0)
theorem ic_is (X : Nat → Int) (n : Nat) (f a b : Int) : ∃ p q c, IcIs X n f a b p q c := by
  by_cases h1 : isDay a ∧ isDay b
  · by_cases h2 : a ≤ b
    · by_cases h3 : MayX X n f ∧ X 0 ≤ a ∧ b ≤ X (n - 1)
      · exact ⟨_, _, _, .inr (.inr (.inr ⟨h1, h2, h3, rfl, rfl, rfl⟩))⟩
      · exact ⟨_, _, _, .inr (.inr (.inl ⟨h1, h2, h3, rfl, rfl, rfl⟩))⟩
    · exact ⟨_, _, _, .inr (.inl ⟨h1, by omega, rfl, rfl, rfl⟩)⟩
  · exact ⟨_, _, _, .inl ⟨h1, rfl, rfl, rfl⟩⟩
theorem ic_day {X : Nat → Int} {n : Nat} {f a b : Int} (h : ¬ (isDay a ∧ isDay b)) : IcIs X n f a b 0 0 3 := .inl ⟨h, rfl, rfl, rfl⟩
theorem ic_order {X : Nat → Int} {n : Nat} {f a b : Int} (h : isDay a ∧ isDay b) (h2 : b < a) : IcIs X n f a b 0 0 4 := .inr (.inl ⟨h, h2, rfl, rfl, rfl⟩)
theorem ic_side {X : Nat → Int} {n : Nat} {f a b : Int} (h : isDay a ∧ isDay b) (h2 : a ≤ b) (h3 : ¬ (MayX X n f ∧ X 0 ≤ a ∧ b ≤ X (n - 1))) : IcIs X n f a b 0 0 5 := .inr (.inr (.inl ⟨h, h2, h3, rfl, rfl, rfl⟩))
theorem ic_ok {X : Nat → Int} {n : Nat} {f a b : Int} (h2 : a ≤ b) (h3 : MayX X n f) (h4 : X 0 ≤ a) (h5 : b ≤ X (n - 1)) : IcIs X n f a b (vP X (n - 1) f a b).num (vP X (n - 1) f a b).den 0 := by
  have k0 := h3.2.2.2.1.1 0 (by have := h3.1; omega)
  have k1 := h3.2.2.2.1.1 (n - 1) (by have := h3.1; omega)
  refine .inr (.inr (.inr ⟨⟨⟨?_, ?_⟩, ⟨?_, ?_⟩⟩, h2, ⟨h3, h4, h5⟩, rfl, rfl, rfl⟩)) <;> omega
end Go.Proofs.YtcplfgmajbadmaaDoor
