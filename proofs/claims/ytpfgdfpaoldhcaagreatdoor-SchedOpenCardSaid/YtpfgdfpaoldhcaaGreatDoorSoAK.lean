/- Several texts in one: CoNum, CaUn, TeNum, DaNum, DaList, DaSeq, ScNum, TeBox. -/
import Derived.Test.YtpfgdfpaoldhcaaGreatDoorSoAG
import Derived.Test.YtpfgdfpaoldhcaaGreatDoorSoAI
import Derived.Test.YtpfgdfpaoldhcaaGreatDoorSoAJ
set_option maxHeartbeats 8000000
set_option maxRecDepth 100000
set_option linter.unusedVariables false
set_option linter.unusedSimpArgs false
namespace Go.Proofs.YtpfgdfpaoldhcaaGreatDoor
open Go.RowKit
def CoIs (k a b : Int) (t : Bool) (en f : Int) (X : Nat → Int) (n : Nat) (p q c : Int) : Prop :=
 (k = 0 ∧ zBm (uX t) a b p q c) ∨ (k = 1 ∧ zBm eX a b p q c) ∨ (k = 2 ∧ zBm (iX (decide (b = en))) a b p q c) ∨ (k = 3 ∧ AcIs aX 360 a b p q c) ∨ (k = 4 ∧ AcIs aX 365 a b p q c) ∨
 (k = 5 ∧ AcIs yX 133590 a b p q c) ∨ (k = 6 ∧ IcIs X n f a b p q c) ∨ ((k < 0 ∨ 6 < k) ∧ p = 0 ∧ q = 0 ∧ c = 1)
theorem co_is (k a b : Int) (t : Bool) (en f : Int) (X : Nat → Int) (n : Nat) : ∃ p q c, CoIs k a b t en f X n p q c := by
 by_cases h : k < 0 ∨ 6 < k
 ·exact ⟨0, 0, 1, Or.inr (Or.inr (Or.inr (Or.inr (Or.inr (Or.inr (Or.inr ⟨h, rfl, rfl, rfl⟩))))))⟩
 ·have : k = 0 ∨ k = 1 ∨ k = 2 ∨ k = 3 ∨ k = 4 ∨ k = 5 ∨ k = 6 := by omega
  rcases this with e | e | e | e | e | e | e
  ·obtain ⟨p, q, c, h⟩ := zJv (uX t) a b; exact ⟨p, q, c, Or.inl ⟨e, h⟩⟩
  ·obtain ⟨p, q, c, h⟩ := zJv eX a b; exact ⟨p, q, c, Or.inr (Or.inl ⟨e, h⟩)⟩
  ·obtain ⟨p, q, c, h⟩ := zJv (iX (decide (b = en))) a b; exact ⟨p, q, c, Or.inr (Or.inr (Or.inl ⟨e, h⟩))⟩
  ·obtain ⟨p, q, c, h⟩ := ac_is aX 360 a b; exact ⟨p, q, c, Or.inr (Or.inr (Or.inr (Or.inl ⟨e, h⟩)))⟩
  ·obtain ⟨p, q, c, h⟩ := ac_is aX 365 a b; exact ⟨p, q, c, Or.inr (Or.inr (Or.inr (Or.inr (Or.inl ⟨e, h⟩))))⟩
  ·obtain ⟨p, q, c, h⟩ := ac_is yX 133590 a b; exact ⟨p, q, c, Or.inr (Or.inr (Or.inr (Or.inr (Or.inr (Or.inl ⟨e, h⟩)))))⟩
  ·obtain ⟨p, q, c, h⟩ := ic_is X n f a b; exact ⟨p, q, c, Or.inr (Or.inr (Or.inr (Or.inr (Or.inr (Or.inr (Or.inl ⟨e, h⟩))))))⟩
end Go.Proofs.YtpfgdfpaoldhcaaGreatDoor
namespace Go.Proofs.YtpfgdfpaoldhcaaGreatDoor
def dl (X : Nat → Int) (n : Nat) : List Int := (List.range n).map X
def ld (l : List Int) (i : Nat) : Int := l.getD i 0
theorem zAo (X : Nat → Int) (n : Nat) : (dl X n).length = n := by simp [dl]
theorem zKz {X : Nat → Int} {n : Nat} {z : Int} : z ∈ dl X n ↔ ∃ j, j < n ∧ X j = z := by simp [dl]
theorem dl_ld (l : List Int) : dl (ld l) l.length = l := by
 apply List.ext_getElem
 ·rw [zAo]
 ·intro i a b
  simp [dl, ld, b]
theorem dl_rise {X : Nat → Int} {n : Nat} (h : ∀ j, j + 1 < n → X j < X (j + 1)) : (dl X n).Pairwise (· < ·) := by
 have key : ∀ (d i : Nat), i + d + 1 < n → X i < X (i + d + 1) := fun d => by
  induction d with
  | zero => exact fun i hi => h i (by omega)
  | succ d ih => exact fun i hi => Int.lt_trans (ih i (by omega)) (h (i + d + 1) (by omega))
 rw [List.pairwise_iff_getElem]
 intro i j hi hj hij
 rw [zAo] at hi hj
 have := key (j - i - 1) i (by omega)
 rw [show i + (j - i - 1) + 1 = j by omega] at this
 simpa [dl] using this
end Go.Proofs.YtpfgdfpaoldhcaaGreatDoor
namespace Go.Proofs.YtpfgdfpaoldhcaaGreatDoor
open Go.RowKit
def tn (k : Int) : ByteArray := if k = 0 then ⟨#[98, 117, 108, 108, 101, 116]⟩ else if k = 1 then ⟨#[101, 113, 117, 97, 108]⟩ else if k = 2 then ⟨#[108, 101, 118, 101, 108]⟩ else ⟨#[]⟩
def tk (s : ByteArray) : Int × Int := if ((tn 0).toList == s.toList) = true then (0, 0) else if ((tn 1).toList == s.toList) = true then (1, 0) else if ((tn 2).toList == s.toList) = true then (2, 0) else (0, 10)
theorem tn_out (k : Int) (h : k < 0 ∨ 2 < k) : tn k = ⟨#[]⟩ := by
 unfold tn
 rw [if_neg (by omega), if_neg (by omega), if_neg (by omega)]
theorem tn_0 : tn 0 = ⟨#[98, 117, 108, 108, 101, 116]⟩ := by simp [tn]
theorem tn_1 : tn 1 = ⟨#[101, 113, 117, 97, 108]⟩ := by simp [tn]
theorem tn_2 : tn 2 = ⟨#[108, 101, 118, 101, 108]⟩ := by simp [tn]
theorem of3 (k : Int) (h : 0 ≤ k ∧ k ≤ 2) : k = 0 ∨ k = 1 ∨ k = 2 := by omega
theorem zR7 (k : Int) : (tn k).toList.isEmpty = decide (k < 0 ∨ 2 < k) := by
 by_cases h : k < 0 ∨ 2 < k
 ·rw [tn_out k h, decide_eq_true h]; decide +kernel
 ·rw [decide_eq_false h]
  rcases of3 k (by omega) with rfl | rfl | rfl <;> decide +kernel
def fr (m : Int) : Int := if m = 1 then 12 else if m = 2 then 6 else if m = 3 then 4 else if m = 4 then 3 else if m = 6 then 2 else if m = 12 then 1 else 0
def Mo (m : Int) : Prop := m = 1 ∨ m = 2 ∨ m = 3 ∨ m = 4 ∨ m = 6 ∨ m = 12
instance (m : Int) : Decidable (Mo m) := by unfold Mo; infer_instance
theorem fr_no {m : Int} (h : ¬ Mo m) : fr m = 0 := by
 unfold Mo at h
 unfold fr
 rw [if_neg (by omega), if_neg (by omega), if_neg (by omega), if_neg (by omega), if_neg (by omega), if_neg (by omega)]
theorem zGn (m : Int) : (fr m == 0) = decide (¬ Mo m) := by
 by_cases h : Mo m
 ·rw [decide_eq_false (fun g => g h)]
  rcases h with rfl | rfl | rfl | rfl | rfl | rfl <;> decide +kernel
 ·rw [fr_no h, decide_eq_true h]; decide +kernel
structure Tm where
 mo : Int
 ra : Int
 ki : Int
 co : Int
 st : Int
 en : Int
 ms : Int
 bk : Bool
 lg : Bool
 eo : Bool
 ro : Int
def Tm.Form (t : Tm) : Prop := (0 ≤ t.ki ∧ t.ki ≤ 2) ∧ (0 ≤ t.co ∧ t.co ≤ 6) ∧ (0 ≤ t.ro ∧ t.ro ≤ 4) ∧ Mo t.ms
instance (t : Tm) : Decidable t.Form := by unfold Tm.Form; infer_instance
def Tm.Days (t : Tm) : Prop := (1 ≤ t.st ∧ t.st ≤ 3652059) ∧ (1 ≤ t.en ∧ t.en ≤ 3652059)
instance (t : Tm) : Decidable t.Days := by unfold Tm.Days; infer_instance
def Tm.Own (t : Tm) : Prop := (1 ≤ t.mo ∧ t.mo ≤ 1000000000000000) ∧ (0 ≤ t.ra ∧ t.ra ≤ 1000000)
instance (t : Tm) : Decidable t.Own := by unfold Tm.Own; infer_instance
def Tm.code (t : Tm) : Int := if ¬ t.Form then 1 else if ¬ t.Days then 3 else if ¬ t.st < t.en then 4 else if ¬ t.Own then 2 else if 9000000000000000000 < t.mo * t.ra then 2 else 0
theorem Tm.bad {t : Tm} (h : ¬ t.Form) : t.code = 1 := by unfold Tm.code; rw [if_pos h]
theorem Tm.noDay {t : Tm} (h : t.Form) (h2 : ¬ t.Days) : t.code = 3 := by unfold Tm.code; rw [if_neg (fun g => g h), if_pos h2]
theorem Tm.turned {t : Tm} (h : t.Form) (h2 : t.Days) (h3 : ¬ t.st < t.en) : t.code = 4 := by unfold Tm.code; rw [if_neg (fun g => g h), if_neg (fun g => g h2), if_pos h3]
theorem Tm.over {t : Tm} (h : t.Form) (h2 : t.Days) (h3 : t.st < t.en) (h4 : ¬ t.Own) : t.code = 2 := by unfold Tm.code; rw [if_neg (fun g => g h), if_neg (fun g => g h2), if_neg (fun g => g h3), if_pos h4]
theorem Tm.both {t : Tm} (h : t.Form) (h2 : t.Days) (h3 : t.st < t.en) (h4 : t.Own) (h5 : 9000000000000000000 < t.mo * t.ra) : t.code = 2 := by unfold Tm.code; rw [if_neg (fun g => g h), if_neg (fun g => g h2), if_neg (fun g => g h3), if_neg (fun g => g h4), if_pos h5]
theorem Tm.may {t : Tm} (h : t.Form) (h2 : t.Days) (h3 : t.st < t.en) (h4 : t.Own) (h5 : t.mo * t.ra ≤ 9000000000000000000) : t.code = 0 := by unfold Tm.code; rw [if_neg (fun g => g h), if_neg (fun g => g h2), if_neg (fun g => g h3), if_neg (fun g => g h4), if_neg (by omega)]
theorem Tm.of_zero {t : Tm} (h : t.code = 0) : t.Form ∧ t.Days ∧ t.st < t.en ∧ t.Own ∧ t.mo * t.ra ≤ 9000000000000000000 := by
 unfold Tm.code at h
 by_cases h1 : t.Form
 ·rw [if_neg (fun g => g h1)] at h
  by_cases h2 : t.Days
  ·rw [if_neg (fun g => g h2)] at h
   by_cases h3 : t.st < t.en
   ·rw [if_neg (fun g => g h3)] at h
    by_cases h4 : t.Own
    ·rw [if_neg (fun g => g h4)] at h
     by_cases h5 : 9000000000000000000 < t.mo * t.ra
     ·rw [if_pos h5] at h; omega
     ·exact ⟨h1, h2, h3, h4, by omega⟩
    ·rw [if_pos h4] at h; omega
   ·rw [if_pos h3] at h; omega
  ·rw [if_pos h2] at h; omega
 ·rw [if_pos h1] at h; omega
theorem zO1 {m r : Int} (hr : 0 < r) : 9000000000000000000 / r < m ↔ 9000000000000000000 < m * r :=
 Int.ediv_lt_iff_lt_mul hr
end Go.Proofs.YtpfgdfpaoldhcaaGreatDoor
namespace Go.Proofs.YtpfgdfpaoldhcaaGreatDoor
def sx (b : Bool) (y m d T : Int) : Int := if 12 ≤ T ∧ T ≤ 119999 then nb (T / 12) (T % 12 + 1) (dm b y m d (T / 12) (T % 12 + 1)) else 0
def se (T : Int) : Int := if 12 ≤ T ∧ T ≤ 119999 then 0 else 3
theorem zQz {n k y m d : Int} {b : Bool} (h : may y m d) (hn : nb y m d = n) : zCj n k b (sx b y m d (12 * y + m - 1 + k)) (se (12 * y + m - 1 + k)) := by
 unfold sx se
 by_cases c : 12 ≤ 12 * y + m - 1 + k ∧ 12 * y + m - 1 + k ≤ 119999
 ·rw [if_pos c, if_pos c]
  exact zGu y m d _ _ _ h hn (by omega) (by omega) (by omega) (by omega) (by omega) rfl rfl
 ·rw [if_neg c, if_neg c]
  exact zLg y m d h hn (by omega)
theorem zBj {T : Int} : se T = 0 ↔ 12 ≤ T ∧ T ≤ 119999 := by unfold se; split <;> omega
theorem se_or (T : Int) : se T = 0 ∨ se T = 3 := by unfold se; split <;> omega
theorem sx_may {b : Bool} {y m d T : Int} (h : may y m d) (hT : 12 ≤ T ∧ T ≤ 119999) : may (T / 12) (T % 12 + 1) (dm b y m d (T / 12) (T % 12 + 1)) :=
 zOp b y m d _ _ h (by omega) (by omega) (by omega) (by omega)
theorem sx_bd {b : Bool} {y m d T : Int} (h : may y m d) (hT : 12 ≤ T ∧ T ≤ 119999) : 1 ≤ sx b y m d T ∧ sx b y m d T ≤ 3652059 := by
 unfold sx; rw [if_pos hT]; exact zC8 _ _ _ (sx_may h hT)
theorem zKm {b : Bool} {y m d : Int} (h : may y m d) : sx b y m d (12 * y + m - 1) = nb y m d := by
 obtain ⟨h1, h2, h3, h4, h5, h6⟩ := h
 unfold sx
 rw [if_pos (by omega), show (12 * y + m - 1) / 12 = y by omega, show (12 * y + m - 1) % 12 + 1 = m by omega]
 unfold dm
 split
 ·next c => rw [c.2]
 ·rw [Int.min_eq_left h6]
theorem nb_next (y m : Int) (h1 : 1 ≤ m) (h2 : m ≤ 12) (T : Int) (hT : 12 * y + m = T) : nb (T / 12) (T % 12 + 1) 0 = nb y m (ln y m) := by
 by_cases c : m = 12
 ·subst c
  rw [show T / 12 = y + 1 by omega, show T % 12 + 1 = 1 by omega]
  unfold nb
  rw [zFz, zDb, ← zNr, show (13 : Int) = 12 + 1 from rfl, zE0 y 12 (by omega) (by omega)]
  omega
 ·rw [show T / 12 = y by omega, show T % 12 + 1 = m + 1 by omega]
  unfold nb
  rw [zE0 y m h1 h2]
  omega
theorem sx_step {b : Bool} {y m d T : Int} (h : may y m d) (h1 : 12 ≤ T) (h2 : T + 1 ≤ 119999) : sx b y m d T + 28 ≤ sx b y m d (T + 1) := by
 have e := nb_next (T / 12) (T % 12 + 1) (by omega) (by omega) (T + 1) (by omega)
 have l1 := zHx (T / 12) (T % 12 + 1) (by omega) (by omega)
 have l2 := zHx ((T + 1) / 12) ((T + 1) % 12 + 1) (by omega) (by omega)
 obtain ⟨-, -, -, -, a5, a6⟩ := h
 unfold sx
 rw [if_pos (by omega), if_pos (by omega)]
 unfold dm nb at *
 split <;> omega
theorem sx_gap {b : Bool} {y m d T : Int} (h : may y m d) (h1 : 12 ≤ T) : ∀ j : Nat, T + j ≤ 119999 → sx b y m d T + 28 * j ≤ sx b y m d (T + j) := by
 intro j
 induction j with
 | zero => intro _; simp
 | succ j ih =>
  intro hj
  have a := ih (by omega)
  have s := sx_step (b := b) h (T := T + j) (by omega) (by omega)
  rw [show T + ((j + 1 : Nat) : Int) = T + j + 1 by omega]
  omega
theorem zIn {b : Bool} {y m d T U : Int} (h : may y m d) (h1 : 12 ≤ T) (h2 : T < U) (h3 : U ≤ 119999) : sx b y m d T + 28 * (U - T) ≤ sx b y m d U := by
 have := sx_gap (b := b) h h1 (U - T).toNat (by omega)
 rw [show T + ((U - T).toNat : Int) = U by omega] at this
 omega
def Tm.an (t : Tm) : Int := if t.bk = true then t.en else t.st
def Tm.ot (t : Tm) : Int := if t.bk = true then t.st else t.en
def Tm.ap (t : Tm) : Int := if t.bk = true then -t.ms else t.ms
def Tm.btw (t : Tm) (n : Int) : Bool := decide (t.st < n) && decide (n < t.en)
theorem Tm.btw_iff (t : Tm) (n : Int) : t.btw n = true ↔ t.st < n ∧ n < t.en := by simp [Tm.btw]
theorem Tm.btw_not (t : Tm) (n : Int) : t.btw n = false ↔ n ≤ t.st ∨ t.en ≤ n := by
 rw [← Bool.not_eq_true, Tm.btw_iff]; omega
structure Tm.Walk (t : Tm) (X E : Nat → Int) (m : Nat) : Prop where
 mv : ∀ k : Nat, zCj t.an ((k : Int) * t.ap) t.eo (X k) (E k)
 x0 : X 0 = t.an
 e0 : E 0 = 0
 one : 1 ≤ m
 top : m ≤ 1100
 mid : ∀ k, 1 ≤ k → k < m → E k = 0 ∧ t.st < X k ∧ X k < t.en
 code : ∀ k, E k = 0 ∨ E k = 3
 last : E m = 0 → ¬ (t.st < X m ∧ X m < t.en)
 day : ∀ k, k ≤ m → E k = 0 → 1 ≤ X k ∧ X k ≤ 3652059
 up : t.bk = false → ∀ j k, j < k → k ≤ m → E k = 0 → X j < X k
 down : t.bk = true → ∀ j k, j < k → k ≤ m → E k = 0 → X k < X j
theorem zL5 (P : Nat → Prop) : ∀ n : Nat, P n → ∃ m, m ≤ n ∧ P m ∧ ∀ k, k < m → ¬ P k := by
 intro n
 induction n using Nat.strongRecOn with
 | _ n ih =>
  intro hn
  by_cases h : ∃ k, k < n ∧ P k
  ·obtain ⟨k, h1, h2⟩ := h
   obtain ⟨m, a, b, c⟩ := ih k h1 h2
   exact ⟨m, by omega, b, c⟩
  ·exact ⟨n, Nat.le_refl _, hn, fun k hk g => h ⟨k, hk, g⟩⟩
theorem zPn {m : Int} (h : Mo m) : 1 ≤ m ∧ m ≤ 12 := by unfold Mo at h; omega
theorem Tm.walk (t : Tm) (h : t.code = 0) (hs : t.en - t.st ≤ 30000) : ∃ X E m, t.Walk X E m := by
 obtain ⟨hf, hd, ho, -, -⟩ := t.of_zero h
 obtain ⟨m1, m12⟩ := zPn hf.2.2.2
 have hA : 1 ≤ t.an ∧ t.an ≤ 3652059 := by unfold Tm.an; split; exact hd.2; exact hd.1
 obtain ⟨y, mo, d, hm, hn⟩ := zBg t.an hA.1 hA.2
 obtain ⟨T, hT⟩ : ∃ T, 12 * y + mo - 1 = T := ⟨_, rfl⟩
 have hTr : 12 ≤ T ∧ T ≤ 119999 := by obtain ⟨a1, a2, a3, a4, -, -⟩ := hm; omega
 have hx0 : sx t.eo y mo d T = t.an := by rw [← hT, zKm hm, hn]
 have hmv : ∀ k : Nat, zCj t.an ((k : Int) * t.ap) t.eo (sx t.eo y mo d (T + (k : Int) * t.ap)) (se (T + (k : Int) * t.ap)) := fun k => by
  rw [← hT]; exact zQz hm hn
 let P : Nat → Prop := fun k => 1 ≤ k ∧ ¬ (se (T + (k : Int) * t.ap) = 0 ∧ t.st < sx t.eo y mo d (T + (k : Int) * t.ap) ∧ sx t.eo y mo d (T + (k : Int) * t.ap) < t.en)
 have key : ∀ k : Nat, (k : Int) ≤ (k : Int) * t.ms := fun k => by
  have := Int.mul_le_mul_of_nonneg_left m1 (show (0 : Int) ≤ k by omega)
  omega
 have hP : P 1100 := by
  refine ⟨by omega, fun ⟨g1, g2, g3⟩ => ?_⟩
  rw [zBj] at g1
  have k1 := key 1100
  cases hb : t.bk
  ·have ea : t.ap = t.ms := by simp [Tm.ap, hb]
   have en : t.an = t.st := by simp [Tm.an, hb]
   rw [ea] at g1 g2 g3
   have := zIn (b := t.eo) hm hTr.1 (U := T + ((1100 : Nat) : Int) * t.ms) (by omega) g1.2
   rw [hx0, en] at this
   omega
  ·have ea : t.ap = -t.ms := by simp [Tm.ap, hb]
   have en : t.an = t.en := by simp [Tm.an, hb]
   rw [ea] at g1 g2 g3
   rw [Int.mul_neg] at g1 g2 g3
   have := zIn (b := t.eo) hm g1.1 (U := T) (by omega) hTr.2
   rw [hx0, en] at this
   omega
 obtain ⟨m, hm1, ⟨hm2, hm3⟩, hm4⟩ := zL5 P 1100 hP
 have inr : ∀ k, k < m → 12 ≤ T + (k : Int) * t.ap ∧ T + (k : Int) * t.ap ≤ 119999 := fun k hk => by
  rcases Nat.eq_zero_or_pos k with rfl | h0
  ·simpa using hTr
  ·by_cases c : se (T + (k : Int) * t.ap) = 0
   ·exact zBj.1 c
   ·exact absurd ⟨h0, fun g => c g.1⟩ (hm4 k hk)
 refine ⟨fun k => sx t.eo y mo d (T + (k : Int) * t.ap), fun k => se (T + (k : Int) * t.ap), m, hmv, ?_, ?_, hm2, hm1, ?_, fun k => se_or _, ?_, ?_, ?_, ?_⟩
 ·simpa using hx0
 ·simpa using zBj.2 hTr
 ·intro k h1 h2
  by_cases c : se (T + (k : Int) * t.ap) = 0 ∧ t.st < sx t.eo y mo d (T + (k : Int) * t.ap) ∧ sx t.eo y mo d (T + (k : Int) * t.ap) < t.en
  ·exact c
  ·exact absurd ⟨h1, c⟩ (hm4 k h2)
 ·intro e g; exact hm3 ⟨e, g⟩
 ·intro k _ e; exact sx_bd hm (zBj.1 e)
 ·intro hb j k hjk hk e
  have ea : t.ap = t.ms := by simp [Tm.ap, hb]
  have g1 := inr j (by omega)
  have g2 := zBj.1 e
  rw [ea] at g1 g2
  (try dsimp only)
  rw [ea]
  have k2 := Int.mul_lt_mul_of_pos_right (show (j : Int) < k by omega) (show 0 < t.ms by omega)
  have := zIn (b := t.eo) hm g1.1 (U := T + (k : Int) * t.ms) (by omega) g2.2
  omega
 ·intro hb j k hjk hk e
  have ea : t.ap = -t.ms := by simp [Tm.ap, hb]
  have g1 := inr j (by omega)
  have g2 := zBj.1 e
  rw [ea, Int.mul_neg] at g1 g2
  (try dsimp only)
  rw [ea, Int.mul_neg, Int.mul_neg]
  have k2 := Int.mul_lt_mul_of_pos_right (show (j : Int) < k by omega) (show 0 < t.ms by omega)
  have := zIn (b := t.eo) hm g2.1 (U := T + -((j : Int) * t.ms)) (by omega) g1.2
  omega
theorem zKy {X Y : Nat → Int} {n : Nat} (h : ∀ i, i < n → X i = Y i) : dl X n = dl Y n := by
 apply List.ext_getElem
 ·rw [zAo, zAo]
 ·intro i a b
  rw [zAo] at a
  simp [dl, h i a]
theorem zE1 (X : Nat → Int) (n : Nat) : dl X (n + 1) = dl X n ++ [X n] := by simp [dl, List.range_succ]
theorem zOn (X : Nat → Int) (n : Nat) : dl X (n + 1) = X 0 :: dl (fun i => X (i + 1)) n := by
 unfold dl
 rw [List.range_succ_eq_map]
 simp [Function.comp_def]
theorem zOo (X : Nat → Int) (n : Nat) : (dl X n).reverse = dl (fun i => X (n - 1 - i)) n := by
 apply List.ext_getElem
 ·rw [List.length_reverse, zAo, zAo]
 ·intro i a b
  rw [zAo] at b
  simp [dl]
theorem dl_take (X : Nat → Int) {n k : Nat} (h : k ≤ n) : (dl X n).take k = dl X k := by
 apply List.ext_getElem
 ·rw [List.length_take, zAo, zAo]; omega
 ·intro i a b
  simp [dl]
theorem dl_skip (X : Nat → Int) (n k : Nat) : (dl X n).drop k = dl (fun i => X (k + i)) (n - k) := by
 apply List.ext_getElem
 ·rw [List.length_drop, zAo, zAo]
 ·intro i a b
  simp [dl]
theorem ld_dl {X : Nat → Int} {n j : Nat} (h : j < n) : ld (dl X n) j = X j := by simp [ld, dl, h]
def gl (E : Nat → Int) (m : Nat) : Nat := if E m = 0 then m + 1 else m
theorem zHt (E : Nat → Int) (m : Nat) : m ≤ gl E m ∧ gl E m ≤ m + 1 := by unfold gl; split <;> omega
def Tm.grid (t : Tm) (X : Nat → Int) (K : Nat) : List Int := if t.bk = true then (dl X K).reverse else dl X K
def Tm.inn (t : Tm) (g : List Int) : List Int := g.filter t.btw
def Tm.kept (t : Tm) (g : List Int) : List Int := if t.lg = true ∧ t.inn g ≠ [] ∧ t.ot ∉ g then (if t.bk = true then (t.inn g).drop 1 else (t.inn g).take ((t.inn g).length - 1)) else t.inn g
def Tm.days (t : Tm) (g : List Int) : List Int := t.st :: (t.kept g ++ [t.en])
theorem Tm.grid_len (t : Tm) (X : Nat → Int) (K : Nat) : (t.grid X K).length = K := by unfold Tm.grid; split <;> simp [dl]
theorem Tm.inn_len (t : Tm) (g : List Int) : (t.inn g).length ≤ g.length := List.length_filter_le _ _
theorem Tm.kept_len (t : Tm) (g : List Int) : (t.kept g).length ≤ g.length := by
 have := t.inn_len g
 unfold Tm.kept
 split
 ·split
  ·rw [List.length_drop]; omega
  ·rw [List.length_take]; omega
 ·exact this
theorem Tm.days_len (t : Tm) (g : List Int) : (t.days g).length = (t.kept g).length + 2 := by simp [Tm.days]
theorem Tm.days_app (t : Tm) (g : List Int) : t.days g = [t.st] ++ t.kept g ++ [t.en] := by simp [Tm.days]
def Tm.dd (t : Tm) (X : Nat → Int) (q i : Nat) : Int := if t.bk = true then (if i = 0 then t.st else X (q + 1 - i)) else (if i ≤ q then X i else t.en)
variable {t : Tm} {X E : Nat → Int} {m : Nat}
theorem zMj {l : List Int} {p : Int → Bool} (h : ∀ z ∈ l, p z = true) : l.filter p = l := List.filter_eq_self.2 h
theorem Tm.Walk.inn0 (h : t.Walk X E m) : t.inn (dl X (gl E m)) = dl (fun i => X (i + 1)) (m - 1) := by
 have one := h.one
 have a0 : t.btw (X 0) = false := by
  rw [t.btw_not, h.x0]; unfold Tm.an; split
  ·right; exact Int.le_refl _
  ·left; exact Int.le_refl _
 obtain ⟨n, rfl⟩ : ∃ n, m = n + 1 := ⟨m - 1, by omega⟩
 have base : (dl X (n + 1)).filter t.btw = dl (fun i => X (i + 1)) n := by
  rw [zOn, List.filter_cons_of_neg (by rw [a0]; decide)]
  refine zMj fun z hz => ?_
  rw [zKz] at hz
  obtain ⟨j, hj, rfl⟩ := hz
  rw [t.btw_iff]
  exact (h.mid (j + 1) (by omega) (by omega)).2
 unfold Tm.inn gl
 rw [show n + 1 - 1 = n by omega]
 split
 ·next c =>
  have := h.last c
  rw [zE1, List.filter_append, base, List.filter_cons_of_neg (by rw [Bool.not_eq_true, t.btw_not]; omega)]
  simp
 ·exact base
theorem Tm.Walk.inn1 (h : t.Walk X E m) : t.inn (t.grid X (gl E m)) = if t.bk = true then (dl (fun i => X (i + 1)) (m - 1)).reverse else dl (fun i => X (i + 1)) (m - 1) := by
 have e := h.inn0
 unfold Tm.grid
 split
 ·unfold Tm.inn at *
  rw [List.filter_reverse, e]
 ·exact e
theorem Tm.Walk.inn_len (h : t.Walk X E m) : (t.inn (t.grid X (gl E m))).length = m - 1 := by
 rw [h.inn1]; split <;> simp [dl]
theorem Tm.grid_mem {K : Nat} {z : Int} : z ∈ t.grid X K ↔ ∃ j, j < K ∧ X j = z := by
 unfold Tm.grid
 split
 ·rw [List.mem_reverse, zKz]
 ·rw [zKz]
theorem Tm.Walk.stub (h : t.Walk X E m) (ho : t.st < t.en) : t.ot ∈ t.grid X (gl E m) ↔ E m = 0 ∧ X m = t.ot := by
 rw [Tm.grid_mem]
 constructor
 ·rintro ⟨j, hj, e⟩
  by_cases c : j = 0
  ·subst c
   rw [h.x0] at e
   unfold Tm.an Tm.ot at e
   split at e <;> omega
  ·by_cases g : j < m
   ·have := (h.mid j (by omega) g).2
    unfold Tm.ot at e
    split at e <;> omega
   ·unfold gl at hj
    split at hj
    ·next z => exact ⟨z, by rw [← show j = m by omega]; exact e⟩
    ·omega
 ·rintro ⟨e, g⟩
  exact ⟨m, by unfold gl; rw [if_pos e]; omega, g⟩
def Tm.q (t : Tm) (X E : Nat → Int) (m : Nat) : Nat := if t.lg = true ∧ 2 ≤ m ∧ ¬ (E m = 0 ∧ X m = t.ot) then m - 2 else m - 1
theorem Tm.q_bd (t : Tm) (X E : Nat → Int) (m : Nat) : t.q X E m ≤ m - 1 := by unfold Tm.q; split <;> omega
theorem Tm.Walk.days_is (h : t.Walk X E m) (ho : t.st < t.en) : t.days (t.grid X (gl E m)) = dl (t.dd X (t.q X E m)) (t.q X E m + 2) := by
 have hl := h.inn_len
 have hs := h.stub ho
 have one := h.one
 have hk : t.kept (t.grid X (gl E m)) = if t.bk = true then dl (fun i => X (t.q X E m - i)) (t.q X E m) else dl (fun i => X (i + 1)) (t.q X E m) := by
  have c0 : (t.inn (t.grid X (gl E m)) ≠ []) ↔ 2 ≤ m := by
   rw [ne_eq, ← List.length_eq_zero_iff, hl]; omega
  have cc : (t.lg = true ∧ t.inn (t.grid X (gl E m)) ≠ [] ∧ t.ot ∉ t.grid X (gl E m)) ↔ (t.lg = true ∧ 2 ≤ m ∧ ¬ (E m = 0 ∧ X m = t.ot)) := by
   rw [c0, hs]
  unfold Tm.kept Tm.q
  by_cases c : t.lg = true ∧ 2 ≤ m ∧ ¬ (E m = 0 ∧ X m = t.ot)
  ·rw [if_pos (cc.2 c), if_pos c, hl, h.inn1]
   by_cases b : t.bk = true
   ·rw [if_pos b, if_pos b, if_pos b, zOo, dl_skip]
    rw [show m - 1 - 1 = m - 2 by omega]
    exact zKy fun i hi => by rw [show m - 2 - (1 + i) + 1 = m - 2 - i by omega]
   ·rw [if_neg b, if_neg b, if_neg b, dl_take _ (by omega), show m - 1 - 1 = m - 2 by omega]
  ·rw [if_neg (fun g => c (cc.1 g)), if_neg c, h.inn1]
   by_cases b : t.bk = true
   ·rw [if_pos b, if_pos b, zOo]
    exact zKy fun i hi => by rw [show m - 1 - 1 - i + 1 = m - 1 - i by omega]
   ·rw [if_neg b, if_neg b]
 unfold Tm.days
 rw [hk]
 generalize t.q X E m = q
 rw [zOn]
 by_cases b : t.bk = true
 ·have x0 : X 0 = t.en := by rw [h.x0]; unfold Tm.an; rw [if_pos b]
  rw [if_pos b, show t.dd X q 0 = t.st by unfold Tm.dd; rw [if_pos b, if_pos rfl], zE1]
  congr 1
  congr 1
  ·exact zKy fun i hi => by unfold Tm.dd; rw [if_pos b, if_neg (by omega), show q + 1 - (i + 1) = q - i by omega]
  ·unfold Tm.dd
   rw [if_pos b, if_neg (by omega), show q + 1 - (q + 1) = 0 by omega, x0]
 ·have x0 : X 0 = t.st := by rw [h.x0]; unfold Tm.an; rw [if_neg b]
  rw [if_neg b, show t.dd X q 0 = t.st by unfold Tm.dd; rw [if_neg b, if_pos (by omega), x0], zE1]
  congr 1
  congr 1
  ·exact zKy fun i hi => by unfold Tm.dd; rw [if_neg b, if_pos (by omega)]
  ·unfold Tm.dd
   rw [if_neg b, if_neg (by omega)]
end Go.Proofs.YtpfgdfpaoldhcaaGreatDoor
namespace Go.Proofs.YtpfgdfpaoldhcaaGreatDoor
theorem zIp (t : Tm) (h : t.code = 0) (y mo d T : Int) (hm : may y mo d) (hn : nb y mo d = t.an) (hT : 12 * y + mo - 1 = T) (m : Nat) (h1 : 1 ≤ m) (h2 : m ≤ 1100)
  (hmid : ∀ k : Nat, 1 ≤ k → k < m → se (T + (k : Int) * t.ap) = 0 ∧ t.st < sx t.eo y mo d (T + (k : Int) * t.ap) ∧ sx t.eo y mo d (T + (k : Int) * t.ap) < t.en)
  (hlast : se (T + (m : Int) * t.ap) = 0 → ¬ (t.st < sx t.eo y mo d (T + (m : Int) * t.ap) ∧ sx t.eo y mo d (T + (m : Int) * t.ap) < t.en)) :
  t.Walk (fun k => sx t.eo y mo d (T + (k : Int) * t.ap)) (fun k => se (T + (k : Int) * t.ap)) m := by
 obtain ⟨hf, hd, ho, -, -⟩ := t.of_zero h
 obtain ⟨m1, m12⟩ := zPn hf.2.2.2
 have hTr : 12 ≤ T ∧ T ≤ 119999 := by obtain ⟨a1, a2, a3, a4, -, -⟩ := hm; omega
 have hx0 : sx t.eo y mo d T = t.an := by rw [← hT, zKm hm, hn]
 have inr : ∀ k, k < m → 12 ≤ T + (k : Int) * t.ap ∧ T + (k : Int) * t.ap ≤ 119999 := fun k hk => by
  rcases Nat.eq_zero_or_pos k with rfl | h0
  ·simpa using hTr
  ·exact zBj.1 (hmid k h0 hk).1
 refine ⟨fun k => ?_, ?_, ?_, h1, h2, hmid, fun k => se_or _, hlast, fun k _ e => sx_bd hm (zBj.1 e), ?_, ?_⟩
 ·rw [← hT]; exact zQz hm hn
 ·simpa using hx0
 ·simpa using zBj.2 hTr
 ·intro hb j k hjk hk e
  have ea : t.ap = t.ms := by simp [Tm.ap, hb]
  have g1 := inr j (by omega)
  have g2 := zBj.1 e
  rw [ea] at g1 g2
  (try dsimp only)
  rw [ea]
  have k2 := Int.mul_lt_mul_of_pos_right (show (j : Int) < k by omega) (show 0 < t.ms by omega)
  have := zIn (b := t.eo) hm g1.1 (U := T + (k : Int) * t.ms) (by omega) g2.2
  omega
 ·intro hb j k hjk hk e
  have ea : t.ap = -t.ms := by simp [Tm.ap, hb]
  have g1 := inr j (by omega)
  have g2 := zBj.1 e
  rw [ea, Int.mul_neg] at g1 g2
  (try dsimp only)
  rw [ea, Int.mul_neg, Int.mul_neg]
  have k2 := Int.mul_lt_mul_of_pos_right (show (j : Int) < k by omega) (show 0 < t.ms by omega)
  have := zIn (b := t.eo) hm g2.1 (U := T + -((j : Int) * t.ms)) (by omega) g1.2
  omega
variable {t : Tm} {X E : Nat → Int} {m : Nat}
theorem Tm.Walk.dd_rise (h : t.Walk X E m) (ho : t.st < t.en) {q : Nat} (hq : q ≤ m - 1) : ∀ i, i + 1 < q + 2 → t.dd X q i < t.dd X q (i + 1) := by
 intro i hi
 have one := h.one
 have e0 := h.e0
 have x0 := h.x0
 cases hb : t.bk
 ·have an : t.an = t.st := by simp [Tm.an, hb]
  have dd : ∀ i, t.dd X q i = if i ≤ q then X i else t.en := fun i => by simp [Tm.dd, hb]
  rw [dd, dd, if_pos (show i ≤ q by omega)]
  by_cases c : i + 1 ≤ q
  ·rw [if_pos c]
   exact h.up hb i (i + 1) (by omega) (by omega) (h.mid (i + 1) (by omega) (by omega)).1
  ·rw [if_neg c]
   rcases Nat.eq_zero_or_pos i with z | z
   ·subst z; rw [x0, an]; exact ho
   ·exact (h.mid i z (by omega)).2.2
 ·have an : t.an = t.en := by simp [Tm.an, hb]
  have dd : ∀ i, t.dd X q i = if i = 0 then t.st else X (q + 1 - i) := fun i => by simp [Tm.dd, hb]
  rw [dd, dd, if_neg (show i + 1 ≠ 0 by omega)]
  by_cases c : i = 0
  ·rw [if_pos c]
   subst c
   rw [show q + 1 - (0 + 1) = q by omega]
   rcases Nat.eq_zero_or_pos q with z | z
   ·subst z; rw [x0, an]; exact ho
   ·exact (h.mid q z (by omega)).2.1
  ·rw [if_neg c]
   refine h.down hb (q + 1 - (i + 1)) (q + 1 - i) (by omega) (by omega) ?_
   exact (h.mid (q + 1 - i) (by omega) (by omega)).1
end Go.Proofs.YtpfgdfpaoldhcaaGreatDoor
namespace Go.Proofs.YtpfgdfpaoldhcaaGreatDoor
def fst1 (C : Nat → Int) : Nat → Int
 | 0 => 0
 | n + 1 => if fst1 C n = 0 then C n else fst1 C n
theorem zAp {C : Nat → Int} : ∀ {n : Nat}, fst1 C n = 0 ↔ ∀ i, i < n → C i = 0
 | 0 => ⟨fun _ i hi => absurd hi (Nat.not_lt_zero i), fun _ => rfl⟩
 | n + 1 => by
  have ih := zAp (C := C) (n := n)
  unfold fst1
  split
  ·next c =>
   rw [ih] at c
   exact ⟨fun h i hi => by
    rcases Nat.lt_succ_iff_lt_or_eq.1 hi with l | l
    ·exact c i l
    ·rw [l]; exact h, fun h => h n (Nat.lt_succ_self n)⟩
  ·next c => exact ⟨fun h => absurd h c, fun h => absurd (ih.2 (fun i hi => h i (by omega))) c⟩
theorem zDm {C : Nat → Int} {j : Nat} (h : ∀ i, i < j → C i = 0) (hj : C j ≠ 0) : ∀ {n : Nat}, j < n → fst1 C n = C j
 | 0, hn => absurd hn (Nat.not_lt_zero j)
 | n + 1, hn => by
  unfold fst1
  by_cases e : j = n
  ·subst e; rw [if_pos (zAp.2 h)]
  ·have ih := zDm h hj (n := n) (by omega)
   rw [if_neg (by rw [ih]; exact hj), ih]
structure Pl where
 X : Nat → Int
 E : Nat → Int
 m : Nat
 q : Nat
 V : Nat → Int
 C : Nat → Int
 GV : Nat → Int
 GC : Nat → Int
 P : Nat → Int
 Q : Nat → Int
 PC : Nat → Int
def Pl.K (x : Pl) : Nat := gl x.E x.m
def Pl.ns (x : Pl) (t : Tm) : Nat := if t.co = 6 then x.K else 0
def Pl.G (x : Pl) (t : Tm) : Nat → Int := ld (t.grid x.X x.K)
structure PlanIs (t : Tm) (c : Ca) (x : Pl) : Prop where
 walk : t.code = 0 → t.Walk x.X x.E x.m
 q : t.code = 0 → t.q x.X x.E x.m = x.q
 roll : ∀ i, i < x.q + 2 → ToIs c (t.dd x.X x.q i) t.ro (x.V i) (x.C i)
 grid : ∀ i, i < x.K → ToIs c (x.G t i) t.ro (x.GV i) (x.GC i)
 part : ∀ i, i < x.q + 1 → CoIs t.co (x.V i) (x.V (i + 1)) t.eo (x.V (x.q + 1)) (fr t.ms) x.GV (x.ns t) (x.P i) (x.Q i) (x.PC i)
def Pl.code (x : Pl) (t : Tm) : Int :=
 if t.code ≠ 0 then t.code else if fst1 x.C (x.q + 2) ≠ 0 then fst1 x.C (x.q + 2) else if fst1 x.GC (x.ns t) ≠ 0 then fst1 x.GC (x.ns t) else fst1 x.PC (x.q + 1)
theorem Tm.walk2 (t : Tm) (h : t.code = 0) (hs : t.en - t.st ≤ 30000) : ∃ X E m, t.Walk X E m ∧ ∀ k : Nat, k < m → 28 * (k : Int) ≤ t.en - t.st := by
 obtain ⟨hf, hd, ho, -, -⟩ := t.of_zero h
 obtain ⟨m1, m12⟩ := zPn hf.2.2.2
 have hA : 1 ≤ t.an ∧ t.an ≤ 3652059 := by unfold Tm.an; split; exact hd.2; exact hd.1
 obtain ⟨y, mo, d, hm, hn⟩ := zBg t.an hA.1 hA.2
 obtain ⟨T, hT⟩ : ∃ T, 12 * y + mo - 1 = T := ⟨_, rfl⟩
 have hTr : 12 ≤ T ∧ T ≤ 119999 := by obtain ⟨a1, a2, a3, a4, -, -⟩ := hm; omega
 have hx0 : sx t.eo y mo d T = t.an := by rw [← hT, zKm hm, hn]
 let P : Nat → Prop := fun k => 1 ≤ k ∧ ¬ (se (T + (k : Int) * t.ap) = 0 ∧ t.st < sx t.eo y mo d (T + (k : Int) * t.ap) ∧ sx t.eo y mo d (T + (k : Int) * t.ap) < t.en)
 have key : ∀ k : Nat, (k : Int) ≤ (k : Int) * t.ms := fun k => by
  have := Int.mul_le_mul_of_nonneg_left m1 (show (0 : Int) ≤ k by omega)
  omega
 have far : ∀ k : Nat, 1 ≤ k → se (T + (k : Int) * t.ap) = 0 → t.st < sx t.eo y mo d (T + (k : Int) * t.ap) → sx t.eo y mo d (T + (k : Int) * t.ap) < t.en → 28 * (k : Int) ≤ t.en - t.st := by
  intro k k1 g1 g2 g3
  rw [zBj] at g1
  have kk := key k
  cases hb : t.bk
  ·have ea : t.ap = t.ms := by simp [Tm.ap, hb]
   have en : t.an = t.st := by simp [Tm.an, hb]
   rw [ea] at g1 g2 g3
   have := zIn (b := t.eo) hm hTr.1 (U := T + (k : Int) * t.ms) (by omega) g1.2
   rw [hx0, en] at this
   omega
  ·have ea : t.ap = -t.ms := by simp [Tm.ap, hb]
   have en : t.an = t.en := by simp [Tm.an, hb]
   rw [ea] at g1 g2 g3
   rw [Int.mul_neg] at g1 g2 g3
   have := zIn (b := t.eo) hm g1.1 (U := T) (by omega) hTr.2
   rw [hx0, en] at this
   omega
 have hP : P 1100 := ⟨by omega, fun ⟨g1, g2, g3⟩ => by have := far 1100 (by omega) g1 g2 g3; omega⟩
 obtain ⟨m, hm1, ⟨hm2, hm3⟩, hm4⟩ := zL5 P 1100 hP
 have mid : ∀ k : Nat, 1 ≤ k → k < m → se (T + (k : Int) * t.ap) = 0 ∧ t.st < sx t.eo y mo d (T + (k : Int) * t.ap) ∧ sx t.eo y mo d (T + (k : Int) * t.ap) < t.en := fun k k1 k2 => by
  by_cases g : se (T + (k : Int) * t.ap) = 0 ∧ t.st < sx t.eo y mo d (T + (k : Int) * t.ap) ∧ sx t.eo y mo d (T + (k : Int) * t.ap) < t.en
  ·exact g
  ·exact absurd ⟨k1, g⟩ (hm4 k k2)
 refine ⟨_, _, m, zIp t h y mo d T hm hn hT m hm2 hm1 mid (fun e g => hm3 ⟨e, g⟩), fun k hk => ?_⟩
 rcases Nat.eq_zero_or_pos k with rfl | k0
 ·simp; omega
 ·obtain ⟨g1, g2, g3⟩ := mid k k0 hk
  exact far k k0 g1 g2 g3
theorem zH1 (t : Tm) (c : Ca) (X E : Nat → Int) (m q : Nat) (w : t.code = 0 → t.Walk X E m) (hq : t.code = 0 → t.q X E m = q) : ∃ x, PlanIs t c x ∧ x.X = X ∧ x.E = E ∧ x.m = m ∧ x.q = q := by
 have hv : ∃ V C : Nat → Int, ∀ i, ToIs c (t.dd X q i) t.ro (V i) (C i) :=
  ⟨fun i => Classical.choose (zNf c (t.dd X q i) t.ro), fun i => Classical.choose (Classical.choose_spec (zNf c (t.dd X q i) t.ro)), fun i => Classical.choose_spec (Classical.choose_spec (zNf c (t.dd X q i) t.ro))⟩
 obtain ⟨V, C, hv⟩ := hv
 have hg : ∃ V C : Nat → Int, ∀ i, ToIs c (ld (t.grid X (gl E m)) i) t.ro (V i) (C i) :=
  ⟨fun i => Classical.choose (zNf c (ld (t.grid X (gl E m)) i) t.ro), fun i => Classical.choose (Classical.choose_spec (zNf c (ld (t.grid X (gl E m)) i) t.ro)), fun i => Classical.choose_spec (Classical.choose_spec (zNf c (ld (t.grid X (gl E m)) i) t.ro))⟩
 obtain ⟨GV, GC, hg⟩ := hg
 have hp : ∀ i, ∃ p q' e, CoIs t.co (V i) (V (i + 1)) t.eo (V (q + 1)) (fr t.ms) GV (if t.co = 6 then gl E m else 0) p q' e := fun i => co_is _ _ _ _ _ _ _ _
 exact ⟨⟨X, E, m, q, V, C, GV, GC, fun i => Classical.choose (hp i), fun i => Classical.choose (Classical.choose_spec (hp i)), fun i => Classical.choose (Classical.choose_spec (Classical.choose_spec (hp i)))⟩,
  ⟨w, hq, fun i _ => hv i, fun i _ => hg i, fun i _ => Classical.choose_spec (Classical.choose_spec (Classical.choose_spec (hp i)))⟩, rfl, rfl, rfl, rfl⟩
structure Pl.Short (x : Pl) : Prop where
 m : x.m ≤ 90
 q : x.q ≤ 90
theorem Pl.Short.k {x : Pl} (h : x.Short) : x.K ≤ 91 := by have := (zHt x.E x.m).2; have := h.m; unfold Pl.K; omega
theorem zPx (t : Tm) (c : Ca) (h : t.code = 0 → t.en - t.st ≤ 2000) : ∃ x, PlanIs t c x ∧ (t.code = 0 → x.Short) := by
 by_cases hc : t.code = 0
 ·obtain ⟨X, E, m, w, g⟩ := t.walk2 hc (by have := h hc; omega)
  obtain ⟨x, hx, hX, hE, hm, hq⟩ := zH1 t c X E m _ (fun _ => w) (fun _ => rfl)
  refine ⟨x, hx, fun _ => ?_⟩
  have one := w.one
  have b := g (m - 1) (by omega)
  have l := h hc
  have qb := t.q_bd X E m
  exact ⟨by rw [hm]; omega, by rw [hq]; omega⟩
 ·obtain ⟨x, hx, _⟩ := zH1 t c (fun _ => 0) (fun _ => 0) 0 0 (fun g => absurd g hc) (fun g => absurd g hc)
  exact ⟨x, hx, fun g => absurd g hc⟩
theorem Pl.good {x : Pl} {t : Tm} (h : x.code t = 0) : t.code = 0 ∧ (∀ i, i < x.q + 2 → x.C i = 0) ∧ (∀ i, i < x.ns t → x.GC i = 0) ∧ ∀ i, i < x.q + 1 → x.PC i = 0 := by
 unfold Pl.code at h
 by_cases h1 : t.code = 0
 ·rw [if_neg (not_not_intro h1)] at h
  by_cases h2 : fst1 x.C (x.q + 2) = 0
  ·rw [if_neg (not_not_intro h2)] at h
   by_cases h3 : fst1 x.GC (x.ns t) = 0
   ·rw [if_neg (not_not_intro h3)] at h
    exact ⟨h1, zAp.1 h2, zAp.1 h3, zAp.1 h⟩
   ·rw [if_pos h3] at h; exact absurd h h3
  ·rw [if_pos h2] at h; exact absurd h h2
 ·rw [if_pos h1] at h; exact absurd h h1
theorem StepIs.bd {c : Ca} {s n v e : Int} (h : StepIs c s n v e) : 0 ≤ v ∧ v ≤ 3652059 := by
 by_cases he : e = 0
 ·have := (h.good he).2.1.1
  unfold dy at this
  omega
 ·rw [h.zero he]; omega
theorem ToIs.bd {c : Ca} {n k v e : Int} (h : ToIs c n k v e) : 0 ≤ v ∧ v ≤ 3652059 := by
 rcases h with ⟨_, ⟨h, rfl, _⟩ | ⟨_, rfl, _⟩⟩ | ⟨_, h⟩ | ⟨_, a, f, h, ⟨_, rfl, _⟩ | ⟨_, g⟩⟩ | ⟨_, h⟩ | ⟨_, a, f, h, ⟨_, rfl, _⟩ | ⟨_, g⟩⟩ | ⟨_, rfl, _⟩
 ·unfold dy at h; omega
 ·omega
 ·exact h.bd
 ·exact h.bd
 ·exact g.bd
 ·exact h.bd
 ·exact h.bd
 ·exact g.bd
 ·omega
theorem zG5 (C : Nat → Int) : ∀ n, fst1 C n = 0 ∨ ∃ j, j < n ∧ fst1 C n = C j ∧ C j ≠ 0
 | 0 => Or.inl rfl
 | n + 1 => by
  unfold fst1
  split
  ·by_cases e : C n = 0
   ·exact Or.inl e
   ·exact Or.inr ⟨n, Nat.lt_succ_self n, rfl, e⟩
  ·next c =>
   rcases zG5 C n with h | ⟨j, hj, h⟩
   ·exact absurd h c
   ·exact Or.inr ⟨j, by omega, h⟩
theorem CoIs.code {k a b : Int} {t : Bool} {en f : Int} {X : Nat → Int} {n : Nat} {p q c : Int} (h : CoIs k a b t en f X n p q c) (hk : 0 ≤ k ∧ k ≤ 6) (ha : 1 ≤ a ∧ a ≤ 3652059) (hb : 1 ≤ b ∧ b ≤ 3652059) (hab : a ≤ b) : c = 0 ∨ (k = 6 ∧ c = 5) := by
 rcases h with ⟨_, h⟩ | ⟨_, h⟩ | ⟨_, h⟩ | ⟨_, h⟩ | ⟨_, h⟩ | ⟨_, h⟩ | ⟨e, h⟩ | ⟨h, _⟩
 ·rcases h with ⟨_, _, _, _, _, _, _, _, _, _, _, _, _, h⟩ | ⟨h, _⟩ | ⟨_, _, h, _⟩
  ·exact Or.inl h
  ·omega
  ·omega
 ·rcases h with ⟨_, _, _, _, _, _, _, _, _, _, _, _, _, h⟩ | ⟨h, _⟩ | ⟨_, _, h, _⟩
  ·exact Or.inl h
  ·omega
  ·omega
 ·rcases h with ⟨_, _, _, _, _, _, _, _, _, _, _, _, _, h⟩ | ⟨h, _⟩ | ⟨_, _, h, _⟩
  ·exact Or.inl h
  ·omega
  ·omega
 ·rcases h with ⟨_, _, _, _, _, _, _, _, _, _, _, _, _, h⟩ | ⟨h, _⟩ | ⟨_, _, h, _⟩
  ·exact Or.inl h
  ·omega
  ·omega
 ·rcases h with ⟨_, _, _, _, _, _, _, _, _, _, _, _, _, h⟩ | ⟨h, _⟩ | ⟨_, _, h, _⟩
  ·exact Or.inl h
  ·omega
  ·omega
 ·rcases h with ⟨_, _, _, _, _, _, _, _, _, _, _, _, _, h⟩ | ⟨h, _⟩ | ⟨_, _, h, _⟩
  ·exact Or.inl h
  ·omega
  ·omega
 ·rcases h with ⟨h, _⟩ | ⟨_, h, _⟩ | ⟨_, _, _, _, _, h⟩ | ⟨_, _, _, _, _, h⟩
  ·exact absurd ⟨ha, hb⟩ h
  ·omega
  ·exact Or.inr ⟨e, h⟩
  ·exact Or.inl h
 ·omega
theorem Tm.Walk.xday {t : Tm} {X E : Nat → Int} {m : Nat} (h : t.Walk X E m) {j : Nat} (hj : j < gl E m) : 1 ≤ X j ∧ X j ≤ 3652059 := by
 have b := (zHt E m).2
 by_cases e : j < m
 ·rcases Nat.eq_zero_or_pos j with r | r
  ·subst r; exact h.day 0 (Nat.zero_le _) h.e0
  ·exact h.day j (by omega) (h.mid j r e).1
 ·have em : j = m := by omega
  subst em
  unfold gl at hj
  split at hj
  ·next z => exact h.day j (Nat.le_refl _) z
  ·omega
theorem Tm.grid_at (t : Tm) (X : Nat → Int) {K i : Nat} (hi : i < K) : ld (t.grid X K) i = X (if t.bk = true then K - 1 - i else i) := by
 unfold Tm.grid
 split
 ·rw [zOo, ld_dl hi]
 ·rw [ld_dl hi]
theorem Tm.Walk.gday {t : Tm} {X E : Nat → Int} {m : Nat} (h : t.Walk X E m) {i : Nat} (hi : i < gl E m) : 1 ≤ ld (t.grid X (gl E m)) i ∧ ld (t.grid X (gl E m)) i ≤ 3652059 := by
 rw [t.grid_at X hi]
 exact h.xday (by split <;> omega)
theorem Tm.Walk.dday {t : Tm} {X E : Nat → Int} {m q i : Nat} (h : t.Walk X E m) (hd : t.Days) (hq : q ≤ m - 1) (hi : i < q + 2) : 1 ≤ t.dd X q i ∧ t.dd X q i ≤ 3652059 := by
 have one := h.one
 have b := (zHt E m).1
 unfold Tm.dd
 split
 ·split
  ·exact hd.1
  ·exact h.xday (by omega)
 ·split
  ·exact h.xday (by omega)
  ·exact hd.2
theorem PlanIs.qm {t : Tm} {c : Ca} {x : Pl} (h : PlanIs t c x) (hc : t.code = 0) : x.q ≤ x.m - 1 := by
 rw [← h.q hc]; exact t.q_bd _ _ _
theorem PlanIs.dday {t : Tm} {c : Ca} {x : Pl} (h : PlanIs t c x) (hc : t.code = 0) {i : Nat} (hi : i < x.q + 2) : 1 ≤ t.dd x.X x.q i ∧ t.dd x.X x.q i ≤ 3652059 :=
 (h.walk hc).dday (t.of_zero hc).2.1 (h.qm hc) hi
theorem PlanIs.gday {t : Tm} {c : Ca} {x : Pl} (h : PlanIs t c x) (hc : t.code = 0) {i : Nat} (hi : i < x.K) : 1 ≤ x.G t i ∧ x.G t i ≤ 3652059 := (h.walk hc).gday hi
def Pl.n (x : Pl) (t : Tm) : Nat := if x.code t = 0 then x.q + 1 + 1 else 0
def Pl.np (x : Pl) (t : Tm) : Nat := if x.code t = 0 then x.q + 1 else 0
def Pl.ng (x : Pl) (t : Tm) : Nat := if x.code t = 0 then x.ns t else 0
def Pl.eo (x : Pl) (t : Tm) : Bool := if x.code t = 0 then t.eo else false
def Pl.en (x : Pl) (t : Tm) : Int := if x.code t = 0 then x.V (x.q + 1) else 0
def Pl.f (x : Pl) (t : Tm) : Int := if x.code t = 0 then fr t.ms else 0
end Go.Proofs.YtpfgdfpaoldhcaaGreatDoor
namespace Go.Proofs.YtpfgdfpaoldhcaaGreatDoor
open Go.RowKit
theorem Held.box_11 {w W : World} {fs : List Fact} (h : Held w fs W) (B : Nat) (x0 x1 x2 x3 x4 x5 x6 x7 x8 x9 x10 : Value) (t : TypeId) (hB : W.heap.size = B) :
  Held w (.cell B 0 x0 :: .cell B 1 x1 :: .cell B 2 x2 :: .cell B 3 x3 :: .cell B 4 x4 :: .cell B 5 x5 :: .cell B 6 x6 :: .cell B 7 x7 :: .cell B 8 x8 :: .cell B 9 x9 :: .cell B 10 x10 :: .free B 0 :: .free B 1 :: .free B 2 :: .free B 3 :: .free B 4 :: .free B 5 :: .free B 6 :: .free B 7 :: .free B 8 :: .free B 9 :: .free B 10 :: fs) (W.alloc (.cells #[x0, x1, x2, x3, x4, x5, x6, x7, x8, x9, x10] t)) := by
 subst hB
 exact ((((((((((((((((((((((h.alloc _).add (f := .free W.heap.size 10) ⟨by simp, by simp [go_sem]⟩).add (f := .free W.heap.size 9) ⟨by simp, by simp [go_sem]⟩).add (f := .free W.heap.size 8) ⟨by simp, by simp [go_sem]⟩).add (f := .free W.heap.size 7) ⟨by simp, by simp [go_sem]⟩).add (f := .free W.heap.size 6) ⟨by simp, by simp [go_sem]⟩).add (f := .free W.heap.size 5) ⟨by simp, by simp [go_sem]⟩).add (f := .free W.heap.size 4) ⟨by simp, by simp [go_sem]⟩).add (f := .free W.heap.size 3) ⟨by simp, by simp [go_sem]⟩).add (f := .free W.heap.size 2) ⟨by simp, by simp [go_sem]⟩).add (f := .free W.heap.size 1) ⟨by simp, by simp [go_sem]⟩).add (f := .free W.heap.size 0) ⟨by simp, by simp [go_sem]⟩).add (f := .cell W.heap.size 10 x10) (by simp [Fact.at, World.cell?_alloc_new])).add (f := .cell W.heap.size 9 x9) (by simp [Fact.at, World.cell?_alloc_new])).add (f := .cell W.heap.size 8 x8) (by simp [Fact.at, World.cell?_alloc_new])).add (f := .cell W.heap.size 7 x7) (by simp [Fact.at, World.cell?_alloc_new])).add (f := .cell W.heap.size 6 x6) (by simp [Fact.at, World.cell?_alloc_new])).add (f := .cell W.heap.size 5 x5) (by simp [Fact.at, World.cell?_alloc_new])).add (f := .cell W.heap.size 4 x4) (by simp [Fact.at, World.cell?_alloc_new])).add (f := .cell W.heap.size 3 x3) (by simp [Fact.at, World.cell?_alloc_new])).add (f := .cell W.heap.size 2 x2) (by simp [Fact.at, World.cell?_alloc_new])).add (f := .cell W.heap.size 1 x1) (by simp [Fact.at, World.cell?_alloc_new])).add (f := .cell W.heap.size 0 x0) (by simp [Fact.at, World.cell?_alloc_new])
end Go.Proofs.YtpfgdfpaoldhcaaGreatDoor
