/- Numbers by parts of four digits: a product, part by part; a quotient, part by part. No program in this text. -/
import Derived.Test.YtmaioofcmgaakaaGreatDoorBigNum
namespace Go.Proofs.YtmaioofcmgaakaaGreatDoor

theorem bv_set (l : List Int) (k : Nat) (x : Int) (h : k < l.length) : bv (l.set k x) = bv l + p4 k * (x - l.getD k 0) := by
  induction l generalizing k with
  | nil => simp at h
  | cons d l ih =>
    cases k with
    | zero => simp [bv_cons, p4_zero]; omega
    | succ k =>
      have := ih k (by simpa using h)
      rw [List.set_cons_succ, bv_cons, bv_cons, this, p4_succ, List.getD_cons_succ]
      grind
theorem dig_set {l : List Int} (h : Dig l) (k : Nat) {x : Int} (h0 : 0 ≤ x) (h1 : x ≤ 9999) : Dig (l.set k x) := by
  intro d hd
  rcases List.mem_or_eq_of_mem_set hd with hd | rfl
  · exact h d hd
  · exact ⟨h0, h1⟩
theorem bv_noughts (n : Nat) : bv (List.replicate n 0) = 0 := by
  induction n with
  | zero => rfl
  | succ n ih => rw [List.replicate_succ, bv_cons, ih]; rfl
theorem dig_noughts (n : Nat) : Dig (List.replicate n 0) := by
  intro d hd
  rw [List.eq_of_mem_replicate hd]
  decide
theorem bv_pad_le {l : List Int} (h : Dig l) (k : Nat) : bv (pad l k) ≤ bv l := by
  have m : ∀ j, bv (pad l k) ≤ bv (pad l (k + j)) := by
    intro j
    induction j with
    | zero => exact Int.le_refl _
    | succ j ih =>
      rw [show k + (j + 1) = k + j + 1 from rfl, bv_pad_succ]
      have := Int.mul_nonneg (Int.le_of_lt (p4_pos (k + j))) (dig_getD h (k + j)).1
      omega
  have := m l.length
  rwa [bv_pad l (k + l.length) (by omega)] at this
theorem p4_lt {a b : Nat} (h : p4 a < p4 b) : a < b := by
  by_cases e : a < b
  · exact e
  · have := p4_mono (show b ≤ a by omega); omega
theorem bv_lt_len {l : List Int} {k : Nat} (h : p4 k ≤ bv l) (hd : Dig l) : k < l.length := p4_lt (Int.lt_of_le_of_lt h (bv_bd hd).2)

/-- What stands in the row, and what is carried, while the parts of db are gone through with part i of da. -/
def ProdIs (da db l : List Int) (i j : Nat) (c : Int) : Prop := bv l + p4 (i + j) * c = bv (pad da i) * bv db + p4 i * (da.getD i 0 * bv (pad db j))
theorem prod_first {da db l : List Int} {i : Nat} (h : bv l = bv (pad da i) * bv db) : ProdIs da db l i 0 0 := by
  unfold ProdIs
  simp [pad, bv_nil]
  exact h
theorem prod_step {da db l : List Int} {i j : Nat} {c : Int} (h : ProdIs da db l i j c) (hk : i + j < l.length) :
    ProdIs da db (l.set (i + j) ((l.getD (i + j) 0 + da.getD i 0 * db.getD j 0 + c) % 10000)) i (j + 1) ((l.getD (i + j) 0 + da.getD i 0 * db.getD j 0 + c) / 10000) := by
  unfold ProdIs at *
  rw [bv_set _ _ _ hk, bv_pad_succ, ← Nat.add_assoc, p4_succ]
  generalize l.getD (i + j) 0 = L at *
  generalize db.getD j 0 = y at *
  generalize da.getD i 0 = x at *
  have e : (L + x * y + c) % 10000 + 10000 * ((L + x * y + c) / 10000) = L + x * y + c := by omega
  have q : p4 (i + j) = p4 i * p4 j := p4_add i j
  generalize (L + x * y + c) % 10000 = M at *
  generalize (L + x * y + c) / 10000 = D at *
  generalize p4 (i + j) = P at *
  generalize p4 i = I at *
  generalize p4 j = J at *
  generalize bv (pad db j) = Y at *
  generalize bv (pad da i) = X at *
  generalize bv db = B at *
  generalize bv l = V at *
  have e2 : P * M + 10000 * P * D = P * L + P * (x * y) + P * c := by
    have := congrArg (fun t => P * t) e
    simp only [Int.mul_add] at this
    grind
  grind
theorem prod_last {da db l : List Int} {i j : Nat} (h : ProdIs da db l i j 0) (hj : db.length ≤ j) : bv l = bv (pad da (i + 1)) * bv db := by
  unfold ProdIs at h
  rw [bv_pad db j hj] at h
  rw [bv_pad_succ]
  grind
/-- As long as something is carried there is room. -/
theorem prod_room {da db l : List Int} {i j : Nat} {c : Int} (ha : Dig da) (hb : Dig db) (hl : Dig l) (h : ProdIs da db l i j c) (hc : 0 < c) : j ≤ db.length := by
  have h1 := (bv_bd hl).1
  have pp := p4_pos (i + j)
  have h2 : p4 (i + j) ≤ p4 (i + j) * c := by
    have := Int.mul_le_mul_of_nonneg_left (show 1 ≤ c by omega) (Int.le_of_lt pp)
    omega
  have x0 := (dig_getD ha i).1
  have h3 : da.getD i 0 * bv (pad db j) ≤ da.getD i 0 * bv db := Int.mul_le_mul_of_nonneg_left (bv_pad_le hb j) x0
  have h4 : p4 i * (da.getD i 0 * bv (pad db j)) ≤ p4 i * (da.getD i 0 * bv db) := Int.mul_le_mul_of_nonneg_left h3 (Int.le_of_lt (p4_pos i))
  have a1 := bv_bd (dig_pad ha (i + 1))
  rw [pad_length] at a1
  have b1 := bv_bd hb
  have h5 : bv (pad da (i + 1)) * bv db < p4 (i + 1) * p4 db.length := by
    have g1 : bv (pad da (i + 1)) * bv db ≤ p4 (i + 1) * bv db := Int.mul_le_mul_of_nonneg_right (Int.le_of_lt a1.2) b1.1
    have g2 : p4 (i + 1) * bv db < p4 (i + 1) * p4 db.length := Int.mul_lt_mul_of_pos_left b1.2 (p4_pos _)
    omega
  have h6 : bv (pad da (i + 1)) * bv db = bv (pad da i) * bv db + p4 i * (da.getD i 0 * bv db) := by
    rw [bv_pad_succ]; grind
  unfold ProdIs at h
  rw [← p4_add] at h5
  have := p4_lt (show p4 (i + j) < p4 (i + 1 + db.length) by omega)
  omega
theorem mul_small {x y : Int} (x0 : 0 ≤ x) (x1 : x ≤ 9999) (y0 : 0 ≤ y) (y1 : y ≤ 9999) : 0 ≤ x * y ∧ x * y ≤ 99980001 := by
  have h1 := Int.mul_nonneg x0 y0
  have h2 := Int.mul_le_mul_of_nonneg_right x1 y0
  omega
end Go.Proofs.YtmaioofcmgaakaaGreatDoor
