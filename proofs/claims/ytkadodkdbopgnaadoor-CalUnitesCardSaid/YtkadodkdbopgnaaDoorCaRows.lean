/- Rows of rules, eight cells each: as lists of cells, one behind the other; rows that the call has made. -/
import Derived.Test.YtkadodkdbopgnaaDoorCaDays
namespace Go.Proofs.YtkadodkdbopgnaaDoor
open Go.RowKit
set_option linter.unusedVariables false
set_option linter.unusedSimpArgs false

def rc (r : Ru) : List Value := [.int .i64 r.k, .int .i64 r.m, .int .i64 r.d, .int .i64 r.q, .int .i64 r.o, .int .i64 r.s, .int .i64 r.f, .int .i64 r.t]
def rl (R : Nat → Ru) : Nat → List Value
  | 0 => []
  | n + 1 => rl R n ++ rc (R n)
theorem rc_len (r : Ru) : (rc r).length = 8 := rfl
theorem rl_len (R : Nat → Ru) : ∀ n, (rl R n).length = n * 8
  | 0 => rfl
  | n + 1 => by
    show (rl R n ++ rc (R n)).length = _
    rw [List.length_append, rl_len R n, rc_len]; omega
theorem rl_get {R : Nat → Ru} {j i : Nat} (hi : i < 8) : ∀ {n}, j < n → (rl R n)[j * 8 + i]? = (rc (R j))[i]?
  | n + 1, h => by
    show (rl R n ++ rc (R n))[j * 8 + i]? = _
    by_cases e : j < n
    · rw [List.getElem?_append_left (by rw [rl_len]; omega)]
      exact rl_get hi e
    · obtain rfl : j = n := by omega
      rw [List.getElem?_append_right (by rw [rl_len]; omega), rl_len, Nat.add_sub_cancel_left]
theorem rl_ext {R S : Nat → Ru} : ∀ {n}, (∀ j, j < n → R j = S j) → rl R n = rl S n
  | 0, _ => rfl
  | n + 1, h => by
    show rl R n ++ rc (R n) = rl S n ++ rc (S n)
    rw [rl_ext (fun j hj => h j (by omega)), h n (by omega)]
def both (R S : Nat → Ru) (n : Nat) (j : Nat) : Ru := if j < n then R j else S (j - n)
theorem rl_app (R S : Nat → Ru) (n : Nat) : ∀ m, rl R n ++ rl S m = rl (both R S n) (n + m)
  | 0 => by
    show rl R n ++ [] = _
    rw [List.append_nil, Nat.add_zero]
    exact rl_ext (fun j hj => by unfold both; rw [if_pos hj])
  | m + 1 => by
    show rl R n ++ (rl S m ++ rc (S m)) = rl (both R S n) (n + m) ++ rc (both R S n (n + m))
    rw [← List.append_assoc, rl_app R S n m]
    have : both R S n (n + m) = S m := by unfold both; rw [if_neg (by omega), Nat.add_sub_cancel_left]
    rw [this]
theorem rc_cell {W : World} {b off : Nat} {r : Ru} (h : RCell W b off r) {i : Nat} {u : Value} (hu : (rc r)[i]? = some u) : W.cell? ⟨b, off + i, none⟩ = some u := by
  obtain ⟨c0, c1, c2, c3, c4, c5, c6, c7⟩ := h
  match i, hu with
  | 0, hu => obtain rfl := Option.some.inj hu; exact c0
  | 1, hu => obtain rfl := Option.some.inj hu; exact c1
  | 2, hu => obtain rfl := Option.some.inj hu; exact c2
  | 3, hu => obtain rfl := Option.some.inj hu; exact c3
  | 4, hu => obtain rfl := Option.some.inj hu; exact c4
  | 5, hu => obtain rfl := Option.some.inj hu; exact c5
  | 6, hu => obtain rfl := Option.some.inj hu; exact c6
  | 7, hu => obtain rfl := Option.some.inj hu; exact c7
  | i + 8, hu => simp [rc] at hu
theorem rl_news {W : World} {b off n : Nat} {R : Nat → Ru} (h : RCells W b off R n) : ∀ j u, (rl R n)[j]? = some u → W.cell? ((⟨b, off, none⟩ : Addr).add j) = some u := by
  intro j u hu
  have hj : j < n * 8 := by
    rcases Nat.lt_or_ge j (n * 8) with k | k
    · exact k
    · rw [List.getElem?_eq_none (by rw [rl_len]; exact k)] at hu; cases hu
  obtain ⟨q, i, hq, hi, rfl⟩ : ∃ q i, q < n ∧ i < 8 ∧ j = q * 8 + i := ⟨j / 8, j % 8, by omega, by omega, by omega⟩
  rw [rl_get hi hq] at hu
  rw [add_plain13, ← Nat.add_assoc]
  exact rc_cell (h q hq) hu
theorem rl_one (R : Nat → Ru) : ∀ n, ∀ u ∈ rl R n, u.oneCell' = true
  | 0, u, h => by cases h
  | n + 1, u, h => by
    rcases List.mem_append.1 h with h | h
    · exact rl_one R n u h
    · simp [rc] at h
      rcases h with rfl | rfl | rfl | rfl | rfl | rfl | rfl | rfl <;> rfl
/-- A row of rules that the call has made. -/
theorem own_rules {W : World} {base n : Nat} {v : Value} {R : Nat → Ru} (h : W.ownsRow base 51 8 v n (rl R n)) : ∃ ao cap, v = .slice ao n cap ∧ RulesAt W ao R n cap := by
  have h0 := h
  rcases h.2 with ⟨rfl, e⟩ | ⟨g, cap, cur, rfl, _, _, hc, _⟩
  · refine ⟨none, 0, by rw [e], by omega, fun k => absurd k (by omega)⟩
  · refine ⟨_, _, rfl, hc, fun _ => ⟨g, 0, rfl, fun j hj => ?_⟩⟩
    have key : ∀ i, i < 8 → ∀ u, (rc (R j))[i]? = some u → W.cell? ⟨g, 0 + j * 8 + i, none⟩ = some u := fun i hi u hu => by
      have := World.ownsRow.cellAt h0 (j * 8 + i) (by omega)
      rw [Nat.zero_add, this, rl_get hi hj]
      exact hu
    exact ⟨key 0 (by decide) _ rfl, key 1 (by decide) _ rfl, key 2 (by decide) _ rfl, key 3 (by decide) _ rfl, key 4 (by decide) _ rfl, key 5 (by decide) _ rfl, key 6 (by decide) _ rfl, key 7 (by decide) _ rfl⟩
theorem infoRule : (Tryd.prog.info? 51).map (fun i => (i.zero, i.size, i.bytes)) = some (some (.agg #[.int .i64 0, .int .i64 0, .int .i64 0, .int .i64 0, .int .i64 0, .int .i64 0, .int .i64 0, .int .i64 0]), 8, 64) := by kernel_rfl
end Go.Proofs.YtkadodkdbopgnaaDoor
