/- Layer 13 in plain numbers: days of both, laid in one list, sorted, and each kept once, are the days that the union has. No program in this text. -/
import Derived.Test.YtkadodkdbopgnaaDoorCaUn
import Derived.Lib.SlicesCompact
namespace Go.Proofs.YtkadodkdbopgnaaDoor
set_option linter.unusedVariables false

/-- Rising lists of the same numbers are the same. -/
theorem rise_eq : ∀ (l m : List Int), l.Pairwise (· < ·) → m.Pairwise (· < ·) → (∀ z, z ∈ l ↔ z ∈ m) → l = m
  | [], [], _, _, _ => rfl
  | [], y :: m, _, _, h => absurd ((h y).2 List.mem_cons_self) (by simp)
  | x :: l, [], _, _, h => absurd ((h x).1 List.mem_cons_self) (by simp)
  | x :: l, y :: m, hl, hm, h => by
    have hl2 := List.pairwise_cons.1 hl
    have hm2 := List.pairwise_cons.1 hm
    have e : x = y := by
      rcases List.mem_cons.1 ((h x).1 List.mem_cons_self) with a | a
      · exact a
      · rcases List.mem_cons.1 ((h y).2 List.mem_cons_self) with b | b
        · exact b.symm
        · have := hm2.1 x a; have := hl2.1 y b; omega
    subst e
    rw [rise_eq l m hl2.2 hm2.2 (fun z => ?_)]
    constructor
    · intro hz
      rcases List.mem_cons.1 ((h z).1 (List.mem_cons_of_mem _ hz)) with a | a
      · have := hl2.1 z hz; omega
      · exact a
    · intro hz
      rcases List.mem_cons.1 ((h z).2 (List.mem_cons_of_mem _ hz)) with a | a
      · have := hm2.1 z hz; omega
      · exact a
open Go.Lib in
theorem comp_up (zs : List Int) (hs : zs.Pairwise (· ≤ ·)) : ∀ m, m ≤ zs.length → (compactUpTo zs.toArray m).Pairwise (· < ·) ∧ (∀ z, z ∈ compactUpTo zs.toArray m ↔ z ∈ zs.take m)
  | 0, _ => by simp [compactUpTo]
  | m + 1, h => by
    obtain ⟨h1, h2⟩ := comp_up zs hs m (by omega)
    have gm : zs.toArray[m]! = zs[m] := by rw [getElem!_pos zs.toArray m (by simp; omega)]; simp
    have le : ∀ i j (hi : i < zs.length) (hj : j < zs.length), i ≤ j → zs[i] ≤ zs[j] := fun i j hi hj hij => by
      rcases Nat.lt_or_ge i j with c | c
      · exact List.pairwise_iff_getElem.1 hs i j hi hj c
      · obtain rfl : i = j := by omega
        exact Int.le_refl _
    have tk : zs.take (m + 1) = zs.take m ++ [zs[m]] := by rw [List.take_add_one, List.getElem?_eq_getElem (by omega)]; rfl
    rw [compactUpTo_succ, tk]
    by_cases k : keeps zs.toArray m = true
    · rw [if_pos k, gm]
      refine ⟨List.pairwise_append.2 ⟨h1, by simp, fun a ha b hb => ?_⟩, fun z => ?_⟩
      · obtain rfl : b = zs[m] := by simpa using hb
        rw [h2] at ha
        obtain ⟨i, hi, rfl⟩ := List.mem_take_iff_getElem.1 ha
        have hi2 : i < m := by omega
        have k2 := k
        unfold keeps at k2
        rw [decide_eq_true_eq, gm, getElem!_pos zs.toArray (m - 1) (by simp; omega)] at k2
        rcases k2 with k2 | k2
        · omega
        · have e1 := le i (m - 1) (by omega) (by omega) (by omega)
          have e2 := le (m - 1) m (by omega) (by omega) (by omega)
          simp at k2
          omega
      · rw [List.mem_append, List.mem_append, h2]
    · have k2 : keeps zs.toArray m = false := by simpa using k
      rw [k2, if_neg (by decide), List.append_nil]
      refine ⟨h1, fun z => ?_⟩
      rw [h2, List.mem_append]
      constructor
      · exact Or.inl
      · rintro (a | a)
        · exact a
        · obtain rfl : z = zs[m] := by simpa using a
          unfold keeps at k2
          rw [decide_eq_false_iff_not, gm] at k2
          have m0 : 0 < m := by
            rcases Nat.eq_zero_or_pos m with c | c
            · exact absurd (Or.inl c) k2
            · exact c
          have k3 : zs[m] = zs[m - 1] := by
            by_cases c : zs[m] = zs[m - 1]
            · exact c
            · refine absurd (Or.inr ?_) k2
              rw [getElem!_pos zs.toArray (m - 1) (by simp; omega)]
              simpa using c
          rw [List.mem_take_iff_getElem]
          exact ⟨m - 1, by omega, by rw [k3]⟩
open Go.Lib in
theorem comp_rise (zs : List Int) (hs : zs.Pairwise (· ≤ ·)) : (compact zs).Pairwise (· < ·) ∧ ∀ z, z ∈ compact zs ↔ z ∈ zs := by
  have h := comp_up zs hs zs.length (Nat.le_refl _)
  unfold compact
  exact ⟨h.1, fun z => by rw [h.2 z, List.take_length]⟩
/-- What is sorted, and kept once. -/
def srt (l : List Int) : List Int := l.mergeSort fun x y => decide (x ≤ y)
theorem srt_len (l : List Int) : (srt l).length = l.length := List.length_mergeSort l
theorem srt_mem (l : List Int) (z : Int) : z ∈ srt l ↔ z ∈ l := List.mem_mergeSort
theorem srt_rise (l : List Int) : (srt l).Pairwise (· ≤ ·) := by
  have := List.pairwise_mergeSort (le := fun x y : Int => decide (x ≤ y)) (fun a b c h1 h2 => by simp at *; omega) (fun a b => by simp; omega) l
  refine this.imp ?_
  intro a b h
  simpa using h
theorem comp_srt {xs ys : List Int} (hx : xs.Pairwise (· < ·)) (hy : ys.Pairwise (· < ·)) : Go.Lib.compact (srt (xs ++ ys)) = mg xs ys := by
  have h := comp_rise (srt (xs ++ ys)) (srt_rise _)
  refine rise_eq _ _ h.1 (rise_mg _ _ hx hy) (fun z => ?_)
  rw [h.2, srt_mem, List.mem_append, mem_mg]
end Go.Proofs.YtkadodkdbopgnaaDoor
