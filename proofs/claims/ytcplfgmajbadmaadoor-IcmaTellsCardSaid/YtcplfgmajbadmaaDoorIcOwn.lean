/- Rows of numbers that the call itself makes: append, in a region that draws its order, and elsewhere. -/
import Derived.Test.YtcplfgmajbadmaaDoorIcScales
import Derived.Test.YtcplfgmajbadmaaDoorIcSpNum
import Derived.Deep.RegionLaw
namespace Go.Proofs.YtcplfgmajbadmaaDoor
open Go.RowKit
set_option linter.unusedVariables false
set_option linter.unusedSimpArgs false

def ints (X : Nat → Int) (n : Nat) : List Value := (List.range n).map fun i => Value.int .i64 (X i)
theorem ints_len (X : Nat → Int) (n : Nat) : (ints X n).length = n := by simp [ints]
theorem ints_get {X : Nat → Int} {n j : Nat} {u : Value} (h : (ints X n)[j]? = some u) : j < n ∧ u = .int .i64 (X j) := by
  have hj : j < n := by
    rcases Nat.lt_or_ge j n with k | k
    · exact k
    · rw [List.getElem?_eq_none (by rw [ints_len]; exact k)] at h; cases h
  refine ⟨hj, ?_⟩
  simp [ints, hj] at h
  exact h.symm
theorem ints_one (X : Nat → Int) (n : Nat) : ∀ u ∈ ints X n, u.oneCell' = true := by
  intro u hu
  obtain ⟨i, _, rfl⟩ := List.mem_map.1 hu
  rfl
theorem ints_app {X Y Z : Nat → Int} {n m : Nat} (h1 : ∀ i, i < n → Z i = X i) (h2 : ∀ i, i < m → Z (n + i) = Y i) : ints X n ++ ints Y m = ints Z (n + m) := by
  apply List.ext_getElem
  · rw [List.length_append, ints_len, ints_len, ints_len]
  · intro i a b
    rw [ints_len] at b
    by_cases c : i < n
    · rw [List.getElem_append_left (by rw [ints_len]; exact c)]
      simp [ints, h1 i c]
    · rw [List.getElem_append_right (by rw [ints_len]; omega)]
      have := h2 (i - n) (by omega)
      rw [show n + (i - n) = i by omega] at this
      simp [ints, ints_len, this]
theorem ints_single (x : Int) : [Value.int .i64 x] = ints (fun _ => x) 1 := rfl
theorem add_plain9 (b off j : Nat) : (⟨b, off, none⟩ : Addr).add j = ⟨b, off + j, none⟩ := by
  unfold Addr.add
  split
  · next h => subst h; rfl
  · rfl
theorem cells_news {W : World} {b off n : Nat} {X : Nat → Int} (h : Cells W b off X n) : ∀ j u, (ints X n)[j]? = some u → W.cell? ((⟨b, off, none⟩ : Addr).add j) = some u := by
  intro j u hu
  obtain ⟨hj, rfl⟩ := ints_get hu
  rw [add_plain9]
  exact h j hj
theorem Cells.drop {W : World} {b off n k : Nat} {X : Nat → Int} (h : Cells W b off X n) (hk : k ≤ n) : Cells W b (off + k) (fun i => X (k + i)) (n - k) := fun j hj => by
  have := h (k + j) (by omega)
  rwa [← Nat.add_assoc] at this
theorem Cells.take {W : World} {b off n k : Nat} {X : Nat → Int} (h : Cells W b off X n) (hk : k ≤ n) : Cells W b off X k := fun j hj => h j (by omega)
theorem own_empty (W : World) : (W.alloc (.cells #[] 3)).ownsRow W.heap.size 3 1 (.slice (some ⟨W.heap.size, 0, none⟩) 0 0) 0 [] := by
  refine ⟨by simp, .inr ⟨W.heap.size, 0, #[], rfl, Nat.le_refl _, World.alloc_heap_new W _, Nat.le_refl _, Nat.zero_le _, by simp, by simp⟩⟩
theorem own_single (W : World) (x : Int) : (W.alloc (.cells #[.int .i64 x] 3)).ownsRow W.heap.size 3 1 (.slice (some ⟨W.heap.size, 0, none⟩) 1 1) 1 [.int .i64 x] := by
  refine ⟨by simp, .inr ⟨W.heap.size, 1, #[.int .i64 x], rfl, Nat.le_refl _, World.alloc_heap_new W _, Nat.le_refl _, by unfold maxLen; decide, by simp, by simp⟩⟩
theorem own_grown {W W' : World} {B : Nat} {e : TypeId} {s n : Nat} {v : Value} {xs : List Value} (hB : B ≤ W.heap.size) (hown : W.ownsRow B e s v n xs) (hg : W.grownBy W' v.ownBlock) : Below B W W' :=
  (Below.refl B W).grown hg hB (fun k hk => (World.ownsRow.lt hown k hk).1)
/-- A row that the call has made, as days. -/
theorem own_days {W : World} {base n : Nat} {v : Value} {X : Nat → Int} (h : W.ownsRow base 3 1 v n (ints X n)) : ∃ ao cap, v = .slice ao n cap ∧ RowAt W ao X n cap := own_row h

theorem new_one9 (W : World) (v : Value) (t : TypeId) : (W.alloc (.cells #[v] t)).cell? ⟨W.heap.size, 0, none⟩ = some v := by simp [World.cell?_alloc_new]
theorem one_news {W : World} {T : Nat} {x : Value} (h : W.cell? ⟨T, 0, none⟩ = some x) : ∀ j u, [x][j]? = some u → W.cell? ((⟨T, 0, none⟩ : Addr).add j) = some u := by
  intro j u hu
  match j, hu with
  | 0, hu => simp at hu; subst hu; rw [add_plain9]; exact h
theorem one_one (x : Int) : ∀ u ∈ [Value.int .i64 x], u.oneCell' = true := by intro u hu; simp at hu; subst hu; rfl
theorem tw_row {W : World} {base m k : Nat} {v : Value} {X : Nat → Int} (hk : k ≤ m) (h : W.ownsRow base 3 1 v (0 + k + 1 + (m + 1 - k)) ([] ++ ints X k ++ [.int .i64 (X k)] ++ ints (fun i => X (k + i)) (m + 1 - k))) :
    W.ownsRow base 3 1 v (m + 2) (ints (tw X k) (m + 2)) := by
  have e1 : ints X k ++ [.int .i64 (X k)] = ints (tw X k) (k + 1) := by
    rw [ints_single, ints_app (Z := tw X k)]
    · intro i hi; exact tw_lo (by omega)
    · intro i hi
      obtain rfl : i = 0 := by omega
      exact tw_lo (Nat.le_refl _)
  have e2 : ints (tw X k) (k + 1) ++ ints (fun i => X (k + i)) (m + 1 - k) = ints (tw X k) (k + 1 + (m + 1 - k)) := by
    refine ints_app (fun _ _ => rfl) (fun i hi => ?_)
    rw [show k + 1 + i = (k + i) + 1 by omega, tw_hi (by omega)]
  rw [List.nil_append, e1, e2] at h
  rwa [show 0 + k + 1 + (m + 1 - k) = m + 2 by omega, show k + 1 + (m + 1 - k) = m + 2 by omega] at h

theorem ahd_row {W : World} {base m : Nat} {v : Value} {X : Nat → Int} {y : Int} (h : W.ownsRow base 3 1 v (1 + (m + 1)) ([.int .i64 y] ++ ints X (m + 1))) : W.ownsRow base 3 1 v (m + 2) (ints (ahd X y) (m + 2)) := by
  have e : [.int .i64 y] ++ ints X (m + 1) = ints (ahd X y) (1 + (m + 1)) := by
    rw [ints_single]
    refine ints_app (fun i hi => ?_) (fun i hi => ?_)
    · obtain rfl : i = 0 := by omega
      rfl
    · rw [show 1 + i = i + 1 by omega, ahd_succ]
  rw [e] at h
  rwa [show 1 + (m + 1) = m + 2 by omega] at h
theorem bhd_row {W : World} {base m : Nat} {v : Value} {X : Nat → Int} {y : Int} (h : W.ownsRow base 3 1 v (m + 1 + 1) (ints X (m + 1) ++ [.int .i64 y])) : W.ownsRow base 3 1 v (m + 2) (ints (bhd X m y) (m + 2)) := by
  have e : ints X (m + 1) ++ [.int .i64 y] = ints (bhd X m y) (m + 1 + 1) := by
    rw [ints_single]
    refine ints_app (fun i hi => bhd_lo (by omega)) (fun i hi => ?_)
    obtain rfl : i = 0 := by omega
    exact bhd_hi X m y
  rwa [e] at h

section
variable {ops : Array Oper} {o : Oper} {a : Act} {w : World} {Q : Exit → Act → World → Prop}
/-- append onto a row of the call's own, as one step of a region that draws. -/
theorem step_row {K : Act → World → Prop} {E : Prop} (hg : o.guard = none) (s x : Operand) (ho : o.op = .call { callee := .builtin .append, args := #[s, x], argTypes := #[22, 22] })
    (base : Nat) (v : Value) (n : Nat) (xs : List Value) (hs : a.eval s = v) (hown : w.ownsRow base 3 1 v n xs) (ad : Addr) (m c : Nat) (news : List Value) (hx : a.eval x = .slice (some ad) m c) (hl : news.length = m)
    (hnews : ∀ j u, news[j]? = some u → w.cell? (ad.add j) = some u) (h1 : ∀ u ∈ news, u.oneCell' = true) (hsz : n + m ≤ 1000) (hbase : base ≤ w.heap.size)
    (h : ∀ v' w', w'.ownsRow base 3 1 v' (n + m) (xs ++ news) → w.grownBy w' v.ownBlock → K (a.put o.dst v') w') : if Region.wanted o (yielded ops a.tmps) = true then Oper.wp Tryd.prog o a w K Q else E := by
  have hw : Region.wanted o (yielded ops a.tmps) = true := by simp [Region.wanted, hg]
  rw [if_pos hw]
  obtain ⟨i0, hi, hz0, hz1, hz2⟩ := info_parts infoInt
  exact wp_append_own w s x 22 ho base 3 i0 (.int .i64 0) 1 8 Tryd.underlying22 hi hz0 hz1 hz2 rfl (by decide) v n xs hs hown ad m c news hx (by omega) hnews h1 (by unfold maxLen; omega) (by omega) hbase (fun v' w' h2 h3 _ => h v' w' h2 h3)
/-- .. elsewhere. -/
theorem wpList_row {rest : List Oper} (hg : o.guard = none) (s x : Operand) (ho : o.op = .call { callee := .builtin .append, args := #[s, x], argTypes := #[22, 22] })
    (base : Nat) (v : Value) (n : Nat) (xs : List Value) (hs : a.eval s = v) (hown : w.ownsRow base 3 1 v n xs) (ad : Addr) (m c : Nat) (news : List Value) (hx : a.eval x = .slice (some ad) m c) (hl : news.length = m)
    (hnews : ∀ j u, news[j]? = some u → w.cell? (ad.add j) = some u) (h1 : ∀ u ∈ news, u.oneCell' = true) (hsz : n + m ≤ 1000) (hbase : base ≤ w.heap.size)
    (h : ∀ v' w', w'.ownsRow base 3 1 v' (n + m) (xs ++ news) → w.grownBy w' v.ownBlock → wpList Tryd.prog ops Q rest (a.put o.dst v') w') : wpList Tryd.prog ops Q (o :: rest) a w := by
  obtain ⟨i0, hi, hz0, hz1, hz2⟩ := info_parts infoInt
  exact wpList_append_own w hg s x 22 ho base 3 i0 (.int .i64 0) 1 8 Tryd.underlying22 hi hz0 hz1 hz2 rfl (by decide) v n xs hs hown ad m c news hx (by omega) hnews h1 (by unfold maxLen; omega) (by omega) hbase (fun v' w' h2 h3 _ => h v' w' h2 h3)
end
end Go.Proofs.YtcplfgmajbadmaaDoor
