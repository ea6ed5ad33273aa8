/- The document's example, at the head of each statement of layer 16: it holds. -/
import Derived.Test.YtjijgcgbnmobfaaGreatDoorDaOfB
import Derived.Test.YtjijgcgbnmobfaaGreatDoorDaRefB
import Derived.Test.YtjijgcgbnmobfaaGreatDoorDaSeq
namespace Go.Proofs.YtjijgcgbnmobfaaGreatDoor
open Go.RowKit
set_option linter.unusedVariables false
set_option linter.unusedSimpArgs false

theorem lday16_is (y m d n : Int) (w : World) (h : nN y m d = n) : Calls Tryz.prog 21 #[.int .i64 y, .int .i64 m, .int .i64 d] w fun e w' => e = .returned (.int .i64 n) ∧ Below w.heap.size w w' := by
  obtain ⟨c, hc⟩ : ∃ c, nE y m d = c := ⟨_, rfl⟩
  have C := Lib.hid (fun v => rnumber_is y m d n c v ⟨h, hc⟩)
  clear h hc
  go_enter Tryz.func21, Tryz.ntmps21
  go_wp2_with fail
  (with_reducible refine (C.out _).mono ?_)
  rintro e w1 ⟨rfl, hb⟩
  go_wp2
  go_ret
  exact ⟨rfl, hb⟩
theorem setv16 {W : World} {ao : Option Addr} {X : Nat → Int} {n cap : Nat} (h : DaysAt W ao X n cap) {B o : Nat} {old : Value} (ho : W.cell? ⟨B, o, none⟩ = some old) (hne : ∀ j, j < n → old ≠ .int .i64 (X j)) (u : Value) : DaysAt (W.setCell ⟨B, o, none⟩ u) ao X n cap :=
  ⟨h.1, fun hn => by
    obtain ⟨b, off, e, hc⟩ := h.2 hn
    refine ⟨b, off, e, fun j hj => ?_⟩
    rw [World.cell?_setCell_other (h := fun g => ?_)]
    · exact hc j hj
    · injection g with g1 g2 _
      subst g1
      subst g2
      have := hc j hj
      rw [ho] at this
      exact hne j hj (Option.some.inj this)⟩
/-- What a store into a cell leaves as it was. -/
def okset (B o : Nat) (old : Value) (w : World) : Fact → Prop
  | .cell b i _ => b ≠ B ∨ i ≠ o
  | .free _ _ => True
  | .is _ _ => True
  | .that P _ => P w ∨ ∀ (W : World) (u : Value), W.cell? ⟨B, o, none⟩ = some old → P W → P (W.setCell ⟨B, o, none⟩ u)
theorem Held.put16 {w W : World} {fs : List Fact} (h : Held w fs W) (gs : List Fact) (B o : Nat) (old u : Value) (hm : Fact.cell B o old ∈ fs) (hB : w.heap.size ≤ B) (hg : ∀ f ∈ gs, f ∈ fs ∧ okset B o old w f) : Held w (.cell B o u :: gs) (W.setCell ⟨B, o, none⟩ u) := by
  have hb := h.old.setCell (p := ⟨B, o, none⟩) hB u
  have hc := h.cell B o old hm
  refine ⟨hb, fun f hf => ?_⟩
  rcases List.mem_cons.1 hf with rfl | hf
  · exact World.cell?_setCell_same' _ _ _ (by rw [hc]; rfl)
  · obtain ⟨m, k⟩ := hg f hf
    have a := h.all f m
    cases f with
    | cell b i v =>
      exact (World.cell?_setCell_other W ⟨B, o, none⟩ ⟨b, i, none⟩ u (fun g => by
        injection g with g1 g2 _
        rcases k with k | k
        · exact k g1.symm
        · exact k g2.symm)).trans a
    | free b i => exact ⟨by simpa using a.1, by simpa [go_sem] using a.2⟩
    | is b i =>
      obtain ⟨v, hv⟩ := Option.isSome_iff_exists.1 a
      obtain ⟨v', hv'⟩ := cell?_setCell_some (p := ⟨B, o, none⟩) (x := u) hv
      exact Option.isSome_iff_exists.2 ⟨v', hv'⟩
    | that P hP =>
      rcases k with k | k
      · exact hP _ _ hb k
      · exact k W u hc a
theorem six_at (W : World) (b : Nat) (a0 a1 a2 a3 a4 a5 : Int) : DaysAt (W.alloc (.cells #[.int .i64 a0, .int .i64 a1, .int .i64 a2, .int .i64 a3, .int .i64 a4, .int .i64 a5] 3)) (some ⟨W.heap.size, 0, none⟩) (ld [a0, a1, a2, a3, a4, a5]) 6 6 :=
  ⟨Nat.le_refl _, fun _ => ⟨W.heap.size, 0, rfl, fun j hj => by
    have : j = 0 ∨ j = 1 ∨ j = 2 ∨ j = 3 ∨ j = 4 ∨ j = 5 := by omega
    rcases this with rfl | rfl | rfl | rfl | rfl | rfl <;> simp [World.cell?_alloc_new, ld]⟩⟩
set_option maxHeartbeats 8000000 in
set_option maxRecDepth 100000 in
theorem dshown_any (w : World) (hL : FactsT w) : Calls Tryz.prog 9 #[] w fun e w' => e = .returned (.bool true) ∧ Below w.heap.size w w' := by
  have H := (Held.start w).add (f := factsTF) hL
  have HF := Lib.hid hL
  have O1 := Lib.hid (fun v h => of_yes 1 0 0 0 738900 739302 3 true false false 0 exX exE 5 exA v h (ex_code false) (by omega) (ex_walk false) ex_short)
  have O2 := Lib.hid (fun v h => of_yes 1 0 0 0 738900 739302 3 true true false 0 exX exE 5 exB v h (ex_code true) (by omega) (ex_walk true) ex_long)
  have O3 := Lib.hid (fun v h => grid_any 1 0 0 0 738900 739302 3 true true false 0 exX exE 5 v h (ex_code true) (by omega) (ex_walk true))
  have O4 := Lib.hid (fun v h => of_no 1 0 0 0 738900 739302 5 true true false 0 1 v h (ex_five true) (by decide))
  rw [show (Tm.mk 1 0 0 0 738900 739302 3 true true false 0).grid exX (gl exE 5) = exG from ex_grid true, ex_gl] at O3
  rw [show exA.length = 6 from rfl] at O1
  rw [show exB.length = 5 from rfl] at O2
  clear hL
  go_enter Tryz.func9, Tryz.ntmps9
  go_wp2_with fail
  (with_reducible refine (lday16_is 2024 1 15 738900 _ (by decide +kernel)).mono ?_)
  rintro e w1 ⟨rfl, hb⟩
  replace H := H.below hb
  clear hb
  go_wp2_with fail
  (with_reducible refine (lday16_is 2025 2 20 739302 _ (by decide +kernel)).mono ?_)
  rintro e w2 ⟨rfl, hb⟩
  replace H := H.below hb
  clear hb
  go_wp2_with fail
  have HB0 := H.size
  replace H := H.box_11 (w2.heap.size) (.int .i64 1) (.int .i64 0) (.int .i64 0) (.int .i64 0) (.int .i64 738900) (.int .i64 739302) (.int .i64 3) (.bool true) (.bool false) (.bool false) (.int .i64 0) 23 rfl
  (with_reducible refine (O1.out _ (H.factsT (by repeat (first | with_reducible exact List.mem_cons_self | with_reducible apply List.mem_cons_of_mem)))).mono ?_)
  rintro e w3 ⟨aA, cA, rfl, hd, hb⟩
  replace H := (H.below hb).add (f := daysF aA (ld exA) 6 cA) hd
  clear hb hd
  have HBT : w.heap.size ≤ w2.heap.size := HB0
  have ct0 := H.cell (w2.heap.size) 0 (.int .i64 1) (by repeat (first | with_reducible exact List.mem_cons_self | with_reducible apply List.mem_cons_of_mem))
  have ct1 := H.cell (w2.heap.size) 1 (.int .i64 0) (by repeat (first | with_reducible exact List.mem_cons_self | with_reducible apply List.mem_cons_of_mem))
  have ct2 := H.cell (w2.heap.size) 2 (.int .i64 0) (by repeat (first | with_reducible exact List.mem_cons_self | with_reducible apply List.mem_cons_of_mem))
  have ct3 := H.cell (w2.heap.size) 3 (.int .i64 0) (by repeat (first | with_reducible exact List.mem_cons_self | with_reducible apply List.mem_cons_of_mem))
  have ct4 := H.cell (w2.heap.size) 4 (.int .i64 738900) (by repeat (first | with_reducible exact List.mem_cons_self | with_reducible apply List.mem_cons_of_mem))
  have ct5 := H.cell (w2.heap.size) 5 (.int .i64 739302) (by repeat (first | with_reducible exact List.mem_cons_self | with_reducible apply List.mem_cons_of_mem))
  have ct6 := H.cell (w2.heap.size) 6 (.int .i64 3) (by repeat (first | with_reducible exact List.mem_cons_self | with_reducible apply List.mem_cons_of_mem))
  have ct7 := H.cell (w2.heap.size) 7 (.bool true) (by repeat (first | with_reducible exact List.mem_cons_self | with_reducible apply List.mem_cons_of_mem))
  have ct8 := H.cell (w2.heap.size) 8 (.bool false) (by repeat (first | with_reducible exact List.mem_cons_self | with_reducible apply List.mem_cons_of_mem))
  have ct9 := H.cell (w2.heap.size) 9 (.bool false) (by repeat (first | with_reducible exact List.mem_cons_self | with_reducible apply List.mem_cons_of_mem))
  have ct10 := H.cell (w2.heap.size) 10 (.int .i64 0) (by repeat (first | with_reducible exact List.mem_cons_self | with_reducible apply List.mem_cons_of_mem))
  have lt := cell_lt ct0
  have ft := H.frozen (w2.heap.size) 8 (by repeat (first | with_reducible exact List.mem_cons_self | with_reducible apply List.mem_cons_of_mem))
  go_wp2_with fail
  clear ct0 ct1 ct2 ct3 ct4 ct5 ct6 ct7 ct8 ct9 ct10 lt

  replace H := H.put16 [.cell (w2.heap.size) 0 (.int .i64 1), .cell (w2.heap.size) 1 (.int .i64 0), .cell (w2.heap.size) 2 (.int .i64 0), .cell (w2.heap.size) 3 (.int .i64 0), .cell (w2.heap.size) 4 (.int .i64 738900), .cell (w2.heap.size) 5 (.int .i64 739302), .cell (w2.heap.size) 6 (.int .i64 3), .cell (w2.heap.size) 7 (.bool true), .cell (w2.heap.size) 9 (.bool false), .cell (w2.heap.size) 10 (.int .i64 0), .free (w2.heap.size) 0, .free (w2.heap.size) 1, .free (w2.heap.size) 2, .free (w2.heap.size) 3, .free (w2.heap.size) 4, .free (w2.heap.size) 5, .free (w2.heap.size) 6, .free (w2.heap.size) 7, .free (w2.heap.size) 8, .free (w2.heap.size) 9, .free (w2.heap.size) 10, factsTF, daysF aA (ld exA) 6 cA] (w2.heap.size) 8 (.bool false) (.bool true) (by repeat (first | with_reducible exact List.mem_cons_self | with_reducible apply List.mem_cons_of_mem)) HBT (by
    intro f hf
    simp only [List.mem_cons, List.not_mem_nil, or_false] at hf
    rcases hf with rfl | rfl | rfl | rfl | rfl | rfl | rfl | rfl | rfl | rfl | rfl | rfl | rfl | rfl | rfl | rfl | rfl | rfl | rfl | rfl | rfl | rfl | rfl
    all_goals refine ⟨(by repeat (first | with_reducible exact List.mem_cons_self | with_reducible apply List.mem_cons_of_mem)), ?_⟩
    all_goals first
      | exact Or.inr (by decide)
      | exact trivial
      | exact Or.inl HF.out
      | exact Or.inr (fun W u ho h => setv16 h ho (fun j hj e => by cases e) u))
  revert H
  generalize World.setCell _ _ _ = W9
  intro H
  (with_reducible refine (O2.out _ (H.factsT (by repeat (first | with_reducible exact List.mem_cons_self | with_reducible apply List.mem_cons_of_mem)))).mono ?_)
  rintro e w4 ⟨aB, cB, rfl, hd, hb⟩
  replace H := (H.below hb).add (f := daysF aB (ld exB) 5 cB) hd
  clear hb hd
  have ct0 := H.cell (w2.heap.size) 0 (.int .i64 1) (by repeat (first | with_reducible exact List.mem_cons_self | with_reducible apply List.mem_cons_of_mem))
  have ct1 := H.cell (w2.heap.size) 1 (.int .i64 0) (by repeat (first | with_reducible exact List.mem_cons_self | with_reducible apply List.mem_cons_of_mem))
  have ct2 := H.cell (w2.heap.size) 2 (.int .i64 0) (by repeat (first | with_reducible exact List.mem_cons_self | with_reducible apply List.mem_cons_of_mem))
  have ct3 := H.cell (w2.heap.size) 3 (.int .i64 0) (by repeat (first | with_reducible exact List.mem_cons_self | with_reducible apply List.mem_cons_of_mem))
  have ct4 := H.cell (w2.heap.size) 4 (.int .i64 738900) (by repeat (first | with_reducible exact List.mem_cons_self | with_reducible apply List.mem_cons_of_mem))
  have ct5 := H.cell (w2.heap.size) 5 (.int .i64 739302) (by repeat (first | with_reducible exact List.mem_cons_self | with_reducible apply List.mem_cons_of_mem))
  have ct6 := H.cell (w2.heap.size) 6 (.int .i64 3) (by repeat (first | with_reducible exact List.mem_cons_self | with_reducible apply List.mem_cons_of_mem))
  have ct7 := H.cell (w2.heap.size) 7 (.bool true) (by repeat (first | with_reducible exact List.mem_cons_self | with_reducible apply List.mem_cons_of_mem))
  have ct8 := H.cell (w2.heap.size) 8 (.bool true) (by repeat (first | with_reducible exact List.mem_cons_self | with_reducible apply List.mem_cons_of_mem))
  have ct9 := H.cell (w2.heap.size) 9 (.bool false) (by repeat (first | with_reducible exact List.mem_cons_self | with_reducible apply List.mem_cons_of_mem))
  have ct10 := H.cell (w2.heap.size) 10 (.int .i64 0) (by repeat (first | with_reducible exact List.mem_cons_self | with_reducible apply List.mem_cons_of_mem))
  have lt := cell_lt ct0
  go_wp2_with fail
  clear ct0 ct1 ct2 ct3 ct4 ct5 ct6 ct7 ct8 ct9 ct10 lt
  (with_reducible refine (O3.out _ (H.factsT (by repeat (first | with_reducible exact List.mem_cons_self | with_reducible apply List.mem_cons_of_mem)))).mono ?_)
  rintro e w5 ⟨aG, cG, rfl, hd, hb⟩
  replace H := (H.below hb).add (f := daysF aG (ld exG) 6 cG) hd
  clear hb hd
  have ct0 := H.cell (w2.heap.size) 0 (.int .i64 1) (by repeat (first | with_reducible exact List.mem_cons_self | with_reducible apply List.mem_cons_of_mem))
  have ct1 := H.cell (w2.heap.size) 1 (.int .i64 0) (by repeat (first | with_reducible exact List.mem_cons_self | with_reducible apply List.mem_cons_of_mem))
  have ct2 := H.cell (w2.heap.size) 2 (.int .i64 0) (by repeat (first | with_reducible exact List.mem_cons_self | with_reducible apply List.mem_cons_of_mem))
  have ct3 := H.cell (w2.heap.size) 3 (.int .i64 0) (by repeat (first | with_reducible exact List.mem_cons_self | with_reducible apply List.mem_cons_of_mem))
  have ct4 := H.cell (w2.heap.size) 4 (.int .i64 738900) (by repeat (first | with_reducible exact List.mem_cons_self | with_reducible apply List.mem_cons_of_mem))
  have ct5 := H.cell (w2.heap.size) 5 (.int .i64 739302) (by repeat (first | with_reducible exact List.mem_cons_self | with_reducible apply List.mem_cons_of_mem))
  have ct6 := H.cell (w2.heap.size) 6 (.int .i64 3) (by repeat (first | with_reducible exact List.mem_cons_self | with_reducible apply List.mem_cons_of_mem))
  have ct7 := H.cell (w2.heap.size) 7 (.bool true) (by repeat (first | with_reducible exact List.mem_cons_self | with_reducible apply List.mem_cons_of_mem))
  have ct8 := H.cell (w2.heap.size) 8 (.bool true) (by repeat (first | with_reducible exact List.mem_cons_self | with_reducible apply List.mem_cons_of_mem))
  have ct9 := H.cell (w2.heap.size) 9 (.bool false) (by repeat (first | with_reducible exact List.mem_cons_self | with_reducible apply List.mem_cons_of_mem))
  have ct10 := H.cell (w2.heap.size) 10 (.int .i64 0) (by repeat (first | with_reducible exact List.mem_cons_self | with_reducible apply List.mem_cons_of_mem))
  have lt := cell_lt ct0
  have ft := H.frozen (w2.heap.size) 6 (by repeat (first | with_reducible exact List.mem_cons_self | with_reducible apply List.mem_cons_of_mem))
  go_wp2_with fail
  clear ct0 ct1 ct2 ct3 ct4 ct5 ct6 ct7 ct8 ct9 ct10 lt
  replace H := H.put16 [.cell (w2.heap.size) 0 (.int .i64 1), .cell (w2.heap.size) 1 (.int .i64 0), .cell (w2.heap.size) 2 (.int .i64 0), .cell (w2.heap.size) 3 (.int .i64 0), .cell (w2.heap.size) 4 (.int .i64 738900), .cell (w2.heap.size) 5 (.int .i64 739302), .cell (w2.heap.size) 7 (.bool true), .cell (w2.heap.size) 8 (.bool true), .cell (w2.heap.size) 9 (.bool false), .cell (w2.heap.size) 10 (.int .i64 0), .free (w2.heap.size) 0, .free (w2.heap.size) 1, .free (w2.heap.size) 2, .free (w2.heap.size) 3, .free (w2.heap.size) 4, .free (w2.heap.size) 5, .free (w2.heap.size) 6, .free (w2.heap.size) 7, .free (w2.heap.size) 8, .free (w2.heap.size) 9, .free (w2.heap.size) 10, factsTF, daysF aA (ld exA) 6 cA, daysF aB (ld exB) 5 cB, daysF aG (ld exG) 6 cG] (w2.heap.size) 6 (.int .i64 3) (.int .i64 5) (by repeat (first | with_reducible exact List.mem_cons_self | with_reducible apply List.mem_cons_of_mem)) HBT (by
    intro f hf
    simp only [List.mem_cons, List.not_mem_nil, or_false] at hf
    rcases hf with rfl | rfl | rfl | rfl | rfl | rfl | rfl | rfl | rfl | rfl | rfl | rfl | rfl | rfl | rfl | rfl | rfl | rfl | rfl | rfl | rfl | rfl | rfl | rfl | rfl
    all_goals refine ⟨(by repeat (first | with_reducible exact List.mem_cons_self | with_reducible apply List.mem_cons_of_mem)), ?_⟩
    all_goals first
      | exact Or.inr (by decide)
      | exact trivial
      | exact Or.inl HF.out
      | exact Or.inr (fun W u ho h => setv16 h ho (fun j hj e => by injection e with _ e; revert e; revert j; decide) u))
  revert H
  generalize World.setCell _ _ _ = W8
  intro H
  (with_reducible refine (O4.out _ (H.factsT (by repeat (first | with_reducible exact List.mem_cons_self | with_reducible apply List.mem_cons_of_mem)))).mono ?_)
  rintro e w6 ⟨rfl, hb⟩
  replace H := H.below hb
  clear hb
  go_wp2_with fail
  (with_reducible refine (lday16_is 2024 1 15 738900 _ (by decide +kernel)).mono ?_)
  rintro e w7 ⟨rfl, hb⟩
  replace H := H.below hb
  clear hb
  go_wp2_with fail
  (with_reducible refine (lday16_is 2024 2 20 738936 _ (by decide +kernel)).mono ?_)
  rintro e w8 ⟨rfl, hb⟩
  replace H := H.below hb
  clear hb
  go_wp2_with fail
  (with_reducible refine (lday16_is 2024 5 20 739026 _ (by decide +kernel)).mono ?_)
  rintro e w9 ⟨rfl, hb⟩
  replace H := H.below hb
  clear hb
  go_wp2_with fail
  (with_reducible refine (lday16_is 2024 8 20 739118 _ (by decide +kernel)).mono ?_)
  rintro e w10 ⟨rfl, hb⟩
  replace H := H.below hb
  clear hb
  go_wp2_with fail
  (with_reducible refine (lday16_is 2024 11 20 739210 _ (by decide +kernel)).mono ?_)
  rintro e w11 ⟨rfl, hb⟩
  replace H := H.below hb
  clear hb
  go_wp2_with fail
  (with_reducible refine (lday16_is 2025 2 20 739302 _ (by decide +kernel)).mono ?_)
  rintro e w12 ⟨rfl, hb⟩
  replace H := H.below hb
  clear hb
  go_upto_region 11 with fail
  have hw := six_at w12 0 738900 738936 739026 739118 739210 739302
  replace H := (H.alloc (.cells #[.int .i64 738900, .int .i64 738936, .int .i64 739026, .int .i64 739118, .int .i64 739210, .int .i64 739302] 3)).add (f := daysF (some ⟨w12.heap.size, 0, none⟩) (ld exA) 6 6) hw
  clear hw
  obtain ⟨bw, hbw⟩ : ∃ bw, w12.heap.size = bw := ⟨_, rfl⟩
  obtain ⟨W0, hW0⟩ : ∃ W0, w12.alloc (.cells #[.int .i64 738900, .int .i64 738936, .int .i64 739026, .int .i64 739118, .int .i64 739210, .int .i64 739302] 3) = W0 := ⟨_, rfl⟩
  rw [hbw, hW0] at H
  rw [hW0]
  (try rw [hbw])
  clear hbw hW0
  obtain ⟨bG, oG, rfl, hG⟩ := (H.days (ao := aG) (X := ld exG) (n := 6) (cap := cG) (by repeat (first | with_reducible exact List.mem_cons_self | with_reducible apply List.mem_cons_of_mem))).2 (by omega)
  have hcG := (H.days (ao := some ⟨bG, oG, none⟩) (X := ld exG) (n := 6) (cap := cG) (by repeat (first | with_reducible exact List.mem_cons_self | with_reducible apply List.mem_cons_of_mem))).1
  obtain ⟨b2, o2, e2, hWn⟩ := (H.days (ao := some ⟨bw, 0, none⟩) (X := ld exA) (n := 6) (cap := 6) (by repeat (first | with_reducible exact List.mem_cons_self | with_reducible apply List.mem_cons_of_mem))).2 (by omega)
  injection e2 with e2
  injection e2 with e3 e4 _
  subst e3 e4
  have g0 := hG 0 (by omega)
  have w0 := hWn 0 (by omega)
  rw [Nat.add_zero] at g0
  replace H := (H.add (f := .cell bG oG (.int .i64 738844)) g0).add (f := .cell bw 0 (.int .i64 738900)) w0
  clear g0 w0 hG hWn
  obtain ⟨i0, hi, hz0, hz1, hz2⟩ := info_parts infoInt13
  replace H := H.drew
  refine wp_region_held_drew (S := fun w' => w'.cell? ⟨bG, oG, none⟩ = some (.int .i64 738844) ∧ w'.cell? ⟨bw, 0, none⟩ = some (.int .i64 738900)) (by kernel_rfl) (⟨H.cell (bG) (oG) (.int .i64 738844) (by repeat (first | with_reducible exact List.mem_cons_self | with_reducible apply List.mem_cons_of_mem)), H.cell (bw) (0) (.int .i64 738900) (by repeat (first | with_reducible exact List.mem_cons_self | with_reducible apply List.mem_cons_of_mem))⟩) (fun hHeld => ?_)
  obtain ⟨WD, hWD⟩ : ∃ WD, World.drew (W0) = WD := ⟨_, rfl⟩
  rw [hWD] at H hHeld ⊢
  clear hWD
  obtain ⟨b0, hb0⟩ : ∃ b0, WD.heap.size = b0 := ⟨_, rfl⟩
  have HB := Below.refl b0 WD
  have HWD := Lib.hid H
  have HS : Hid (∀ W, Below b0 WD W → b0 ≤ W.heap.size) := Lib.hid (fun W h => by have z := h.size; rw [hb0] at z; exact z)
  have HU : Hid (∀ W, Below b0 WD W → Below WD.heap.size WD W) := Lib.hid (fun W h => by rw [hb0]; exact h)
  clear hb0
  refine wpAnyH_take (i := 0) (oi := ⟨some 46, _, _, _, _, _⟩) (v := ?_) rfl (by kernel_rfl) (by kernel_rfl) (by kernel_rfl) (fun _ _ _ h => h) (Or.inl ⟨by rfl, ?_⟩) (by assumption) ?_
  rotate_left
  · intro w hSw; (try dsimp only at hSw); go_simp; try with_reducible rfl
  simp only [Act.put, List.setIfInBounds_toArray, List.set_cons_zero, List.set_cons_succ]
  refine wpAnyH_take (i := 1) (oi := ⟨some 47, _, _, _, _, _⟩) (v := ?_) rfl (by kernel_rfl) (by kernel_rfl) (by kernel_rfl) (fun _ _ _ h => h) (Or.inl ⟨by rfl, ?_⟩) (by assumption) ?_
  rotate_left
  · intro w hSw; (try dsimp only at hSw); go_simp; try with_reducible rfl
  simp only [Act.put, List.setIfInBounds_toArray, List.set_cons_zero, List.set_cons_succ]
  refine wpAnyH_ready (rs := [2]) (by kernel_rfl) (by simp) ?_
  refine AllReadyH.cons (o := ⟨some 48, _, _, _, _, _⟩) rfl (fun K hK => ?_) AllReadyH.nil
  go_simp
  (with_reducible refine (rrow_yes aA 6 cA (ld exA) (some ⟨bw, 0, none⟩) 6 (ld exA) _ (by omega) (H.days (ao := aA) (X := ld exA) (n := 6) (cap := cA) (by repeat (first | with_reducible exact List.mem_cons_self | with_reducible apply List.mem_cons_of_mem))) (H.days (ao := (some ⟨bw, 0, none⟩)) (X := ld exA) (n := 6) (cap := 6) (by repeat (first | with_reducible exact List.mem_cons_self | with_reducible apply List.mem_cons_of_mem))) (fun _ _ => rfl)).mono ?_)
  rintro e U1 ⟨rfl, hb⟩
  replace H := H.below hb
  replace HB := HB.trans (hb.mono (HS.out _ HB))
  clear hb
  go_wp2_with fail
  refine hK.out _ _ (⟨H.cell (bG) (oG) (.int .i64 738844) (by repeat (first | with_reducible exact List.mem_cons_self | with_reducible apply List.mem_cons_of_mem)), H.cell (bw) (0) (.int .i64 738900) (by repeat (first | with_reducible exact List.mem_cons_self | with_reducible apply List.mem_cons_of_mem))⟩) (fun hNew => ?_)
  clear hK K hHeld
  have hHeld := hNew
  clear hNew
  try simp only [Act.put, List.setIfInBounds_toArray, List.set_cons_zero, List.set_cons_succ]
  refine wpAnyH_take (i := 3) (oi := ⟨some 49, _, _, _, _, _⟩) (v := ?_) rfl (by kernel_rfl) (by kernel_rfl) (by kernel_rfl) (fun _ _ _ h => h) (Or.inl ⟨by rfl, ?_⟩) (by assumption) ?_
  rotate_left
  · intro w hSw; (try dsimp only at hSw); go_simp; try with_reducible rfl
  simp only [Act.put, List.setIfInBounds_toArray, List.set_cons_zero, List.set_cons_succ]
  refine wpAnyH_take (i := 4) (oi := ⟨some 50, _, _, _, _, _⟩) (v := ?_) rfl (by kernel_rfl) (by kernel_rfl) (by kernel_rfl) (fun _ _ _ h => h) (Or.inl ⟨by rfl, ?_⟩) (by assumption) ?_
  rotate_left
  · intro w hSw; (try dsimp only at hSw); go_simp; try with_reducible rfl
  simp only [Act.put, List.setIfInBounds_toArray, List.set_cons_zero, List.set_cons_succ]
  refine wpAnyH_take (i := 5) (oi := ⟨some 51, _, _, _, _, _⟩) (v := ?_) rfl (by kernel_rfl) (by kernel_rfl) (by kernel_rfl) (fun _ _ _ h => h) (Or.inl ⟨by rfl, ?_⟩) (by assumption) ?_
  rotate_left
  · intro w hSw; (try dsimp only at hSw); go_simp; try with_reducible rfl
  simp only [Act.put, List.setIfInBounds_toArray, List.set_cons_zero, List.set_cons_succ]
  refine wpAnyH_take (i := 6) (oi := ⟨some 52, _, _, _, _, _⟩) (v := ?_) rfl (by kernel_rfl) (by kernel_rfl) (by kernel_rfl) (fun _ _ _ h => h) (Or.inl ⟨by rfl, ?_⟩) (by assumption) ?_
  rotate_left
  · intro w hSw; (try dsimp only at hSw); go_simp; try with_reducible rfl
  simp only [Act.put, List.setIfInBounds_toArray, List.set_cons_zero, List.set_cons_succ]
  refine wpAnyH_take (i := 7) (oi := ⟨some 53, _, _, _, _, _⟩) (v := ?_) rfl (by kernel_rfl) (by kernel_rfl) (by kernel_rfl) (fun _ _ _ h => h) (Or.inl ⟨by rfl, ?_⟩) (by assumption) ?_
  rotate_left
  · intro w hSw; (try dsimp only at hSw); go_simp; try with_reducible rfl
  simp only [Act.put, List.setIfInBounds_toArray, List.set_cons_zero, List.set_cons_succ]
  refine wpAnyH_take (i := 8) (oi := ⟨some 54, _, _, _, _, _⟩) (v := ?_) rfl (by kernel_rfl) (by kernel_rfl) (by kernel_rfl) (fun _ _ _ h => h) (Or.inl ⟨by rfl, ?_⟩) (by assumption) ?_
  rotate_left
  · intro w hSw; (try dsimp only at hSw); go_simp; try with_reducible rfl
  simp only [Act.put, List.setIfInBounds_toArray, List.set_cons_zero, List.set_cons_succ]
  refine wpAnyH_take (i := 9) (oi := ⟨some 55, _, _, _, _, _⟩) (v := ?_) rfl (by kernel_rfl) (by kernel_rfl) (by kernel_rfl) (fun _ _ _ h => h) (Or.inl ⟨by rfl, ?_⟩) (by assumption) ?_
  rotate_left
  · intro w hSw; (try dsimp only at hSw); go_simp; try with_reducible rfl
  simp only [Act.put, List.setIfInBounds_toArray, List.set_cons_zero, List.set_cons_succ]
  refine wpAnyH_take (i := 10) (oi := ⟨some 56, _, _, _, _, _⟩) (v := ?_) rfl (by kernel_rfl) (by kernel_rfl) (by kernel_rfl) (fun _ _ _ h => h) (Or.inl ⟨by rfl, ?_⟩) (by assumption) ?_
  rotate_left
  · intro w hSw; (try dsimp only at hSw); go_simp; try with_reducible rfl
  simp only [Act.put, List.setIfInBounds_toArray, List.set_cons_zero, List.set_cons_succ]
  refine wpAnyH_take (i := 11) (oi := ⟨some 57, _, _, _, _, _⟩) (v := ?_) rfl (by kernel_rfl) (by kernel_rfl) (by kernel_rfl) (fun _ _ _ h => h) (Or.inl ⟨by rfl, ?_⟩) (by assumption) ?_
  rotate_left
  · intro w hSw; (try dsimp only at hSw); go_simp; try with_reducible rfl
  simp only [Act.put, List.setIfInBounds_toArray, List.set_cons_zero, List.set_cons_succ]
  refine wpAnyH_take (i := 13) (oi := ⟨some 59, _, _, _, _, _⟩) (v := ?_) rfl (by kernel_rfl) (by kernel_rfl) (by kernel_rfl) (fun _ _ _ h => h) (Or.inl ⟨by rfl, ?_⟩) (by assumption) ?_
  rotate_left
  · intro w hSw; (try dsimp only at hSw); go_simp; try with_reducible rfl
  simp only [Act.put, List.setIfInBounds_toArray, List.set_cons_zero, List.set_cons_succ]
  refine wpAnyH_take (i := 14) (oi := ⟨some 60, _, _, _, _, _⟩) (v := ?_) rfl (by kernel_rfl) (by kernel_rfl) (by kernel_rfl) (fun _ _ _ h => h) (Or.inl ⟨by rfl, ?_⟩) (by assumption) ?_
  rotate_left
  · intro w hSw; (try dsimp only at hSw); go_simp; try with_reducible rfl
  simp only [Act.put, List.setIfInBounds_toArray, List.set_cons_zero, List.set_cons_succ]
  refine wpAnyH_ready (rs := [12]) (by kernel_rfl) (by simp) ?_
  refine AllReadyH.cons (o := ⟨some 58, _, _, _, _, _⟩) rfl (fun K hK => ?_) AllReadyH.nil
  have OW := own_one16 (W := U1) (base := b0) (738900) (HS.out _ HB)
  replace H := H.alloc (.cells #[.int .i64 (738900)] 3)
  replace HB := HB.alloc (HS.out _ HB) (.cells #[.int .i64 (738900)] 3)
  go_simp
  refine hK.out _ _ (⟨H.cell (bG) (oG) (.int .i64 738844) (by repeat (first | with_reducible exact List.mem_cons_self | with_reducible apply List.mem_cons_of_mem)), H.cell (bw) (0) (.int .i64 738900) (by repeat (first | with_reducible exact List.mem_cons_self | with_reducible apply List.mem_cons_of_mem))⟩) (fun hNew => ?_)
  clear hK K hHeld
  have hHeld := hNew
  clear hNew
  try simp only [Act.put, List.setIfInBounds_toArray, List.set_cons_zero, List.set_cons_succ]
  obtain ⟨T2, hT2⟩ : ∃ T, U1.heap.size = T := ⟨_, rfl⟩
  obtain ⟨U2, hU2⟩ : ∃ U, U1.alloc (.cells #[.int .i64 (738900)] 3) = U := ⟨_, rfl⟩
  rw [hU2] at H HB hHeld ⊢
  (try rw [hT2])
  rw [hU2] at OW
  (try rw [hT2] at OW)
  clear hT2 hU2
  refine wpAnyH_ready (rs := [15]) (by kernel_rfl) (by simp) ?_
  refine AllReadyH.cons (o := ⟨some 61, _, _, _, _, _⟩) rfl (fun K hK => ?_) AllReadyH.nil
  obtain ⟨v3, U3, hr, ho, hg⟩ := app13 b0 27 27 3 i0 (.int .i64 0) 1 8 Tryz.underlying27 hi hz0 hz1 hz2 rfl (by decide) _ _ _ OW (some ⟨bw, 2, none⟩) 4 4 (il [739026, 739118, 739210, 739302]) (show Row13 _ 1 _ 4 (il (dl (fun i => ld exA (2 + i)) 4)) from row_days (((H.days (ao := (some ⟨bw, 0, none⟩)) (X := ld exA) (n := 6) (cap := 6) (by repeat (first | with_reducible exact List.mem_cons_self | with_reducible apply List.mem_cons_of_mem)))).drop (k := 2) (by omega))) (by omega) (by decide) (HS.out _ HB)
  have HB2 := HB.trans (grown_own (HS.out _ HB) OW hg)
  rw [il_app] at ho
  obtain ⟨aN, cN, rfl, hN⟩ := own_days13 (n := 5) (l := exB) rfl ho
  have HN := Lib.hid hN
  clear hN
  have H2 := HWD.out.below (HU.out _ HB2)
  clear H HB
  have H := H2
  have HB := HB2
  clear H2 HB2 OW
  have OW := ho
  clear ho hg
  (try rw [if_pos (by rfl)])
  refine Lib.wp_append_run _ (.tmp 58) (.tmp 60) 27 27 rfl _ _ rfl rfl _ _ hr ?_
  clear hr
  refine hK.out _ _ (⟨H.cell (bG) (oG) (.int .i64 738844) (by repeat (first | with_reducible exact List.mem_cons_self | with_reducible apply List.mem_cons_of_mem)), H.cell (bw) (0) (.int .i64 738900) (by repeat (first | with_reducible exact List.mem_cons_self | with_reducible apply List.mem_cons_of_mem))⟩) (fun hNew => ?_)
  clear hK K hHeld
  have hHeld := hNew
  clear hNew
  try simp only [Act.put, List.setIfInBounds_toArray, List.set_cons_zero, List.set_cons_succ]
  refine wpAnyH_ready (rs := [16]) (by kernel_rfl) (by simp) ?_
  refine AllReadyH.cons (o := ⟨some 62, _, _, _, _, _⟩) rfl (fun K hK => ?_) AllReadyH.nil
  go_simp
  (with_reducible refine (rrow_yes aB 5 cB (ld exB) aN cN (ld exB) _ (by omega) (H.days (ao := aB) (X := ld exB) (n := 5) (cap := cB) (by repeat (first | with_reducible exact List.mem_cons_self | with_reducible apply List.mem_cons_of_mem))) HN.out (fun _ _ => rfl)).mono ?_)
  rintro e U4 ⟨rfl, hb⟩
  replace H := H.below hb
  replace HB := HB.trans (hb.mono (HS.out _ HB))
  (try replace OW := own_below13 OW hb)
  clear hb
  go_wp2_with fail
  refine hK.out _ _ (⟨H.cell (bG) (oG) (.int .i64 738844) (by repeat (first | with_reducible exact List.mem_cons_self | with_reducible apply List.mem_cons_of_mem)), H.cell (bw) (0) (.int .i64 738900) (by repeat (first | with_reducible exact List.mem_cons_self | with_reducible apply List.mem_cons_of_mem))⟩) (fun hNew => ?_)
  clear hK K hHeld
  have hHeld := hNew
  clear hNew
  try simp only [Act.put, List.setIfInBounds_toArray, List.set_cons_zero, List.set_cons_succ]
  refine wpAnyH_take (i := 17) (oi := ⟨some 63, _, _, _, _, _⟩) (v := ?_) rfl (by kernel_rfl) (by kernel_rfl) (by kernel_rfl) (fun _ _ _ h => h) (Or.inl ⟨by rfl, ?_⟩) (by assumption) ?_
  rotate_left
  · intro w hSw; (try dsimp only at hSw); go_simp; try with_reducible rfl
  simp only [Act.put, List.setIfInBounds_toArray, List.set_cons_zero, List.set_cons_succ]
  refine wpAnyH_take (i := 18) (oi := ⟨some 64, _, _, _, _, _⟩) (v := ?_) rfl (by kernel_rfl) (by kernel_rfl) (by kernel_rfl) (fun _ _ _ h => h) (Or.inl ⟨by rfl, ?_⟩) (by assumption) ?_
  rotate_left
  · intro w hSw; (try dsimp only at hSw); go_simp; try with_reducible rfl
  simp only [Act.put, List.setIfInBounds_toArray, List.set_cons_zero, List.set_cons_succ]
  refine wpAnyH_take (i := 19) (oi := ⟨some 65, _, _, _, _, _⟩) (v := ?_) rfl (by kernel_rfl) (by kernel_rfl) (by kernel_rfl) (fun _ _ _ h => h) (Or.inl ⟨by rfl, ?_⟩) (by assumption) ?_
  rotate_left
  · intro w hSw; (try dsimp only at hSw); go_simp; try with_reducible rfl
  simp only [Act.put, List.setIfInBounds_toArray, List.set_cons_zero, List.set_cons_succ]
  refine wpAnyH_take (i := 20) (oi := ⟨some 66, _, _, _, _, _⟩) (v := ?_) rfl (by kernel_rfl) (by kernel_rfl) (by kernel_rfl) (fun _ _ _ h => h) (Or.inl ⟨by rfl, ?_⟩) (by assumption) ?_
  rotate_left
  · intro w hSw; (try dsimp only at hSw); go_simp; try with_reducible rfl
  simp only [Act.put, List.setIfInBounds_toArray, List.set_cons_zero, List.set_cons_succ]
  refine wpAnyH_take (i := 21) (oi := ⟨some 67, _, _, _, _, _⟩) (v := ?_) rfl (by kernel_rfl) (by kernel_rfl) (by kernel_rfl) (fun _ _ _ h => h) (Or.inl ⟨by rfl, ?_⟩) (by assumption) ?_
  rotate_left
  · intro w hSw; (try dsimp only at hSw); go_simp; try with_reducible rfl
  simp only [Act.put, List.setIfInBounds_toArray, List.set_cons_zero, List.set_cons_succ]
  refine wpAnyH_take (i := 22) (oi := ⟨some 68, _, _, _, _, _⟩) (v := ?_) rfl (by kernel_rfl) (by kernel_rfl) (by kernel_rfl) (fun _ _ _ h => h) (Or.inl ⟨by rfl, ?_⟩) (by assumption) ?_
  rotate_left
  · intro w hSw; (try dsimp only at hSw); go_simp; try with_reducible rfl
  simp only [Act.put, List.setIfInBounds_toArray, List.set_cons_zero, List.set_cons_succ]
  refine wpAnyH_take (i := 23) (oi := ⟨some 69, _, _, _, _, _⟩) (v := ?_) rfl (by kernel_rfl) (by kernel_rfl) (by kernel_rfl) (fun _ _ _ h => h) (Or.inl ⟨by rfl, ?_⟩) (by assumption) ?_
  rotate_left
  · intro w hSw; (try dsimp only at hSw); go_simp; try with_reducible rfl
  simp only [Act.put, List.setIfInBounds_toArray, List.set_cons_zero, List.set_cons_succ]
  refine wpAnyH_take (i := 24) (oi := ⟨some 70, _, _, _, _, _⟩) (v := ?_) rfl (by kernel_rfl) (by kernel_rfl) (by kernel_rfl) (fun _ _ _ h => h) (Or.inl ⟨by rfl, ?_⟩) (by assumption) ?_
  rotate_left
  · intro w hSw; (try dsimp only at hSw); go_simp; try with_reducible rfl
  simp only [Act.put, List.setIfInBounds_toArray, List.set_cons_zero, List.set_cons_succ]
  refine wpAnyH_take (i := 25) (oi := ⟨some 71, _, _, _, _, _⟩) (v := ?_) rfl (by kernel_rfl) (by kernel_rfl) (by kernel_rfl) (fun _ _ _ h => h) (Or.inl ⟨by rfl, ?_⟩) (by assumption) ?_
  rotate_left
  · intro w hSw; (try dsimp only at hSw); go_simp; try with_reducible rfl
  simp only [Act.put, List.setIfInBounds_toArray, List.set_cons_zero, List.set_cons_succ]
  refine wpAnyH_ready (rs := [26]) (by kernel_rfl) (by simp) ?_
  refine AllReadyH.cons (o := ⟨some 72, _, _, _, _, _⟩) rfl (fun K hK => ?_) AllReadyH.nil
  go_simp
  (with_reducible refine (lday16_is 2023 11 20 738844 _ (by decide +kernel)).mono ?_)
  rintro e U5 ⟨rfl, hb⟩
  replace H := H.below hb
  replace HB := HB.trans (hb.mono (HS.out _ HB))
  (try replace OW := own_below13 OW hb)
  clear hb
  go_wp2_with fail
  refine hK.out _ _ (⟨H.cell (bG) (oG) (.int .i64 738844) (by repeat (first | with_reducible exact List.mem_cons_self | with_reducible apply List.mem_cons_of_mem)), H.cell (bw) (0) (.int .i64 738900) (by repeat (first | with_reducible exact List.mem_cons_self | with_reducible apply List.mem_cons_of_mem))⟩) (fun hNew => ?_)
  clear hK K hHeld
  have hHeld := hNew
  clear hNew
  try simp only [Act.put, List.setIfInBounds_toArray, List.set_cons_zero, List.set_cons_succ]
  refine wpAnyH_take (i := 27) (oi := ⟨some 73, _, _, _, _, _⟩) (v := ?_) rfl (by kernel_rfl) (by kernel_rfl) (by kernel_rfl) (fun _ _ _ h => h) (Or.inl ⟨by rfl, ?_⟩) (by assumption) ?_
  rotate_left
  · intro w hSw; (try dsimp only at hSw); go_simp; try with_reducible rfl
  simp only [Act.put, List.setIfInBounds_toArray, List.set_cons_zero, List.set_cons_succ]
  refine wpAnyH_take (i := 28) (oi := ⟨some 74, _, _, _, _, _⟩) (v := ?_) rfl (by kernel_rfl) (by kernel_rfl) (by kernel_rfl) (fun _ _ _ h => h) (Or.inl ⟨by rfl, ?_⟩) (by assumption) ?_
  rotate_left
  · intro w hSw; (try dsimp only at hSw); go_simp; try with_reducible rfl
  simp only [Act.put, List.setIfInBounds_toArray, List.set_cons_zero, List.set_cons_succ]
  refine wpAnyH_take (i := 29) (oi := ⟨some 75, _, _, _, _, _⟩) (v := ?_) rfl (by kernel_rfl) (by kernel_rfl) (by kernel_rfl) (fun _ _ _ h => h) (Or.inl ⟨by rfl, ?_⟩) (by assumption) ?_
  rotate_left
  · intro w hSw; (try dsimp only at hSw); go_simp; try with_reducible rfl
  simp only [Act.put, List.setIfInBounds_toArray, List.set_cons_zero, List.set_cons_succ]
  refine wpAnyH_take (i := 30) (oi := ⟨some 76, _, _, _, _, _⟩) (v := ?_) rfl (by kernel_rfl) (by kernel_rfl) (by kernel_rfl) (fun _ _ _ h => h) (Or.inl ⟨by rfl, ?_⟩) (by assumption) ?_
  rotate_left
  · intro w hSw; (try dsimp only at hSw); go_simp; try with_reducible rfl
  simp only [Act.put, List.setIfInBounds_toArray, List.set_cons_zero, List.set_cons_succ]
  refine wpAnyH_take (i := 31) (oi := ⟨some 77, _, _, _, _, _⟩) (v := .slice (some ⟨bG, oG + 1, none⟩) 5 (cG - 1)) rfl (by kernel_rfl) (by kernel_rfl) (by kernel_rfl) (fun _ _ _ h => h) (Or.inl ⟨by rfl, ?_⟩) (by assumption) ?_
  · intro w hSw; (try dsimp only at hSw); go_simp; (try with_reducible rfl); (try omega)
  simp only [Act.put, List.setIfInBounds_toArray, List.set_cons_zero, List.set_cons_succ]
  refine wpAnyH_take (i := 32) (oi := ⟨some 78, _, _, _, _, _⟩) (v := ?_) rfl (by kernel_rfl) (by kernel_rfl) (by kernel_rfl) (fun _ _ _ h => h) (Or.inl ⟨by rfl, ?_⟩) (by assumption) ?_
  rotate_left
  · intro w hSw; (try dsimp only at hSw); go_simp; try with_reducible rfl
  simp only [Act.put, List.setIfInBounds_toArray, List.set_cons_zero, List.set_cons_succ]
  refine wpAnyH_take (i := 33) (oi := ⟨some 79, _, _, _, _, _⟩) (v := ?_) rfl (by kernel_rfl) (by kernel_rfl) (by kernel_rfl) (fun _ _ _ h => h) (Or.inl ⟨by rfl, ?_⟩) (by assumption) ?_
  rotate_left
  · intro w hSw; (try dsimp only at hSw); go_simp; try with_reducible rfl
  simp only [Act.put, List.setIfInBounds_toArray, List.set_cons_zero, List.set_cons_succ]
  refine wpAnyH_ready (rs := [34]) (by kernel_rfl) (by simp) ?_
  refine AllReadyH.cons (o := ⟨some 80, _, _, _, _, _⟩) rfl (fun K hK => ?_) AllReadyH.nil
  go_simp
  (with_reducible refine (rrow_yes (some ⟨bG, oG + 1, none⟩) 5 (cG - 1) (fun i => ld exG (1 + i)) (some ⟨bw, 1, none⟩) 5 (fun i => ld exA (1 + i)) _ (by omega) ((H.days (ao := (some ⟨bG, oG, none⟩)) (X := ld exG) (n := 6) (cap := cG) (by repeat (first | with_reducible exact List.mem_cons_self | with_reducible apply List.mem_cons_of_mem))).drop (k := 1) (by omega)) ((H.days (ao := (some ⟨bw, 0, none⟩)) (X := ld exA) (n := 6) (cap := 6) (by repeat (first | with_reducible exact List.mem_cons_self | with_reducible apply List.mem_cons_of_mem))).drop (k := 1) (by omega)) (fun i hi => by revert hi; revert i; decide)).mono ?_)
  rintro e U6 ⟨rfl, hb⟩
  replace H := H.below hb
  replace HB := HB.trans (hb.mono (HS.out _ HB))
  (try replace OW := own_below13 OW hb)
  clear hb
  go_wp2_with fail
  refine hK.out _ _ (⟨H.cell (bG) (oG) (.int .i64 738844) (by repeat (first | with_reducible exact List.mem_cons_self | with_reducible apply List.mem_cons_of_mem)), H.cell (bw) (0) (.int .i64 738900) (by repeat (first | with_reducible exact List.mem_cons_self | with_reducible apply List.mem_cons_of_mem))⟩) (fun hNew => ?_)
  clear hK K hHeld
  have hHeld := hNew
  clear hNew
  try simp only [Act.put, List.setIfInBounds_toArray, List.set_cons_zero, List.set_cons_succ]
  refine wpAnyH_take (i := 35) (oi := ⟨some 81, _, _, _, _, _⟩) (v := ?_) rfl (by kernel_rfl) (by kernel_rfl) (by kernel_rfl) (fun _ _ _ h => h) (Or.inl ⟨by rfl, ?_⟩) (by assumption) ?_
  rotate_left
  · intro w hSw; (try dsimp only at hSw); go_simp; try with_reducible rfl
  simp only [Act.put, List.setIfInBounds_toArray, List.set_cons_zero, List.set_cons_succ]
  refine wpAnyH_take (i := 36) (oi := ⟨some 82, _, _, _, _, _⟩) (v := ?_) rfl (by kernel_rfl) (by kernel_rfl) (by kernel_rfl) (fun _ _ _ h => h) (Or.inl ⟨by rfl, ?_⟩) (by assumption) ?_
  rotate_left
  · intro w hSw; (try dsimp only at hSw); go_simp; try with_reducible rfl
  simp only [Act.put, List.setIfInBounds_toArray, List.set_cons_zero, List.set_cons_succ]
  refine wpAnyH_take (i := 37) (oi := ⟨some 83, _, _, _, _, _⟩) (v := ?_) rfl (by kernel_rfl) (by kernel_rfl) (by kernel_rfl) (fun _ _ _ h => h) (Or.inl ⟨by rfl, ?_⟩) (by assumption) ?_
  rotate_left
  · intro w hSw; (try dsimp only at hSw); go_simp; try with_reducible rfl
  simp only [Act.put, List.setIfInBounds_toArray, List.set_cons_zero, List.set_cons_succ]
  refine wpAnyH_take (i := 38) (oi := ⟨some 84, _, _, _, _, _⟩) (v := ?_) rfl (by kernel_rfl) (by kernel_rfl) (by kernel_rfl) (fun _ _ _ h => h) (Or.inl ⟨by rfl, ?_⟩) (by assumption) ?_
  rotate_left
  · intro w hSw; (try dsimp only at hSw); go_simp; try with_reducible rfl
  simp only [Act.put, List.setIfInBounds_toArray, List.set_cons_zero, List.set_cons_succ]
  refine wpAnyH_take (i := 39) (oi := ⟨some 85, _, _, _, _, _⟩) (v := ?_) rfl (by kernel_rfl) (by kernel_rfl) (by kernel_rfl) (fun _ _ _ h => h) (Or.inl ⟨by rfl, ?_⟩) (by assumption) ?_
  rotate_left
  · intro w hSw; (try dsimp only at hSw); go_simp; try with_reducible rfl
  simp only [Act.put, List.setIfInBounds_toArray, List.set_cons_zero, List.set_cons_succ]
  refine wpAnyH_take (i := 40) (oi := ⟨some 86, _, _, _, _, _⟩) (v := ?_) rfl (by kernel_rfl) (by kernel_rfl) (by kernel_rfl) (fun _ _ _ h => h) (Or.inl ⟨by rfl, ?_⟩) (by assumption) ?_
  rotate_left
  · intro w hSw; (try dsimp only at hSw); go_simp; try with_reducible rfl
  simp only [Act.put, List.setIfInBounds_toArray, List.set_cons_zero, List.set_cons_succ]
  refine wpAnyH_take (i := 41) (oi := ⟨some 87, _, _, _, _, _⟩) (v := ?_) rfl (by kernel_rfl) (by kernel_rfl) (by kernel_rfl) (fun _ _ _ h => h) (Or.inl ⟨by rfl, ?_⟩) (by assumption) ?_
  rotate_left
  · intro w hSw; (try dsimp only at hSw); go_simp; try with_reducible rfl
  simp only [Act.put, List.setIfInBounds_toArray, List.set_cons_zero, List.set_cons_succ]
  refine wpAnyH_take (i := 42) (oi := ⟨some 88, _, _, _, _, _⟩) (v := ?_) rfl (by kernel_rfl) (by kernel_rfl) (by kernel_rfl) (fun _ _ _ h => h) (Or.inl ⟨by rfl, ?_⟩) (by assumption) ?_
  rotate_left
  · intro w hSw; (try dsimp only at hSw); go_simp; try with_reducible rfl
  simp only [Act.put, List.setIfInBounds_toArray, List.set_cons_zero, List.set_cons_succ]
  refine wpAnyH_take (i := 43) (oi := ⟨some 89, _, _, _, _, _⟩) (v := ?_) rfl (by kernel_rfl) (by kernel_rfl) (by kernel_rfl) (fun _ _ _ h => h) (Or.inl ⟨by rfl, ?_⟩) (by assumption) ?_
  rotate_left
  · intro w hSw; (try dsimp only at hSw); go_simp; try with_reducible rfl
  simp only [Act.put, List.setIfInBounds_toArray, List.set_cons_zero, List.set_cons_succ]
  refine wpAnyH_take (i := 44) (oi := ⟨some 0, _, _, _, _, _⟩) (v := ?_) rfl (by kernel_rfl) (by kernel_rfl) (by kernel_rfl) (fun _ _ _ h => h) (Or.inl ⟨by rfl, ?_⟩) (by assumption) ?_
  rotate_left
  · intro w hSw; (try dsimp only at hSw); go_simp; try with_reducible rfl
  simp only [Act.put, List.setIfInBounds_toArray, List.set_cons_zero, List.set_cons_succ]
  refine wpAnyH_done (by kernel_rfl) ?_ _
  clear hHeld
  go_wp2
  go_ret
  exact ⟨rfl, H.old⟩
end Go.Proofs.YtjijgcgbnmobfaaGreatDoor
