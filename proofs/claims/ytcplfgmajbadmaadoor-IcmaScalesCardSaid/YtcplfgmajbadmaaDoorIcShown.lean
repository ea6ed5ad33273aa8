/- The document's examples of layer 9. -/
import Derived.Test.YtcplfgmajbadmaaDoorIcWay
import Derived.Test.YtcplfgmajbadmaaDoorIcRefQ
import Derived.Test.YtcplfgmajbadmaaDoorCShown
import Derived.Deep.RegionHeld3
import Derived.Deep.CutRange
namespace Go.Proofs.YtcplfgmajbadmaaDoor
open Go.RowKit
set_option linter.unusedVariables false
set_option linter.unusedSimpArgs false

/-- A box that is made in a region, and filled at its end. -/
theorem box_late {w W0 W4 : World} {fs : List Fact} {u0 u1 : Value} (H : Held w fs W0) (hb : Below W0.heap.size W0 W4) (c0 : W4.cell? ⟨W0.heap.size, 0, none⟩ = some u0) (c1 : W4.cell? ⟨W0.heap.size, 1, none⟩ = some u1) (f0 : W4.frozen? ⟨W0.heap.size, 0, none⟩ = false) (f1 : W4.frozen? ⟨W0.heap.size, 1, none⟩ = false) (p q : Value) :
    Held w (.cell W0.heap.size 0 p :: .cell W0.heap.size 1 q :: .free W0.heap.size 0 :: .free W0.heap.size 1 :: fs) ((W4.setCell ⟨W0.heap.size, 0, none⟩ p).setCell ⟨W0.heap.size, 1, none⟩ q) := by
  have l := cell_lt c0
  have HB : Below W0.heap.size W0 ((W4.setCell ⟨W0.heap.size, 0, none⟩ p).setCell ⟨W0.heap.size, 1, none⟩ q) := (hb.setCell (Nat.le_refl _) _).setCell (Nat.le_refl _) _
  refine ((((H.below HB).add (f := .free W0.heap.size 1) ⟨by simpa using l, by rw [World.frozen?_setCell, World.frozen?_setCell]; exact f1⟩).add (f := .free W0.heap.size 0) ⟨by simpa using l, by rw [World.frozen?_setCell, World.frozen?_setCell]; exact f0⟩).add (f := .cell W0.heap.size 1 q) ?_).add (f := .cell W0.heap.size 0 p) ?_
  · exact World.cell?_setCell_same' _ _ _ (by rw [World.cell?_setCell_other _ _ _ _ (by simp), c1]; rfl)
  · exact (World.cell?_setCell_other _ _ _ _ (by simp)).trans (World.cell?_setCell_same' _ _ _ (by rw [c0]; rfl))

theorem Held.newBox {w W : World} {fs : List Fact} (h : Held w fs W) (o : Obj) : Below W.heap.size W (W.alloc o) := (Below.refl _ _).alloc (Nat.le_refl _) _

theorem wrap_in (x : Int) (h : -9223372036854775808 ≤ x ∧ x < 9223372036854775808) : IntKind.i64.wrap x = x := by rw [IntKind.wrap_i64]; omega

theorem lday9_is (y m d n : Int) (w : World) (h : nN y m d = n) : Calls Tryd.prog 17 #[.int .i64 y, .int .i64 m, .int .i64 d] w fun e w' => e = .returned (.int .i64 n) ∧ Below w.heap.size w w' := by
  obtain ⟨c, hc⟩ : ∃ c, nE y m d = c := ⟨_, rfl⟩
  have C := Lib.hid (fun v => rnumber_is y m d n c v ⟨h, hc⟩)
  clear h hc
  go_enter Tryd.func17, Tryd.ntmps17
  go_wp2_with fail
  (with_reducible refine (C.out _).mono ?_)
  rintro e w1 ⟨rfl, hb⟩
  go_wp2
  go_ret
  exact ⟨rfl, hb⟩

/-- Three days in a row. -/
def x3 (x y z : Int) : Nat → Int := fun i => if i = 0 then x else if i = 1 then y else z
theorem row3 {W : World} {R : Nat} {x y z : Int} (h0 : W.cell? ⟨R, 0, none⟩ = some (.int .i64 x)) (h1 : W.cell? ⟨R, 1, none⟩ = some (.int .i64 y)) (h2 : W.cell? ⟨R, 2, none⟩ = some (.int .i64 z)) : RowAt W (some ⟨R, 0, none⟩) (x3 x y z) 3 3 :=
  ⟨by omega, fun _ => ⟨R, 0, rfl, fun j hj => by
    match j, hj with
    | 0, _ => exact h0
    | 1, _ => exact h1
    | 2, _ => exact h2⟩⟩
theorem RowAt.cut {W : World} {ao : Option Addr} {X : Nat → Int} {n k cap : Nat} (h : RowAt W ao X n cap) (hk : k ≤ n) : RowAt W ao X k cap :=
  ⟨by have := h.1; omega, fun h0 => by obtain ⟨b, off, e, hc⟩ := h.2 (by omega); exact ⟨b, off, e, fun j hj => hc j (by omega)⟩⟩
theorem may3 : MayX (x3 738886 739068 739252) 3 2 := by
  refine ⟨by decide, by decide, by decide, ⟨fun i hi => ?_, fun i hi => ?_⟩, by decide +kernel⟩
  · match i, hi with
    | 0, _ => decide +kernel
    | 1, _ => decide +kernel
    | 2, _ => decide +kernel
  · match i, hi with
    | 0, _ => decide +kernel
    | 1, _ => decide +kernel
theorem no13 : ¬ MayX (x3 738886 739068 739252) 3 13 := fun h => absurd h.2.2.1.2 (by decide)
theorem no1 : ¬ MayX (x3 738886 739068 739252) 1 2 := fun h => absurd h.1 (by decide)
theorem ex_a : IcIs (x3 738886 739068 739252) 3 2 738886 739068 1 2 0 := by
  have h := ic_ok (X := x3 738886 739068 739252) (n := 3) (f := 2) (a := 738886) (b := 739068) (by decide) may3 (by decide +kernel) (by decide +kernel)
  have e : (vP (x3 738886 739068 739252) (3 - 1) 2 738886 739068).num = 1 ∧ ((vP (x3 738886 739068 739252) (3 - 1) 2 738886 739068).den : Int) = 2 := by decide +kernel
  rwa [e.1, e.2] at h
theorem ex_b : IcIs (x3 738886 739068 739252) 3 2 738977 739068 1 4 0 := by
  have h := ic_ok (X := x3 738886 739068 739252) (n := 3) (f := 2) (a := 738977) (b := 739068) (by decide) may3 (by decide +kernel) (by decide +kernel)
  have e : (vP (x3 738886 739068 739252) (3 - 1) 2 738977 739068).num = 1 ∧ ((vP (x3 738886 739068 739252) (3 - 1) 2 738977 739068).den : Int) = 4 := by decide +kernel
  rwa [e.1, e.2] at h
theorem ex_c : IcIs (x3 738886 739068 739252) 3 2 738886 739253 0 0 5 := ic_side (by unfold isDay; decide) (by decide) (fun h => absurd h.2.2 (by decide +kernel))
theorem ex_d : IcIs (x3 738886 739068 739252) 3 2 739068 738886 0 0 4 := ic_order (by unfold isDay; decide) (by decide)
theorem ex_e : IcIs (x3 738886 739068 739252) 3 2 0 738886 0 0 3 := ic_day (by unfold isDay; decide)

set_option maxHeartbeats 8000000 in
set_option maxRecDepth 100000 in
theorem ishown_any (w : World) (hL : Facts w) : Calls Tryd.prog 8 #[] w fun e w' => e = .returned (.bool true) ∧ Below w.heap.size w w' := by
  have H := (Held.start w).add (f := factsF) hL
  clear hL
  go_enter Tryd.func8, Tryd.ntmps8
  go_wp2_with fail
  (with_reducible refine (lday9_is 2024 1 1 738886 _ (by decide +kernel)).mono ?_)
  rintro e w1 ⟨rfl, hb⟩
  replace H := H.below hb
  clear hb
  go_wp2_with fail
  (with_reducible refine (lday9_is 2024 7 1 739068 _ (by decide +kernel)).mono ?_)
  rintro e w2 ⟨rfl, hb⟩
  replace H := H.below hb
  clear hb
  go_wp2_with fail
  (with_reducible refine (lday9_is 2025 1 1 739252 _ (by decide +kernel)).mono ?_)
  rintro e w3 ⟨rfl, hb⟩
  replace H := H.below hb
  clear hb
  go_upto_region 2 with fail
  replace H := H.triple (w3.heap.size) (.int .i64 738886) (.int .i64 739068) (.int .i64 739252) 3 rfl
  obtain ⟨R, hR⟩ : ∃ R, w3.heap.size = R := ⟨_, rfl⟩
  rw [hR] at H ⊢
  obtain ⟨W0, hW0⟩ : ∃ W0, w3.alloc (.cells #[.int .i64 738886, .int .i64 739068, .int .i64 739252] 3) = W0 := ⟨_, rfl⟩
  rw [hW0] at H ⊢
  replace H := H.add (f := rowF (some ⟨R, 0, none⟩) (x3 738886 739068 739252) 3 3) (row3 (H.cell _ _ _ (by repeat (first | with_reducible exact List.mem_cons_self | with_reducible apply List.mem_cons_of_mem))) (H.cell _ _ _ (by repeat (first | with_reducible exact List.mem_cons_self | with_reducible apply List.mem_cons_of_mem))) (H.cell _ _ _ (by repeat (first | with_reducible exact List.mem_cons_self | with_reducible apply List.mem_cons_of_mem))))
  replace H := H.sub (gs := [.cell R 0 (.int .i64 738886), .cell R 1 (.int .i64 739068), .cell R 2 (.int .i64 739252), .free R 0, .free R 1, .free R 2, rowF (some ⟨R, 0, none⟩) (x3 738886 739068 739252) 3 3, factsF]) (by intro f hf; simp only [List.mem_cons, List.mem_nil_iff, or_false] at hf ⊢; rcases hf with h | h | h | h | h | h | h | h <;> simp [h])
  clear hW0 hR
  go_cut [2, 3] from 12 (fun sx se wx => ∃ B, sx = .pointer (some ⟨B, 0, none⟩) ∧ se = .int .i64 0 ∧ Held w [.cell B 0 (.int .i64 1), .cell B 1 (.int .i64 2), .free B 0, .free B 1, .cell R 0 (.int .i64 738886), .cell R 1 (.int .i64 739068), .cell R 2 (.int .i64 739252), .free R 0, .free R 1, .free R 2, rowF (some ⟨R, 0, none⟩) (x3 738886 739068 739252) 3 3, factsF] wx)
  case first =>
    have wr : IntKind.i64.wrap 739253 = 739253 := by decide +kernel
    go_wp2_with fail
    replace H := H.drew
    refine wp_region_held_drew (S := fun w' => w'.cell? ⟨R, 0, none⟩ = some (.int .i64 738886) ∧ w'.cell? ⟨R, 1, none⟩ = some (.int .i64 739068)) (by kernel_rfl) (⟨H.cell (R) (0) (.int .i64 738886) (by repeat (first | with_reducible exact List.mem_cons_self | with_reducible apply List.mem_cons_of_mem)), H.cell (R) (1) (.int .i64 739068) (by repeat (first | with_reducible exact List.mem_cons_self | with_reducible apply List.mem_cons_of_mem))⟩) (fun hHeld => ?_)
    obtain ⟨WD, hWD⟩ : ∃ WD, World.drew W0 = WD := ⟨_, rfl⟩
    rw [hWD] at H hHeld ⊢
    clear hWD
    refine wpAnyH_take (i := 0) (oi := ⟨some 17, _, _, _, _, _⟩) (v := ?_) rfl (by kernel_rfl) (by kernel_rfl) (by kernel_rfl) (fun _ _ _ h => h) (Or.inl ⟨by rfl, ?_⟩) (by assumption) ?_
    rotate_left
    · intro w hSw; (try dsimp only at hSw); go_simp; try with_reducible rfl
    simp only [Act.put, List.setIfInBounds_toArray, List.set_cons_zero, List.set_cons_succ]
    refine wpAnyH_take (i := 1) (oi := ⟨some 18, _, _, _, _, _⟩) (v := ?_) rfl (by kernel_rfl) (by kernel_rfl) (by kernel_rfl) (fun _ _ _ h => h) (Or.inl ⟨by rfl, ?_⟩) (by assumption) ?_
    rotate_left
    · intro w hSw; (try dsimp only at hSw); go_simp; try with_reducible rfl
    simp only [Act.put, List.setIfInBounds_toArray, List.set_cons_zero, List.set_cons_succ]
    refine wpAnyH_take (i := 2) (oi := ⟨some 19, _, _, _, _, _⟩) (v := ?_) rfl (by kernel_rfl) (by kernel_rfl) (by kernel_rfl) (fun _ _ _ h => h) (Or.inl ⟨by rfl, ?_⟩) (by assumption) ?_
    rotate_left
    · intro w hSw; (try dsimp only at hSw); go_simp; try with_reducible rfl
    simp only [Act.put, List.setIfInBounds_toArray, List.set_cons_zero, List.set_cons_succ]
    refine wpAnyH_take (i := 3) (oi := ⟨some 20, _, _, _, _, _⟩) (v := ?_) rfl (by kernel_rfl) (by kernel_rfl) (by kernel_rfl) (fun _ _ _ h => h) (Or.inl ⟨by rfl, ?_⟩) (by assumption) ?_
    rotate_left
    · intro w hSw; (try dsimp only at hSw); go_simp; try with_reducible rfl
    simp only [Act.put, List.setIfInBounds_toArray, List.set_cons_zero, List.set_cons_succ]
    refine wpAnyH_take (i := 4) (oi := ⟨some 21, _, _, _, _, _⟩) (v := ?_) rfl (by kernel_rfl) (by kernel_rfl) (by kernel_rfl) (fun _ _ _ h => h) (Or.inl ⟨by rfl, ?_⟩) (by assumption) ?_
    rotate_left
    · intro w hSw; (try dsimp only at hSw); go_simp; try with_reducible rfl
    simp only [Act.put, List.setIfInBounds_toArray, List.set_cons_zero, List.set_cons_succ]
    refine wpAnyH_take (i := 5) (oi := ⟨some 22, _, _, _, _, _⟩) (v := ?_) rfl (by kernel_rfl) (by kernel_rfl) (by kernel_rfl) (fun _ _ _ h => h) (Or.inl ⟨by rfl, ?_⟩) (by assumption) ?_
    rotate_left
    · intro w hSw; (try dsimp only at hSw); go_simp; try with_reducible rfl
    simp only [Act.put, List.setIfInBounds_toArray, List.set_cons_zero, List.set_cons_succ]
    refine wpAnyH_take (i := 6) (oi := ⟨some 23, _, _, _, _, _⟩) (v := ?_) rfl (by kernel_rfl) (by kernel_rfl) (by kernel_rfl) (fun _ _ _ h => h) (Or.inl ⟨by rfl, ?_⟩) (by assumption) ?_
    rotate_left
    · intro w hSw; (try dsimp only at hSw); go_simp; try with_reducible rfl
    simp only [Act.put, List.setIfInBounds_toArray, List.set_cons_zero, List.set_cons_succ]
    refine wpAnyH_ready (rs := [7, 11]) (by kernel_rfl) (by simp) ?_
    refine AllReadyH.cons (o := ⟨some 24, _, _, _, _, _⟩) rfl (fun K hK => ?_) (AllReadyH.cons (o := ⟨some 2, _, _, _, _, _⟩) rfl (fun K hK => ?_) AllReadyH.nil)
    ·
      go_simp
      (with_reducible refine (ipart_is 738886 739068 (some ⟨R, 0, none⟩) 3 3 (x3 738886 739068 739252) 2 _ _ _ _ (H.facts (by repeat (first | with_reducible exact List.mem_cons_self | with_reducible apply List.mem_cons_of_mem))) (by decide) (H.row (by repeat (first | with_reducible exact List.mem_cons_self | with_reducible apply List.mem_cons_of_mem))) ex_a).mono ?_)
      rintro e vB11 ⟨rfl, hb⟩
      replace H := H.below hb
      clear hb
      go_wp2_with fail
      refine hK.out _ _ ?_ (fun hNew => ?_)
      · exact ⟨H.cell (R) (0) (.int .i64 738886) (by repeat (first | with_reducible exact List.mem_cons_self | with_reducible apply List.mem_cons_of_mem)), H.cell (R) (1) (.int .i64 739068) (by repeat (first | with_reducible exact List.mem_cons_self | with_reducible apply List.mem_cons_of_mem))⟩
      clear hK K hHeld
      have hHeld := hNew
      clear hNew
      try simp only [Act.put, List.setIfInBounds_toArray, List.set_cons_zero, List.set_cons_succ]
      refine wpAnyH_take (i := 8) (oi := ⟨some 16, _, _, _, _, _⟩) (v := ?_) rfl (by kernel_rfl) (by kernel_rfl) (by kernel_rfl) (fun _ _ _ h => h) (Or.inl ⟨by rfl, ?_⟩) (by assumption) ?_
      rotate_left
      · intro w hSw; (try dsimp only at hSw); go_simp; try with_reducible rfl
      simp only [Act.put, List.setIfInBounds_toArray, List.set_cons_zero, List.set_cons_succ]
      refine wpAnyH_take (i := 9) (oi := ⟨some 25, _, _, _, _, _⟩) (v := ?_) rfl (by kernel_rfl) (by kernel_rfl) (by kernel_rfl) (fun _ _ _ h => h) (Or.inl ⟨by rfl, ?_⟩) (by assumption) ?_
      rotate_left
      · intro w hSw; (try dsimp only at hSw); go_simp; try with_reducible rfl
      simp only [Act.put, List.setIfInBounds_toArray, List.set_cons_zero, List.set_cons_succ]
      refine wpAnyH_take (i := 10) (oi := ⟨some 26, _, _, _, _, _⟩) (v := ?_) rfl (by kernel_rfl) (by kernel_rfl) (by kernel_rfl) (fun _ _ _ h => h) (Or.inl ⟨by rfl, ?_⟩) (by assumption) ?_
      rotate_left
      · intro w hSw; (try dsimp only at hSw); go_simp; try with_reducible rfl
      simp only [Act.put, List.setIfInBounds_toArray, List.set_cons_zero, List.set_cons_succ]
      refine wpAnyH_ready (rs := [11]) (by kernel_rfl) (by simp) ?_
      refine AllReadyH.cons (o := ⟨some 2, _, _, _, _, _⟩) rfl (fun K hK => ?_) AllReadyH.nil
      have H0 := H
      replace H := H.pair _ (.int .i64 0) (.int .i64 0) 27 rfl
      have HB := H0.newBox (.cells #[.int .i64 0, .int .i64 0] 27)
      go_simp
      refine hK.out _ _ ?_ (fun hNew => ?_)
      · exact ⟨H.cell (R) (0) (.int .i64 738886) (by repeat (first | with_reducible exact List.mem_cons_self | with_reducible apply List.mem_cons_of_mem)), H.cell (R) (1) (.int .i64 739068) (by repeat (first | with_reducible exact List.mem_cons_self | with_reducible apply List.mem_cons_of_mem))⟩
      clear hK K hHeld
      have hHeld := hNew
      clear hNew
      try simp only [Act.put, List.setIfInBounds_toArray, List.set_cons_zero, List.set_cons_succ]
      refine wpAnyH_ready (rs := [12]) (by kernel_rfl) (by simp) ?_
      refine AllReadyH.cons (o := ⟨none, _, _, _, _, _⟩) rfl (fun K hK => ?_) AllReadyH.nil
      have HF := H0.pair _ (.int .i64 1) (.int .i64 2) 27 rfl
      go_simp
      refine hK.out _ _ ?_ (fun hNew => ?_)
      · exact ⟨HF.cell (R) (0) (.int .i64 738886) (by repeat (first | with_reducible exact List.mem_cons_self | with_reducible apply List.mem_cons_of_mem)), HF.cell (R) (1) (.int .i64 739068) (by repeat (first | with_reducible exact List.mem_cons_self | with_reducible apply List.mem_cons_of_mem))⟩
      clear hK K hHeld
      have hHeld := hNew
      clear hNew
      try simp only [Act.put, List.setIfInBounds_toArray, List.set_cons_zero, List.set_cons_succ]
      clear H H0 HB
      have H := HF
      clear HF
      refine wpAnyH_take (i := 13) (oi := ⟨some 3, _, _, _, _, _⟩) (v := ?_) rfl (by kernel_rfl) (by kernel_rfl) (by kernel_rfl) (fun _ _ _ h => h) (Or.inl ⟨by rfl, ?_⟩) (by assumption) ?_
      rotate_left
      · intro w hSw; (try dsimp only at hSw); go_simp; try with_reducible rfl
      simp only [Act.put, List.setIfInBounds_toArray, List.set_cons_zero, List.set_cons_succ]
      refine wpAnyH_done (by kernel_rfl) ?_ _
      clear hHeld
      go_wp2_with fail
      go_meet
      exact ⟨_, rfl, rfl, H⟩
    ·
      have H0 := H
      replace H := H.pair _ (.int .i64 0) (.int .i64 0) 27 rfl
      have HB := H0.newBox (.cells #[.int .i64 0, .int .i64 0] 27)
      go_simp
      refine hK.out _ _ ?_ (fun hNew => ?_)
      · exact ⟨H.cell (R) (0) (.int .i64 738886) (by repeat (first | with_reducible exact List.mem_cons_self | with_reducible apply List.mem_cons_of_mem)), H.cell (R) (1) (.int .i64 739068) (by repeat (first | with_reducible exact List.mem_cons_self | with_reducible apply List.mem_cons_of_mem))⟩
      clear hK K hHeld
      have hHeld := hNew
      clear hNew
      try simp only [Act.put, List.setIfInBounds_toArray, List.set_cons_zero, List.set_cons_succ]
      refine wpAnyH_ready (rs := [7]) (by kernel_rfl) (by simp) ?_
      refine AllReadyH.cons (o := ⟨some 24, _, _, _, _, _⟩) rfl (fun K hK => ?_) AllReadyH.nil
      go_simp
      (with_reducible refine (ipart_is 738886 739068 (some ⟨R, 0, none⟩) 3 3 (x3 738886 739068 739252) 2 _ _ _ _ (H.facts (by repeat (first | with_reducible exact List.mem_cons_self | with_reducible apply List.mem_cons_of_mem))) (by decide) (H.row (by repeat (first | with_reducible exact List.mem_cons_self | with_reducible apply List.mem_cons_of_mem))) ex_a).mono ?_)
      rintro e vB12 ⟨rfl, hb⟩
      replace H := H.below hb
      replace HB := HB.trans (hb.mono HB.size)
      clear hb
      go_wp2_with fail
      refine hK.out _ _ ?_ (fun hNew => ?_)
      · exact ⟨H.cell (R) (0) (.int .i64 738886) (by repeat (first | with_reducible exact List.mem_cons_self | with_reducible apply List.mem_cons_of_mem)), H.cell (R) (1) (.int .i64 739068) (by repeat (first | with_reducible exact List.mem_cons_self | with_reducible apply List.mem_cons_of_mem))⟩
      clear hK K hHeld
      have hHeld := hNew
      clear hNew
      try simp only [Act.put, List.setIfInBounds_toArray, List.set_cons_zero, List.set_cons_succ]
      refine wpAnyH_take (i := 8) (oi := ⟨some 16, _, _, _, _, _⟩) (v := ?_) rfl (by kernel_rfl) (by kernel_rfl) (by kernel_rfl) (fun _ _ _ h => h) (Or.inl ⟨by rfl, ?_⟩) (by assumption) ?_
      rotate_left
      · intro w hSw; (try dsimp only at hSw); go_simp; try with_reducible rfl
      simp only [Act.put, List.setIfInBounds_toArray, List.set_cons_zero, List.set_cons_succ]
      refine wpAnyH_take (i := 9) (oi := ⟨some 25, _, _, _, _, _⟩) (v := ?_) rfl (by kernel_rfl) (by kernel_rfl) (by kernel_rfl) (fun _ _ _ h => h) (Or.inl ⟨by rfl, ?_⟩) (by assumption) ?_
      rotate_left
      · intro w hSw; (try dsimp only at hSw); go_simp; try with_reducible rfl
      simp only [Act.put, List.setIfInBounds_toArray, List.set_cons_zero, List.set_cons_succ]
      refine wpAnyH_take (i := 10) (oi := ⟨some 26, _, _, _, _, _⟩) (v := ?_) rfl (by kernel_rfl) (by kernel_rfl) (by kernel_rfl) (fun _ _ _ h => h) (Or.inl ⟨by rfl, ?_⟩) (by assumption) ?_
      rotate_left
      · intro w hSw; (try dsimp only at hSw); go_simp; try with_reducible rfl
      simp only [Act.put, List.setIfInBounds_toArray, List.set_cons_zero, List.set_cons_succ]
      refine wpAnyH_ready (rs := [12]) (by kernel_rfl) (by simp) ?_
      refine AllReadyH.cons (o := ⟨none, _, _, _, _, _⟩) rfl (fun K hK => ?_) AllReadyH.nil
      have cz0 := H.cell _ 0 (.int .i64 0) (List.Mem.head _)
      have cz1 := H.cell _ 1 (.int .i64 0) (List.Mem.tail _ (List.Mem.head _))
      have fz0 := H.frozen _ 0 (List.Mem.tail _ (List.Mem.tail _ (List.Mem.head _)))
      have fz1 := H.frozen _ 1 (List.Mem.tail _ (List.Mem.tail _ (List.Mem.tail _ (List.Mem.head _))))
      have HF := box_late H0 HB cz0 cz1 fz0 fz1 (.int .i64 1) (.int .i64 2)
      go_simp
      refine hK.out _ _ ?_ (fun hNew => ?_)
      · exact ⟨HF.cell (R) (0) (.int .i64 738886) (by repeat (first | with_reducible exact List.mem_cons_self | with_reducible apply List.mem_cons_of_mem)), HF.cell (R) (1) (.int .i64 739068) (by repeat (first | with_reducible exact List.mem_cons_self | with_reducible apply List.mem_cons_of_mem))⟩
      clear hK K hHeld
      have hHeld := hNew
      clear hNew
      try simp only [Act.put, List.setIfInBounds_toArray, List.set_cons_zero, List.set_cons_succ]
      clear H cz0 cz1 fz0 fz1 H0 HB
      have H := HF
      clear HF
      refine wpAnyH_take (i := 13) (oi := ⟨some 3, _, _, _, _, _⟩) (v := ?_) rfl (by kernel_rfl) (by kernel_rfl) (by kernel_rfl) (fun _ _ _ h => h) (Or.inl ⟨by rfl, ?_⟩) (by assumption) ?_
      rotate_left
      · intro w hSw; (try dsimp only at hSw); go_simp; try with_reducible rfl
      simp only [Act.put, List.setIfInBounds_toArray, List.set_cons_zero, List.set_cons_succ]
      refine wpAnyH_done (by kernel_rfl) ?_ _
      clear hHeld
      go_wp2_with fail
      go_meet
      exact ⟨_, rfl, rfl, H⟩
  case rest =>
    obtain ⟨B1, rfl, rfl, H⟩ := hcut
    obtain ⟨W1, eW⟩ : ∃ W1, wc = W1 := ⟨_, rfl⟩
    rw [eW] at H ⊢
    clear eW
    go_upto_region 3 with fail
    go_cut [4, 5] from 12 (fun sx se wx => ∃ B, sx = .pointer (some ⟨B, 0, none⟩) ∧ se = .int .i64 0 ∧ Held w [.cell B 0 (.int .i64 1), .cell B 1 (.int .i64 4), .free B 0, .free B 1, .cell B1 0 (.int .i64 1), .cell B1 1 (.int .i64 2), .free B1 0, .free B1 1, .cell R 0 (.int .i64 738886), .cell R 1 (.int .i64 739068), .cell R 2 (.int .i64 739252), .free R 0, .free R 1, .free R 2, rowF (some ⟨R, 0, none⟩) (x3 738886 739068 739252) 3 3, factsF] wx)
    case first =>
      have wr : IntKind.i64.wrap 739253 = 739253 := by decide +kernel
      go_wp2_with fail
      replace H := H.drew
      refine wp_region_held_drew (S := fun w' => w'.cell? ⟨R, 1, none⟩ = some (.int .i64 739068)) (by kernel_rfl) (H.cell (R) (1) (.int .i64 739068) (by repeat (first | with_reducible exact List.mem_cons_self | with_reducible apply List.mem_cons_of_mem))) (fun hHeld => ?_)
      obtain ⟨WD, hWD⟩ : ∃ WD, World.drew W1 = WD := ⟨_, rfl⟩
      rw [hWD] at H hHeld ⊢
      clear hWD
      refine wpAnyH_take (i := 1) (oi := ⟨some 29, _, _, _, _, _⟩) (v := ?_) rfl (by kernel_rfl) (by kernel_rfl) (by kernel_rfl) (fun _ _ _ h => h) (Or.inl ⟨by rfl, ?_⟩) (by assumption) ?_
      rotate_left
      · intro w hSw; (try dsimp only at hSw); go_simp; try with_reducible rfl
      simp only [Act.put, List.setIfInBounds_toArray, List.set_cons_zero, List.set_cons_succ]
      refine wpAnyH_take (i := 2) (oi := ⟨some 30, _, _, _, _, _⟩) (v := ?_) rfl (by kernel_rfl) (by kernel_rfl) (by kernel_rfl) (fun _ _ _ h => h) (Or.inl ⟨by rfl, ?_⟩) (by assumption) ?_
      rotate_left
      · intro w hSw; (try dsimp only at hSw); go_simp; try with_reducible rfl
      simp only [Act.put, List.setIfInBounds_toArray, List.set_cons_zero, List.set_cons_succ]
      refine wpAnyH_take (i := 3) (oi := ⟨some 31, _, _, _, _, _⟩) (v := ?_) rfl (by kernel_rfl) (by kernel_rfl) (by kernel_rfl) (fun _ _ _ h => h) (Or.inl ⟨by rfl, ?_⟩) (by assumption) ?_
      rotate_left
      · intro w hSw; (try dsimp only at hSw); go_simp; try with_reducible rfl
      simp only [Act.put, List.setIfInBounds_toArray, List.set_cons_zero, List.set_cons_succ]
      refine wpAnyH_take (i := 4) (oi := ⟨some 32, _, _, _, _, _⟩) (v := ?_) rfl (by kernel_rfl) (by kernel_rfl) (by kernel_rfl) (fun _ _ _ h => h) (Or.inl ⟨by rfl, ?_⟩) (by assumption) ?_
      rotate_left
      · intro w hSw; (try dsimp only at hSw); go_simp; try with_reducible rfl
      simp only [Act.put, List.setIfInBounds_toArray, List.set_cons_zero, List.set_cons_succ]
      refine wpAnyH_ready (rs := [0, 9]) (by kernel_rfl) (by simp) ?_
      refine AllReadyH.cons (o := ⟨some 28, _, _, _, _, _⟩) rfl (fun K hK => ?_) (AllReadyH.cons (o := ⟨some 4, _, _, _, _, _⟩) rfl (fun K hK => ?_) AllReadyH.nil)
      ·
        go_simp
        (with_reducible refine (lday9_is 2024 4 1 738977 _ (by decide +kernel)).mono ?_)
        rintro e vB21 ⟨rfl, hb⟩
        replace H := H.below hb
        clear hb
        go_wp2_with fail
        refine hK.out _ _ ?_ (fun hNew => ?_)
        · exact H.cell (R) (1) (.int .i64 739068) (by repeat (first | with_reducible exact List.mem_cons_self | with_reducible apply List.mem_cons_of_mem))
        clear hK K hHeld
        have hHeld := hNew
        clear hNew
        try simp only [Act.put, List.setIfInBounds_toArray, List.set_cons_zero, List.set_cons_succ]
        refine wpAnyH_ready (rs := [5, 9]) (by kernel_rfl) (by simp) ?_
        refine AllReadyH.cons (o := ⟨some 33, _, _, _, _, _⟩) rfl (fun K hK => ?_) (AllReadyH.cons (o := ⟨some 4, _, _, _, _, _⟩) rfl (fun K hK => ?_) AllReadyH.nil)
        ·
          go_simp
          (with_reducible refine (ipart_is 738977 739068 (some ⟨R, 0, none⟩) 3 3 (x3 738886 739068 739252) 2 _ _ _ _ (H.facts (by repeat (first | with_reducible exact List.mem_cons_self | with_reducible apply List.mem_cons_of_mem))) (by decide) (H.row (by repeat (first | with_reducible exact List.mem_cons_self | with_reducible apply List.mem_cons_of_mem))) ex_b).mono ?_)
          rintro e vB22 ⟨rfl, hb⟩
          replace H := H.below hb
          clear hb
          go_wp2_with fail
          refine hK.out _ _ ?_ (fun hNew => ?_)
          · exact H.cell (R) (1) (.int .i64 739068) (by repeat (first | with_reducible exact List.mem_cons_self | with_reducible apply List.mem_cons_of_mem))
          clear hK K hHeld
          have hHeld := hNew
          clear hNew
          try simp only [Act.put, List.setIfInBounds_toArray, List.set_cons_zero, List.set_cons_succ]
          refine wpAnyH_take (i := 6) (oi := ⟨some 27, _, _, _, _, _⟩) (v := ?_) rfl (by kernel_rfl) (by kernel_rfl) (by kernel_rfl) (fun _ _ _ h => h) (Or.inl ⟨by rfl, ?_⟩) (by assumption) ?_
          rotate_left
          · intro w hSw; (try dsimp only at hSw); go_simp; try with_reducible rfl
          simp only [Act.put, List.setIfInBounds_toArray, List.set_cons_zero, List.set_cons_succ]
          refine wpAnyH_take (i := 7) (oi := ⟨some 34, _, _, _, _, _⟩) (v := ?_) rfl (by kernel_rfl) (by kernel_rfl) (by kernel_rfl) (fun _ _ _ h => h) (Or.inl ⟨by rfl, ?_⟩) (by assumption) ?_
          rotate_left
          · intro w hSw; (try dsimp only at hSw); go_simp; try with_reducible rfl
          simp only [Act.put, List.setIfInBounds_toArray, List.set_cons_zero, List.set_cons_succ]
          refine wpAnyH_take (i := 8) (oi := ⟨some 35, _, _, _, _, _⟩) (v := ?_) rfl (by kernel_rfl) (by kernel_rfl) (by kernel_rfl) (fun _ _ _ h => h) (Or.inl ⟨by rfl, ?_⟩) (by assumption) ?_
          rotate_left
          · intro w hSw; (try dsimp only at hSw); go_simp; try with_reducible rfl
          simp only [Act.put, List.setIfInBounds_toArray, List.set_cons_zero, List.set_cons_succ]
          refine wpAnyH_ready (rs := [9]) (by kernel_rfl) (by simp) ?_
          refine AllReadyH.cons (o := ⟨some 4, _, _, _, _, _⟩) rfl (fun K hK => ?_) AllReadyH.nil
          have H0 := H
          replace H := H.pair _ (.int .i64 0) (.int .i64 0) 27 rfl
          have HB := H0.newBox (.cells #[.int .i64 0, .int .i64 0] 27)
          go_simp
          refine hK.out _ _ ?_ (fun hNew => ?_)
          · exact H.cell (R) (1) (.int .i64 739068) (by repeat (first | with_reducible exact List.mem_cons_self | with_reducible apply List.mem_cons_of_mem))
          clear hK K hHeld
          have hHeld := hNew
          clear hNew
          try simp only [Act.put, List.setIfInBounds_toArray, List.set_cons_zero, List.set_cons_succ]
          refine wpAnyH_ready (rs := [10]) (by kernel_rfl) (by simp) ?_
          refine AllReadyH.cons (o := ⟨none, _, _, _, _, _⟩) rfl (fun K hK => ?_) AllReadyH.nil
          have HF := H0.pair _ (.int .i64 1) (.int .i64 4) 27 rfl
          go_simp
          refine hK.out _ _ ?_ (fun hNew => ?_)
          · exact HF.cell (R) (1) (.int .i64 739068) (by repeat (first | with_reducible exact List.mem_cons_self | with_reducible apply List.mem_cons_of_mem))
          clear hK K hHeld
          have hHeld := hNew
          clear hNew
          try simp only [Act.put, List.setIfInBounds_toArray, List.set_cons_zero, List.set_cons_succ]
          clear H H0 HB
          have H := HF
          clear HF
          refine wpAnyH_take (i := 11) (oi := ⟨some 5, _, _, _, _, _⟩) (v := ?_) rfl (by kernel_rfl) (by kernel_rfl) (by kernel_rfl) (fun _ _ _ h => h) (Or.inl ⟨by rfl, ?_⟩) (by assumption) ?_
          rotate_left
          · intro w hSw; (try dsimp only at hSw); go_simp; try with_reducible rfl
          simp only [Act.put, List.setIfInBounds_toArray, List.set_cons_zero, List.set_cons_succ]
          refine wpAnyH_done (by kernel_rfl) ?_ _
          clear hHeld
          go_wp2_with fail
          go_meet
          exact ⟨_, rfl, rfl, H⟩
        ·
          have H0 := H
          replace H := H.pair _ (.int .i64 0) (.int .i64 0) 27 rfl
          have HB := H0.newBox (.cells #[.int .i64 0, .int .i64 0] 27)
          go_simp
          refine hK.out _ _ ?_ (fun hNew => ?_)
          · exact H.cell (R) (1) (.int .i64 739068) (by repeat (first | with_reducible exact List.mem_cons_self | with_reducible apply List.mem_cons_of_mem))
          clear hK K hHeld
          have hHeld := hNew
          clear hNew
          try simp only [Act.put, List.setIfInBounds_toArray, List.set_cons_zero, List.set_cons_succ]
          refine wpAnyH_ready (rs := [5]) (by kernel_rfl) (by simp) ?_
          refine AllReadyH.cons (o := ⟨some 33, _, _, _, _, _⟩) rfl (fun K hK => ?_) AllReadyH.nil
          go_simp
          (with_reducible refine (ipart_is 738977 739068 (some ⟨R, 0, none⟩) 3 3 (x3 738886 739068 739252) 2 _ _ _ _ (H.facts (by repeat (first | with_reducible exact List.mem_cons_self | with_reducible apply List.mem_cons_of_mem))) (by decide) (H.row (by repeat (first | with_reducible exact List.mem_cons_self | with_reducible apply List.mem_cons_of_mem))) ex_b).mono ?_)
          rintro e vB23 ⟨rfl, hb⟩
          replace H := H.below hb
          replace HB := HB.trans (hb.mono HB.size)
          clear hb
          go_wp2_with fail
          refine hK.out _ _ ?_ (fun hNew => ?_)
          · exact H.cell (R) (1) (.int .i64 739068) (by repeat (first | with_reducible exact List.mem_cons_self | with_reducible apply List.mem_cons_of_mem))
          clear hK K hHeld
          have hHeld := hNew
          clear hNew
          try simp only [Act.put, List.setIfInBounds_toArray, List.set_cons_zero, List.set_cons_succ]
          refine wpAnyH_take (i := 6) (oi := ⟨some 27, _, _, _, _, _⟩) (v := ?_) rfl (by kernel_rfl) (by kernel_rfl) (by kernel_rfl) (fun _ _ _ h => h) (Or.inl ⟨by rfl, ?_⟩) (by assumption) ?_
          rotate_left
          · intro w hSw; (try dsimp only at hSw); go_simp; try with_reducible rfl
          simp only [Act.put, List.setIfInBounds_toArray, List.set_cons_zero, List.set_cons_succ]
          refine wpAnyH_take (i := 7) (oi := ⟨some 34, _, _, _, _, _⟩) (v := ?_) rfl (by kernel_rfl) (by kernel_rfl) (by kernel_rfl) (fun _ _ _ h => h) (Or.inl ⟨by rfl, ?_⟩) (by assumption) ?_
          rotate_left
          · intro w hSw; (try dsimp only at hSw); go_simp; try with_reducible rfl
          simp only [Act.put, List.setIfInBounds_toArray, List.set_cons_zero, List.set_cons_succ]
          refine wpAnyH_take (i := 8) (oi := ⟨some 35, _, _, _, _, _⟩) (v := ?_) rfl (by kernel_rfl) (by kernel_rfl) (by kernel_rfl) (fun _ _ _ h => h) (Or.inl ⟨by rfl, ?_⟩) (by assumption) ?_
          rotate_left
          · intro w hSw; (try dsimp only at hSw); go_simp; try with_reducible rfl
          simp only [Act.put, List.setIfInBounds_toArray, List.set_cons_zero, List.set_cons_succ]
          refine wpAnyH_ready (rs := [10]) (by kernel_rfl) (by simp) ?_
          refine AllReadyH.cons (o := ⟨none, _, _, _, _, _⟩) rfl (fun K hK => ?_) AllReadyH.nil
          have cz0 := H.cell _ 0 (.int .i64 0) (List.Mem.head _)
          have cz1 := H.cell _ 1 (.int .i64 0) (List.Mem.tail _ (List.Mem.head _))
          have fz0 := H.frozen _ 0 (List.Mem.tail _ (List.Mem.tail _ (List.Mem.head _)))
          have fz1 := H.frozen _ 1 (List.Mem.tail _ (List.Mem.tail _ (List.Mem.tail _ (List.Mem.head _))))
          have HF := box_late H0 HB cz0 cz1 fz0 fz1 (.int .i64 1) (.int .i64 4)
          go_simp
          refine hK.out _ _ ?_ (fun hNew => ?_)
          · exact HF.cell (R) (1) (.int .i64 739068) (by repeat (first | with_reducible exact List.mem_cons_self | with_reducible apply List.mem_cons_of_mem))
          clear hK K hHeld
          have hHeld := hNew
          clear hNew
          try simp only [Act.put, List.setIfInBounds_toArray, List.set_cons_zero, List.set_cons_succ]
          clear H cz0 cz1 fz0 fz1 H0 HB
          have H := HF
          clear HF
          refine wpAnyH_take (i := 11) (oi := ⟨some 5, _, _, _, _, _⟩) (v := ?_) rfl (by kernel_rfl) (by kernel_rfl) (by kernel_rfl) (fun _ _ _ h => h) (Or.inl ⟨by rfl, ?_⟩) (by assumption) ?_
          rotate_left
          · intro w hSw; (try dsimp only at hSw); go_simp; try with_reducible rfl
          simp only [Act.put, List.setIfInBounds_toArray, List.set_cons_zero, List.set_cons_succ]
          refine wpAnyH_done (by kernel_rfl) ?_ _
          clear hHeld
          go_wp2_with fail
          go_meet
          exact ⟨_, rfl, rfl, H⟩
      ·
        have H0 := H
        replace H := H.pair _ (.int .i64 0) (.int .i64 0) 27 rfl
        have HB := H0.newBox (.cells #[.int .i64 0, .int .i64 0] 27)
        go_simp
        refine hK.out _ _ ?_ (fun hNew => ?_)
        · exact H.cell (R) (1) (.int .i64 739068) (by repeat (first | with_reducible exact List.mem_cons_self | with_reducible apply List.mem_cons_of_mem))
        clear hK K hHeld
        have hHeld := hNew
        clear hNew
        try simp only [Act.put, List.setIfInBounds_toArray, List.set_cons_zero, List.set_cons_succ]
        refine wpAnyH_ready (rs := [0]) (by kernel_rfl) (by simp) ?_
        refine AllReadyH.cons (o := ⟨some 28, _, _, _, _, _⟩) rfl (fun K hK => ?_) AllReadyH.nil
        go_simp
        (with_reducible refine (lday9_is 2024 4 1 738977 _ (by decide +kernel)).mono ?_)
        rintro e vB24 ⟨rfl, hb⟩
        replace H := H.below hb
        replace HB := HB.trans (hb.mono HB.size)
        clear hb
        go_wp2_with fail
        refine hK.out _ _ ?_ (fun hNew => ?_)
        · exact H.cell (R) (1) (.int .i64 739068) (by repeat (first | with_reducible exact List.mem_cons_self | with_reducible apply List.mem_cons_of_mem))
        clear hK K hHeld
        have hHeld := hNew
        clear hNew
        try simp only [Act.put, List.setIfInBounds_toArray, List.set_cons_zero, List.set_cons_succ]
        refine wpAnyH_ready (rs := [5]) (by kernel_rfl) (by simp) ?_
        refine AllReadyH.cons (o := ⟨some 33, _, _, _, _, _⟩) rfl (fun K hK => ?_) AllReadyH.nil
        go_simp
        (with_reducible refine (ipart_is 738977 739068 (some ⟨R, 0, none⟩) 3 3 (x3 738886 739068 739252) 2 _ _ _ _ (H.facts (by repeat (first | with_reducible exact List.mem_cons_self | with_reducible apply List.mem_cons_of_mem))) (by decide) (H.row (by repeat (first | with_reducible exact List.mem_cons_self | with_reducible apply List.mem_cons_of_mem))) ex_b).mono ?_)
        rintro e vB25 ⟨rfl, hb⟩
        replace H := H.below hb
        replace HB := HB.trans (hb.mono HB.size)
        clear hb
        go_wp2_with fail
        refine hK.out _ _ ?_ (fun hNew => ?_)
        · exact H.cell (R) (1) (.int .i64 739068) (by repeat (first | with_reducible exact List.mem_cons_self | with_reducible apply List.mem_cons_of_mem))
        clear hK K hHeld
        have hHeld := hNew
        clear hNew
        try simp only [Act.put, List.setIfInBounds_toArray, List.set_cons_zero, List.set_cons_succ]
        refine wpAnyH_take (i := 6) (oi := ⟨some 27, _, _, _, _, _⟩) (v := ?_) rfl (by kernel_rfl) (by kernel_rfl) (by kernel_rfl) (fun _ _ _ h => h) (Or.inl ⟨by rfl, ?_⟩) (by assumption) ?_
        rotate_left
        · intro w hSw; (try dsimp only at hSw); go_simp; try with_reducible rfl
        simp only [Act.put, List.setIfInBounds_toArray, List.set_cons_zero, List.set_cons_succ]
        refine wpAnyH_take (i := 7) (oi := ⟨some 34, _, _, _, _, _⟩) (v := ?_) rfl (by kernel_rfl) (by kernel_rfl) (by kernel_rfl) (fun _ _ _ h => h) (Or.inl ⟨by rfl, ?_⟩) (by assumption) ?_
        rotate_left
        · intro w hSw; (try dsimp only at hSw); go_simp; try with_reducible rfl
        simp only [Act.put, List.setIfInBounds_toArray, List.set_cons_zero, List.set_cons_succ]
        refine wpAnyH_take (i := 8) (oi := ⟨some 35, _, _, _, _, _⟩) (v := ?_) rfl (by kernel_rfl) (by kernel_rfl) (by kernel_rfl) (fun _ _ _ h => h) (Or.inl ⟨by rfl, ?_⟩) (by assumption) ?_
        rotate_left
        · intro w hSw; (try dsimp only at hSw); go_simp; try with_reducible rfl
        simp only [Act.put, List.setIfInBounds_toArray, List.set_cons_zero, List.set_cons_succ]
        refine wpAnyH_ready (rs := [10]) (by kernel_rfl) (by simp) ?_
        refine AllReadyH.cons (o := ⟨none, _, _, _, _, _⟩) rfl (fun K hK => ?_) AllReadyH.nil
        have cz0 := H.cell _ 0 (.int .i64 0) (List.Mem.head _)
        have cz1 := H.cell _ 1 (.int .i64 0) (List.Mem.tail _ (List.Mem.head _))
        have fz0 := H.frozen _ 0 (List.Mem.tail _ (List.Mem.tail _ (List.Mem.head _)))
        have fz1 := H.frozen _ 1 (List.Mem.tail _ (List.Mem.tail _ (List.Mem.tail _ (List.Mem.head _))))
        have HF := box_late H0 HB cz0 cz1 fz0 fz1 (.int .i64 1) (.int .i64 4)
        go_simp
        refine hK.out _ _ ?_ (fun hNew => ?_)
        · exact HF.cell (R) (1) (.int .i64 739068) (by repeat (first | with_reducible exact List.mem_cons_self | with_reducible apply List.mem_cons_of_mem))
        clear hK K hHeld
        have hHeld := hNew
        clear hNew
        try simp only [Act.put, List.setIfInBounds_toArray, List.set_cons_zero, List.set_cons_succ]
        clear H cz0 cz1 fz0 fz1 H0 HB
        have H := HF
        clear HF
        refine wpAnyH_take (i := 11) (oi := ⟨some 5, _, _, _, _, _⟩) (v := ?_) rfl (by kernel_rfl) (by kernel_rfl) (by kernel_rfl) (fun _ _ _ h => h) (Or.inl ⟨by rfl, ?_⟩) (by assumption) ?_
        rotate_left
        · intro w hSw; (try dsimp only at hSw); go_simp; try with_reducible rfl
        simp only [Act.put, List.setIfInBounds_toArray, List.set_cons_zero, List.set_cons_succ]
        refine wpAnyH_done (by kernel_rfl) ?_ _
        clear hHeld
        go_wp2_with fail
        go_meet
        exact ⟨_, rfl, rfl, H⟩
    case rest =>
      obtain ⟨B2, rfl, rfl, H⟩ := hcut
      obtain ⟨W2, eW⟩ : ∃ W2, wc = W2 := ⟨_, rfl⟩
      rw [eW] at H ⊢
      clear eW
      go_upto_region 4 with fail
      go_cut [6, 7] from 12 (fun sx se wx => ∃ B, sx = .pointer (some ⟨B, 0, none⟩) ∧ se = .int .i64 5 ∧ Held w [.cell B 0 (.int .i64 0), .cell B 1 (.int .i64 0), .free B 0, .free B 1, .cell B2 0 (.int .i64 1), .cell B2 1 (.int .i64 4), .free B2 0, .free B2 1, .cell B1 0 (.int .i64 1), .cell B1 1 (.int .i64 2), .free B1 0, .free B1 1, .cell R 0 (.int .i64 738886), .cell R 1 (.int .i64 739068), .cell R 2 (.int .i64 739252), .free R 0, .free R 1, .free R 2, rowF (some ⟨R, 0, none⟩) (x3 738886 739068 739252) 3 3, factsF] wx)
      case first =>
        have wr : IntKind.i64.wrap 739253 = 739253 := by decide +kernel
        go_wp2_with fail
        replace H := H.drew
        refine wp_region_held_drew (S := fun w' => w'.cell? ⟨R, 0, none⟩ = some (.int .i64 738886) ∧ w'.cell? ⟨R, 2, none⟩ = some (.int .i64 739252)) (by kernel_rfl) (⟨H.cell (R) (0) (.int .i64 738886) (by repeat (first | with_reducible exact List.mem_cons_self | with_reducible apply List.mem_cons_of_mem)), H.cell (R) (2) (.int .i64 739252) (by repeat (first | with_reducible exact List.mem_cons_self | with_reducible apply List.mem_cons_of_mem))⟩) (fun hHeld => ?_)
        obtain ⟨WD, hWD⟩ : ∃ WD, World.drew W2 = WD := ⟨_, rfl⟩
        rw [hWD] at H hHeld ⊢
        clear hWD
        refine wpAnyH_take (i := 0) (oi := ⟨some 37, _, _, _, _, _⟩) (v := ?_) rfl (by kernel_rfl) (by kernel_rfl) (by kernel_rfl) (fun _ _ _ h => h) (Or.inl ⟨by rfl, ?_⟩) (by assumption) ?_
        rotate_left
        · intro w hSw; (try dsimp only at hSw); go_simp; try with_reducible rfl
        simp only [Act.put, List.setIfInBounds_toArray, List.set_cons_zero, List.set_cons_succ]
        refine wpAnyH_take (i := 1) (oi := ⟨some 38, _, _, _, _, _⟩) (v := ?_) rfl (by kernel_rfl) (by kernel_rfl) (by kernel_rfl) (fun _ _ _ h => h) (Or.inl ⟨by rfl, ?_⟩) (by assumption) ?_
        rotate_left
        · intro w hSw; (try dsimp only at hSw); go_simp; try with_reducible rfl
        simp only [Act.put, List.setIfInBounds_toArray, List.set_cons_zero, List.set_cons_succ]
        refine wpAnyH_take (i := 2) (oi := ⟨some 39, _, _, _, _, _⟩) (v := ?_) rfl (by kernel_rfl) (by kernel_rfl) (by kernel_rfl) (fun _ _ _ h => h) (Or.inl ⟨by rfl, ?_⟩) (by assumption) ?_
        rotate_left
        · intro w hSw; (try dsimp only at hSw); go_simp; try with_reducible rfl
        simp only [Act.put, List.setIfInBounds_toArray, List.set_cons_zero, List.set_cons_succ]
        refine wpAnyH_take (i := 3) (oi := ⟨some 40, _, _, _, _, _⟩) (v := ?_) rfl (by kernel_rfl) (by kernel_rfl) (by kernel_rfl) (fun _ _ _ h => h) (Or.inl ⟨by rfl, ?_⟩) (by assumption) ?_
        rotate_left
        · intro w hSw; (try dsimp only at hSw); go_simp; try with_reducible rfl
        simp only [Act.put, List.setIfInBounds_toArray, List.set_cons_zero, List.set_cons_succ]
        refine wpAnyH_take (i := 4) (oi := ⟨some 41, _, _, _, _, _⟩) (v := ?_) rfl (by kernel_rfl) (by kernel_rfl) (by kernel_rfl) (fun _ _ _ h => h) (Or.inl ⟨by rfl, ?_⟩) (by assumption) ?_
        rotate_left
        · intro w hSw; (try dsimp only at hSw); go_simp; try with_reducible rfl
        simp only [Act.put, List.setIfInBounds_toArray, List.set_cons_zero, List.set_cons_succ]
        refine wpAnyH_take (i := 5) (oi := ⟨some 42, _, _, _, _, _⟩) (v := ?_) rfl (by kernel_rfl) (by kernel_rfl) (by kernel_rfl) (fun _ _ _ h => h) (Or.inl ⟨by rfl, ?_⟩) (by assumption) ?_
        rotate_left
        · intro w hSw; (try dsimp only at hSw); go_simp; try with_reducible rfl
        simp only [Act.put, List.setIfInBounds_toArray, List.set_cons_zero, List.set_cons_succ]
        refine wpAnyH_take (i := 6) (oi := ⟨some 43, _, _, _, _, _⟩) (v := ?_) rfl (by kernel_rfl) (by kernel_rfl) (by kernel_rfl) (fun _ _ _ h => h) (Or.inl ⟨by rfl, ?_⟩) (by assumption) ?_
        rotate_left
        · intro w hSw; (try dsimp only at hSw); go_simp; try with_reducible rfl
        simp only [Act.put, List.setIfInBounds_toArray, List.set_cons_zero, List.set_cons_succ]
        refine wpAnyH_take (i := 7) (oi := ⟨some 44, _, _, _, _, _⟩) (v := ?_) rfl (by kernel_rfl) (by kernel_rfl) (by kernel_rfl) (fun _ _ _ h => h) (Or.inl ⟨by rfl, ?_⟩) (by assumption) ?_
        rotate_left
        · intro w hSw; (try dsimp only at hSw); go_simp; try with_reducible rfl
        simp only [Act.put, List.setIfInBounds_toArray, List.set_cons_zero, List.set_cons_succ]
        refine wpAnyH_ready (rs := [8, 12]) (by kernel_rfl) (by simp) ?_
        refine AllReadyH.cons (o := ⟨some 45, _, _, _, _, _⟩) rfl (fun K hK => ?_) (AllReadyH.cons (o := ⟨some 6, _, _, _, _, _⟩) rfl (fun K hK => ?_) AllReadyH.nil)
        ·
          go_simp
          (with_reducible refine (ipart_is 738886 739253 (some ⟨R, 0, none⟩) 3 3 (x3 738886 739068 739252) 2 _ _ _ _ (H.facts (by repeat (first | with_reducible exact List.mem_cons_self | with_reducible apply List.mem_cons_of_mem))) (by decide) (H.row (by repeat (first | with_reducible exact List.mem_cons_self | with_reducible apply List.mem_cons_of_mem))) ex_c).mono ?_)
          rintro e vB31 ⟨rfl, hb⟩
          replace H := H.below hb
          clear hb
          go_wp2_with fail
          refine hK.out _ _ ?_ (fun hNew => ?_)
          · exact ⟨H.cell (R) (0) (.int .i64 738886) (by repeat (first | with_reducible exact List.mem_cons_self | with_reducible apply List.mem_cons_of_mem)), H.cell (R) (2) (.int .i64 739252) (by repeat (first | with_reducible exact List.mem_cons_self | with_reducible apply List.mem_cons_of_mem))⟩
          clear hK K hHeld
          have hHeld := hNew
          clear hNew
          try simp only [Act.put, List.setIfInBounds_toArray, List.set_cons_zero, List.set_cons_succ]
          refine wpAnyH_take (i := 9) (oi := ⟨some 36, _, _, _, _, _⟩) (v := ?_) rfl (by kernel_rfl) (by kernel_rfl) (by kernel_rfl) (fun _ _ _ h => h) (Or.inl ⟨by rfl, ?_⟩) (by assumption) ?_
          rotate_left
          · intro w hSw; (try dsimp only at hSw); go_simp; try with_reducible rfl
          simp only [Act.put, List.setIfInBounds_toArray, List.set_cons_zero, List.set_cons_succ]
          refine wpAnyH_take (i := 10) (oi := ⟨some 46, _, _, _, _, _⟩) (v := ?_) rfl (by kernel_rfl) (by kernel_rfl) (by kernel_rfl) (fun _ _ _ h => h) (Or.inl ⟨by rfl, ?_⟩) (by assumption) ?_
          rotate_left
          · intro w hSw; (try dsimp only at hSw); go_simp; try with_reducible rfl
          simp only [Act.put, List.setIfInBounds_toArray, List.set_cons_zero, List.set_cons_succ]
          refine wpAnyH_take (i := 11) (oi := ⟨some 47, _, _, _, _, _⟩) (v := ?_) rfl (by kernel_rfl) (by kernel_rfl) (by kernel_rfl) (fun _ _ _ h => h) (Or.inl ⟨by rfl, ?_⟩) (by assumption) ?_
          rotate_left
          · intro w hSw; (try dsimp only at hSw); go_simp; try with_reducible rfl
          simp only [Act.put, List.setIfInBounds_toArray, List.set_cons_zero, List.set_cons_succ]
          refine wpAnyH_ready (rs := [12]) (by kernel_rfl) (by simp) ?_
          refine AllReadyH.cons (o := ⟨some 6, _, _, _, _, _⟩) rfl (fun K hK => ?_) AllReadyH.nil
          have H0 := H
          replace H := H.pair _ (.int .i64 0) (.int .i64 0) 27 rfl
          have HB := H0.newBox (.cells #[.int .i64 0, .int .i64 0] 27)
          go_simp
          refine hK.out _ _ ?_ (fun hNew => ?_)
          · exact ⟨H.cell (R) (0) (.int .i64 738886) (by repeat (first | with_reducible exact List.mem_cons_self | with_reducible apply List.mem_cons_of_mem)), H.cell (R) (2) (.int .i64 739252) (by repeat (first | with_reducible exact List.mem_cons_self | with_reducible apply List.mem_cons_of_mem))⟩
          clear hK K hHeld
          have hHeld := hNew
          clear hNew
          try simp only [Act.put, List.setIfInBounds_toArray, List.set_cons_zero, List.set_cons_succ]
          refine wpAnyH_ready (rs := [13]) (by kernel_rfl) (by simp) ?_
          refine AllReadyH.cons (o := ⟨none, _, _, _, _, _⟩) rfl (fun K hK => ?_) AllReadyH.nil
          have HF := H0.pair _ (.int .i64 0) (.int .i64 0) 27 rfl
          go_simp
          refine hK.out _ _ ?_ (fun hNew => ?_)
          · exact ⟨HF.cell (R) (0) (.int .i64 738886) (by repeat (first | with_reducible exact List.mem_cons_self | with_reducible apply List.mem_cons_of_mem)), HF.cell (R) (2) (.int .i64 739252) (by repeat (first | with_reducible exact List.mem_cons_self | with_reducible apply List.mem_cons_of_mem))⟩
          clear hK K hHeld
          have hHeld := hNew
          clear hNew
          try simp only [Act.put, List.setIfInBounds_toArray, List.set_cons_zero, List.set_cons_succ]
          clear H H0 HB
          have H := HF
          clear HF
          refine wpAnyH_take (i := 14) (oi := ⟨some 7, _, _, _, _, _⟩) (v := ?_) rfl (by kernel_rfl) (by kernel_rfl) (by kernel_rfl) (fun _ _ _ h => h) (Or.inl ⟨by rfl, ?_⟩) (by assumption) ?_
          rotate_left
          · intro w hSw; (try dsimp only at hSw); go_simp; try with_reducible rfl
          simp only [Act.put, List.setIfInBounds_toArray, List.set_cons_zero, List.set_cons_succ]
          refine wpAnyH_done (by kernel_rfl) ?_ _
          clear hHeld
          go_wp2_with fail
          go_meet
          exact ⟨_, rfl, rfl, H⟩
        ·
          have H0 := H
          replace H := H.pair _ (.int .i64 0) (.int .i64 0) 27 rfl
          have HB := H0.newBox (.cells #[.int .i64 0, .int .i64 0] 27)
          go_simp
          refine hK.out _ _ ?_ (fun hNew => ?_)
          · exact ⟨H.cell (R) (0) (.int .i64 738886) (by repeat (first | with_reducible exact List.mem_cons_self | with_reducible apply List.mem_cons_of_mem)), H.cell (R) (2) (.int .i64 739252) (by repeat (first | with_reducible exact List.mem_cons_self | with_reducible apply List.mem_cons_of_mem))⟩
          clear hK K hHeld
          have hHeld := hNew
          clear hNew
          try simp only [Act.put, List.setIfInBounds_toArray, List.set_cons_zero, List.set_cons_succ]
          refine wpAnyH_ready (rs := [8]) (by kernel_rfl) (by simp) ?_
          refine AllReadyH.cons (o := ⟨some 45, _, _, _, _, _⟩) rfl (fun K hK => ?_) AllReadyH.nil
          go_simp
          (with_reducible refine (ipart_is 738886 739253 (some ⟨R, 0, none⟩) 3 3 (x3 738886 739068 739252) 2 _ _ _ _ (H.facts (by repeat (first | with_reducible exact List.mem_cons_self | with_reducible apply List.mem_cons_of_mem))) (by decide) (H.row (by repeat (first | with_reducible exact List.mem_cons_self | with_reducible apply List.mem_cons_of_mem))) ex_c).mono ?_)
          rintro e vB32 ⟨rfl, hb⟩
          replace H := H.below hb
          replace HB := HB.trans (hb.mono HB.size)
          clear hb
          go_wp2_with fail
          refine hK.out _ _ ?_ (fun hNew => ?_)
          · exact ⟨H.cell (R) (0) (.int .i64 738886) (by repeat (first | with_reducible exact List.mem_cons_self | with_reducible apply List.mem_cons_of_mem)), H.cell (R) (2) (.int .i64 739252) (by repeat (first | with_reducible exact List.mem_cons_self | with_reducible apply List.mem_cons_of_mem))⟩
          clear hK K hHeld
          have hHeld := hNew
          clear hNew
          try simp only [Act.put, List.setIfInBounds_toArray, List.set_cons_zero, List.set_cons_succ]
          refine wpAnyH_take (i := 9) (oi := ⟨some 36, _, _, _, _, _⟩) (v := ?_) rfl (by kernel_rfl) (by kernel_rfl) (by kernel_rfl) (fun _ _ _ h => h) (Or.inl ⟨by rfl, ?_⟩) (by assumption) ?_
          rotate_left
          · intro w hSw; (try dsimp only at hSw); go_simp; try with_reducible rfl
          simp only [Act.put, List.setIfInBounds_toArray, List.set_cons_zero, List.set_cons_succ]
          refine wpAnyH_take (i := 10) (oi := ⟨some 46, _, _, _, _, _⟩) (v := ?_) rfl (by kernel_rfl) (by kernel_rfl) (by kernel_rfl) (fun _ _ _ h => h) (Or.inl ⟨by rfl, ?_⟩) (by assumption) ?_
          rotate_left
          · intro w hSw; (try dsimp only at hSw); go_simp; try with_reducible rfl
          simp only [Act.put, List.setIfInBounds_toArray, List.set_cons_zero, List.set_cons_succ]
          refine wpAnyH_take (i := 11) (oi := ⟨some 47, _, _, _, _, _⟩) (v := ?_) rfl (by kernel_rfl) (by kernel_rfl) (by kernel_rfl) (fun _ _ _ h => h) (Or.inl ⟨by rfl, ?_⟩) (by assumption) ?_
          rotate_left
          · intro w hSw; (try dsimp only at hSw); go_simp; try with_reducible rfl
          simp only [Act.put, List.setIfInBounds_toArray, List.set_cons_zero, List.set_cons_succ]
          refine wpAnyH_ready (rs := [13]) (by kernel_rfl) (by simp) ?_
          refine AllReadyH.cons (o := ⟨none, _, _, _, _, _⟩) rfl (fun K hK => ?_) AllReadyH.nil
          have cz0 := H.cell _ 0 (.int .i64 0) (List.Mem.head _)
          have cz1 := H.cell _ 1 (.int .i64 0) (List.Mem.tail _ (List.Mem.head _))
          have fz0 := H.frozen _ 0 (List.Mem.tail _ (List.Mem.tail _ (List.Mem.head _)))
          have fz1 := H.frozen _ 1 (List.Mem.tail _ (List.Mem.tail _ (List.Mem.tail _ (List.Mem.head _))))
          have HF := box_late H0 HB cz0 cz1 fz0 fz1 (.int .i64 0) (.int .i64 0)
          go_simp
          refine hK.out _ _ ?_ (fun hNew => ?_)
          · exact ⟨HF.cell (R) (0) (.int .i64 738886) (by repeat (first | with_reducible exact List.mem_cons_self | with_reducible apply List.mem_cons_of_mem)), HF.cell (R) (2) (.int .i64 739252) (by repeat (first | with_reducible exact List.mem_cons_self | with_reducible apply List.mem_cons_of_mem))⟩
          clear hK K hHeld
          have hHeld := hNew
          clear hNew
          try simp only [Act.put, List.setIfInBounds_toArray, List.set_cons_zero, List.set_cons_succ]
          clear H cz0 cz1 fz0 fz1 H0 HB
          have H := HF
          clear HF
          refine wpAnyH_take (i := 14) (oi := ⟨some 7, _, _, _, _, _⟩) (v := ?_) rfl (by kernel_rfl) (by kernel_rfl) (by kernel_rfl) (fun _ _ _ h => h) (Or.inl ⟨by rfl, ?_⟩) (by assumption) ?_
          rotate_left
          · intro w hSw; (try dsimp only at hSw); go_simp; try with_reducible rfl
          simp only [Act.put, List.setIfInBounds_toArray, List.set_cons_zero, List.set_cons_succ]
          refine wpAnyH_done (by kernel_rfl) ?_ _
          clear hHeld
          go_wp2_with fail
          go_meet
          exact ⟨_, rfl, rfl, H⟩
      case rest =>
        obtain ⟨B3, rfl, rfl, H⟩ := hcut
        obtain ⟨W3, eW⟩ : ∃ W3, wc = W3 := ⟨_, rfl⟩
        rw [eW] at H ⊢
        clear eW
        go_upto_region 5 with fail
        go_cut [8, 9] from 12 (fun sx se wx => ∃ B, sx = .pointer (some ⟨B, 0, none⟩) ∧ se = .int .i64 4 ∧ Held w [.cell B 0 (.int .i64 0), .cell B 1 (.int .i64 0), .free B 0, .free B 1, .cell B3 0 (.int .i64 0), .cell B3 1 (.int .i64 0), .free B3 0, .free B3 1, .cell B2 0 (.int .i64 1), .cell B2 1 (.int .i64 4), .free B2 0, .free B2 1, .cell B1 0 (.int .i64 1), .cell B1 1 (.int .i64 2), .free B1 0, .free B1 1, .cell R 0 (.int .i64 738886), .cell R 1 (.int .i64 739068), .cell R 2 (.int .i64 739252), .free R 0, .free R 1, .free R 2, rowF (some ⟨R, 0, none⟩) (x3 738886 739068 739252) 3 3, factsF] wx)
        case first =>
          have wr : IntKind.i64.wrap 739253 = 739253 := by decide +kernel
          go_wp2_with fail
          replace H := H.drew
          refine wp_region_held_drew (S := fun w' => w'.cell? ⟨R, 0, none⟩ = some (.int .i64 738886) ∧ w'.cell? ⟨R, 1, none⟩ = some (.int .i64 739068)) (by kernel_rfl) (⟨H.cell (R) (0) (.int .i64 738886) (by repeat (first | with_reducible exact List.mem_cons_self | with_reducible apply List.mem_cons_of_mem)), H.cell (R) (1) (.int .i64 739068) (by repeat (first | with_reducible exact List.mem_cons_self | with_reducible apply List.mem_cons_of_mem))⟩) (fun hHeld => ?_)
          obtain ⟨WD, hWD⟩ : ∃ WD, World.drew W3 = WD := ⟨_, rfl⟩
          rw [hWD] at H hHeld ⊢
          clear hWD
          refine wpAnyH_take (i := 0) (oi := ⟨some 49, _, _, _, _, _⟩) (v := ?_) rfl (by kernel_rfl) (by kernel_rfl) (by kernel_rfl) (fun _ _ _ h => h) (Or.inl ⟨by rfl, ?_⟩) (by assumption) ?_
          rotate_left
          · intro w hSw; (try dsimp only at hSw); go_simp; try with_reducible rfl
          simp only [Act.put, List.setIfInBounds_toArray, List.set_cons_zero, List.set_cons_succ]
          refine wpAnyH_take (i := 1) (oi := ⟨some 50, _, _, _, _, _⟩) (v := ?_) rfl (by kernel_rfl) (by kernel_rfl) (by kernel_rfl) (fun _ _ _ h => h) (Or.inl ⟨by rfl, ?_⟩) (by assumption) ?_
          rotate_left
          · intro w hSw; (try dsimp only at hSw); go_simp; try with_reducible rfl
          simp only [Act.put, List.setIfInBounds_toArray, List.set_cons_zero, List.set_cons_succ]
          refine wpAnyH_take (i := 2) (oi := ⟨some 51, _, _, _, _, _⟩) (v := ?_) rfl (by kernel_rfl) (by kernel_rfl) (by kernel_rfl) (fun _ _ _ h => h) (Or.inl ⟨by rfl, ?_⟩) (by assumption) ?_
          rotate_left
          · intro w hSw; (try dsimp only at hSw); go_simp; try with_reducible rfl
          simp only [Act.put, List.setIfInBounds_toArray, List.set_cons_zero, List.set_cons_succ]
          refine wpAnyH_take (i := 3) (oi := ⟨some 52, _, _, _, _, _⟩) (v := ?_) rfl (by kernel_rfl) (by kernel_rfl) (by kernel_rfl) (fun _ _ _ h => h) (Or.inl ⟨by rfl, ?_⟩) (by assumption) ?_
          rotate_left
          · intro w hSw; (try dsimp only at hSw); go_simp; try with_reducible rfl
          simp only [Act.put, List.setIfInBounds_toArray, List.set_cons_zero, List.set_cons_succ]
          refine wpAnyH_take (i := 4) (oi := ⟨some 53, _, _, _, _, _⟩) (v := ?_) rfl (by kernel_rfl) (by kernel_rfl) (by kernel_rfl) (fun _ _ _ h => h) (Or.inl ⟨by rfl, ?_⟩) (by assumption) ?_
          rotate_left
          · intro w hSw; (try dsimp only at hSw); go_simp; try with_reducible rfl
          simp only [Act.put, List.setIfInBounds_toArray, List.set_cons_zero, List.set_cons_succ]
          refine wpAnyH_take (i := 5) (oi := ⟨some 54, _, _, _, _, _⟩) (v := ?_) rfl (by kernel_rfl) (by kernel_rfl) (by kernel_rfl) (fun _ _ _ h => h) (Or.inl ⟨by rfl, ?_⟩) (by assumption) ?_
          rotate_left
          · intro w hSw; (try dsimp only at hSw); go_simp; try with_reducible rfl
          simp only [Act.put, List.setIfInBounds_toArray, List.set_cons_zero, List.set_cons_succ]
          refine wpAnyH_take (i := 6) (oi := ⟨some 55, _, _, _, _, _⟩) (v := ?_) rfl (by kernel_rfl) (by kernel_rfl) (by kernel_rfl) (fun _ _ _ h => h) (Or.inl ⟨by rfl, ?_⟩) (by assumption) ?_
          rotate_left
          · intro w hSw; (try dsimp only at hSw); go_simp; try with_reducible rfl
          simp only [Act.put, List.setIfInBounds_toArray, List.set_cons_zero, List.set_cons_succ]
          refine wpAnyH_ready (rs := [7, 11]) (by kernel_rfl) (by simp) ?_
          refine AllReadyH.cons (o := ⟨some 56, _, _, _, _, _⟩) rfl (fun K hK => ?_) (AllReadyH.cons (o := ⟨some 8, _, _, _, _, _⟩) rfl (fun K hK => ?_) AllReadyH.nil)
          ·
            go_simp
            (with_reducible refine (ipart_is 739068 738886 (some ⟨R, 0, none⟩) 3 3 (x3 738886 739068 739252) 2 _ _ _ _ (H.facts (by repeat (first | with_reducible exact List.mem_cons_self | with_reducible apply List.mem_cons_of_mem))) (by decide) (H.row (by repeat (first | with_reducible exact List.mem_cons_self | with_reducible apply List.mem_cons_of_mem))) ex_d).mono ?_)
            rintro e vB41 ⟨rfl, hb⟩
            replace H := H.below hb
            clear hb
            go_wp2_with fail
            refine hK.out _ _ ?_ (fun hNew => ?_)
            · exact ⟨H.cell (R) (0) (.int .i64 738886) (by repeat (first | with_reducible exact List.mem_cons_self | with_reducible apply List.mem_cons_of_mem)), H.cell (R) (1) (.int .i64 739068) (by repeat (first | with_reducible exact List.mem_cons_self | with_reducible apply List.mem_cons_of_mem))⟩
            clear hK K hHeld
            have hHeld := hNew
            clear hNew
            try simp only [Act.put, List.setIfInBounds_toArray, List.set_cons_zero, List.set_cons_succ]
            refine wpAnyH_take (i := 8) (oi := ⟨some 48, _, _, _, _, _⟩) (v := ?_) rfl (by kernel_rfl) (by kernel_rfl) (by kernel_rfl) (fun _ _ _ h => h) (Or.inl ⟨by rfl, ?_⟩) (by assumption) ?_
            rotate_left
            · intro w hSw; (try dsimp only at hSw); go_simp; try with_reducible rfl
            simp only [Act.put, List.setIfInBounds_toArray, List.set_cons_zero, List.set_cons_succ]
            refine wpAnyH_take (i := 9) (oi := ⟨some 57, _, _, _, _, _⟩) (v := ?_) rfl (by kernel_rfl) (by kernel_rfl) (by kernel_rfl) (fun _ _ _ h => h) (Or.inl ⟨by rfl, ?_⟩) (by assumption) ?_
            rotate_left
            · intro w hSw; (try dsimp only at hSw); go_simp; try with_reducible rfl
            simp only [Act.put, List.setIfInBounds_toArray, List.set_cons_zero, List.set_cons_succ]
            refine wpAnyH_take (i := 10) (oi := ⟨some 58, _, _, _, _, _⟩) (v := ?_) rfl (by kernel_rfl) (by kernel_rfl) (by kernel_rfl) (fun _ _ _ h => h) (Or.inl ⟨by rfl, ?_⟩) (by assumption) ?_
            rotate_left
            · intro w hSw; (try dsimp only at hSw); go_simp; try with_reducible rfl
            simp only [Act.put, List.setIfInBounds_toArray, List.set_cons_zero, List.set_cons_succ]
            refine wpAnyH_ready (rs := [11]) (by kernel_rfl) (by simp) ?_
            refine AllReadyH.cons (o := ⟨some 8, _, _, _, _, _⟩) rfl (fun K hK => ?_) AllReadyH.nil
            have H0 := H
            replace H := H.pair _ (.int .i64 0) (.int .i64 0) 27 rfl
            have HB := H0.newBox (.cells #[.int .i64 0, .int .i64 0] 27)
            go_simp
            refine hK.out _ _ ?_ (fun hNew => ?_)
            · exact ⟨H.cell (R) (0) (.int .i64 738886) (by repeat (first | with_reducible exact List.mem_cons_self | with_reducible apply List.mem_cons_of_mem)), H.cell (R) (1) (.int .i64 739068) (by repeat (first | with_reducible exact List.mem_cons_self | with_reducible apply List.mem_cons_of_mem))⟩
            clear hK K hHeld
            have hHeld := hNew
            clear hNew
            try simp only [Act.put, List.setIfInBounds_toArray, List.set_cons_zero, List.set_cons_succ]
            refine wpAnyH_ready (rs := [12]) (by kernel_rfl) (by simp) ?_
            refine AllReadyH.cons (o := ⟨none, _, _, _, _, _⟩) rfl (fun K hK => ?_) AllReadyH.nil
            have HF := H0.pair _ (.int .i64 0) (.int .i64 0) 27 rfl
            go_simp
            refine hK.out _ _ ?_ (fun hNew => ?_)
            · exact ⟨HF.cell (R) (0) (.int .i64 738886) (by repeat (first | with_reducible exact List.mem_cons_self | with_reducible apply List.mem_cons_of_mem)), HF.cell (R) (1) (.int .i64 739068) (by repeat (first | with_reducible exact List.mem_cons_self | with_reducible apply List.mem_cons_of_mem))⟩
            clear hK K hHeld
            have hHeld := hNew
            clear hNew
            try simp only [Act.put, List.setIfInBounds_toArray, List.set_cons_zero, List.set_cons_succ]
            clear H H0 HB
            have H := HF
            clear HF
            refine wpAnyH_take (i := 13) (oi := ⟨some 9, _, _, _, _, _⟩) (v := ?_) rfl (by kernel_rfl) (by kernel_rfl) (by kernel_rfl) (fun _ _ _ h => h) (Or.inl ⟨by rfl, ?_⟩) (by assumption) ?_
            rotate_left
            · intro w hSw; (try dsimp only at hSw); go_simp; try with_reducible rfl
            simp only [Act.put, List.setIfInBounds_toArray, List.set_cons_zero, List.set_cons_succ]
            refine wpAnyH_done (by kernel_rfl) ?_ _
            clear hHeld
            go_wp2_with fail
            go_meet
            exact ⟨_, rfl, rfl, H⟩
          ·
            have H0 := H
            replace H := H.pair _ (.int .i64 0) (.int .i64 0) 27 rfl
            have HB := H0.newBox (.cells #[.int .i64 0, .int .i64 0] 27)
            go_simp
            refine hK.out _ _ ?_ (fun hNew => ?_)
            · exact ⟨H.cell (R) (0) (.int .i64 738886) (by repeat (first | with_reducible exact List.mem_cons_self | with_reducible apply List.mem_cons_of_mem)), H.cell (R) (1) (.int .i64 739068) (by repeat (first | with_reducible exact List.mem_cons_self | with_reducible apply List.mem_cons_of_mem))⟩
            clear hK K hHeld
            have hHeld := hNew
            clear hNew
            try simp only [Act.put, List.setIfInBounds_toArray, List.set_cons_zero, List.set_cons_succ]
            refine wpAnyH_ready (rs := [7]) (by kernel_rfl) (by simp) ?_
            refine AllReadyH.cons (o := ⟨some 56, _, _, _, _, _⟩) rfl (fun K hK => ?_) AllReadyH.nil
            go_simp
            (with_reducible refine (ipart_is 739068 738886 (some ⟨R, 0, none⟩) 3 3 (x3 738886 739068 739252) 2 _ _ _ _ (H.facts (by repeat (first | with_reducible exact List.mem_cons_self | with_reducible apply List.mem_cons_of_mem))) (by decide) (H.row (by repeat (first | with_reducible exact List.mem_cons_self | with_reducible apply List.mem_cons_of_mem))) ex_d).mono ?_)
            rintro e vB42 ⟨rfl, hb⟩
            replace H := H.below hb
            replace HB := HB.trans (hb.mono HB.size)
            clear hb
            go_wp2_with fail
            refine hK.out _ _ ?_ (fun hNew => ?_)
            · exact ⟨H.cell (R) (0) (.int .i64 738886) (by repeat (first | with_reducible exact List.mem_cons_self | with_reducible apply List.mem_cons_of_mem)), H.cell (R) (1) (.int .i64 739068) (by repeat (first | with_reducible exact List.mem_cons_self | with_reducible apply List.mem_cons_of_mem))⟩
            clear hK K hHeld
            have hHeld := hNew
            clear hNew
            try simp only [Act.put, List.setIfInBounds_toArray, List.set_cons_zero, List.set_cons_succ]
            refine wpAnyH_take (i := 8) (oi := ⟨some 48, _, _, _, _, _⟩) (v := ?_) rfl (by kernel_rfl) (by kernel_rfl) (by kernel_rfl) (fun _ _ _ h => h) (Or.inl ⟨by rfl, ?_⟩) (by assumption) ?_
            rotate_left
            · intro w hSw; (try dsimp only at hSw); go_simp; try with_reducible rfl
            simp only [Act.put, List.setIfInBounds_toArray, List.set_cons_zero, List.set_cons_succ]
            refine wpAnyH_take (i := 9) (oi := ⟨some 57, _, _, _, _, _⟩) (v := ?_) rfl (by kernel_rfl) (by kernel_rfl) (by kernel_rfl) (fun _ _ _ h => h) (Or.inl ⟨by rfl, ?_⟩) (by assumption) ?_
            rotate_left
            · intro w hSw; (try dsimp only at hSw); go_simp; try with_reducible rfl
            simp only [Act.put, List.setIfInBounds_toArray, List.set_cons_zero, List.set_cons_succ]
            refine wpAnyH_take (i := 10) (oi := ⟨some 58, _, _, _, _, _⟩) (v := ?_) rfl (by kernel_rfl) (by kernel_rfl) (by kernel_rfl) (fun _ _ _ h => h) (Or.inl ⟨by rfl, ?_⟩) (by assumption) ?_
            rotate_left
            · intro w hSw; (try dsimp only at hSw); go_simp; try with_reducible rfl
            simp only [Act.put, List.setIfInBounds_toArray, List.set_cons_zero, List.set_cons_succ]
            refine wpAnyH_ready (rs := [12]) (by kernel_rfl) (by simp) ?_
            refine AllReadyH.cons (o := ⟨none, _, _, _, _, _⟩) rfl (fun K hK => ?_) AllReadyH.nil
            have cz0 := H.cell _ 0 (.int .i64 0) (List.Mem.head _)
            have cz1 := H.cell _ 1 (.int .i64 0) (List.Mem.tail _ (List.Mem.head _))
            have fz0 := H.frozen _ 0 (List.Mem.tail _ (List.Mem.tail _ (List.Mem.head _)))
            have fz1 := H.frozen _ 1 (List.Mem.tail _ (List.Mem.tail _ (List.Mem.tail _ (List.Mem.head _))))
            have HF := box_late H0 HB cz0 cz1 fz0 fz1 (.int .i64 0) (.int .i64 0)
            go_simp
            refine hK.out _ _ ?_ (fun hNew => ?_)
            · exact ⟨HF.cell (R) (0) (.int .i64 738886) (by repeat (first | with_reducible exact List.mem_cons_self | with_reducible apply List.mem_cons_of_mem)), HF.cell (R) (1) (.int .i64 739068) (by repeat (first | with_reducible exact List.mem_cons_self | with_reducible apply List.mem_cons_of_mem))⟩
            clear hK K hHeld
            have hHeld := hNew
            clear hNew
            try simp only [Act.put, List.setIfInBounds_toArray, List.set_cons_zero, List.set_cons_succ]
            clear H cz0 cz1 fz0 fz1 H0 HB
            have H := HF
            clear HF
            refine wpAnyH_take (i := 13) (oi := ⟨some 9, _, _, _, _, _⟩) (v := ?_) rfl (by kernel_rfl) (by kernel_rfl) (by kernel_rfl) (fun _ _ _ h => h) (Or.inl ⟨by rfl, ?_⟩) (by assumption) ?_
            rotate_left
            · intro w hSw; (try dsimp only at hSw); go_simp; try with_reducible rfl
            simp only [Act.put, List.setIfInBounds_toArray, List.set_cons_zero, List.set_cons_succ]
            refine wpAnyH_done (by kernel_rfl) ?_ _
            clear hHeld
            go_wp2_with fail
            go_meet
            exact ⟨_, rfl, rfl, H⟩
        case rest =>
          obtain ⟨B4, rfl, rfl, H⟩ := hcut
          obtain ⟨W4, eW⟩ : ∃ W4, wc = W4 := ⟨_, rfl⟩
          rw [eW] at H ⊢
          clear eW
          have cr0 := H.cell R 0 (.int .i64 738886) (by repeat (first | with_reducible exact List.mem_cons_self | with_reducible apply List.mem_cons_of_mem))
          go_wp2_with fail
          (with_reducible refine (ipart_is 0 738886 (some ⟨R, 0, none⟩) 3 3 (x3 738886 739068 739252) 2 _ _ _ _ (H.facts (by repeat (first | with_reducible exact List.mem_cons_self | with_reducible apply List.mem_cons_of_mem))) (by decide) (H.row (by repeat (first | with_reducible exact List.mem_cons_self | with_reducible apply List.mem_cons_of_mem))) ex_e).mono ?_)
          rintro e u1 ⟨rfl, hb⟩
          replace H := H.below hb
          clear hb cr0
          have ca0 := H.cell B1 0 (.int .i64 1) (by repeat (first | with_reducible exact List.mem_cons_self | with_reducible apply List.mem_cons_of_mem))
          have ca1 := H.cell B1 1 (.int .i64 2) (by repeat (first | with_reducible exact List.mem_cons_self | with_reducible apply List.mem_cons_of_mem))
          have la := cell_lt ca0
          have cb0 := H.cell B2 0 (.int .i64 1) (by repeat (first | with_reducible exact List.mem_cons_self | with_reducible apply List.mem_cons_of_mem))
          have cb1 := H.cell B2 1 (.int .i64 4) (by repeat (first | with_reducible exact List.mem_cons_self | with_reducible apply List.mem_cons_of_mem))
          have lb := cell_lt cb0
          have cc0 := H.cell B3 0 (.int .i64 0) (by repeat (first | with_reducible exact List.mem_cons_self | with_reducible apply List.mem_cons_of_mem))
          have cc1 := H.cell B3 1 (.int .i64 0) (by repeat (first | with_reducible exact List.mem_cons_self | with_reducible apply List.mem_cons_of_mem))
          have lc := cell_lt cc0
          have cd0 := H.cell B4 0 (.int .i64 0) (by repeat (first | with_reducible exact List.mem_cons_self | with_reducible apply List.mem_cons_of_mem))
          have cd1 := H.cell B4 1 (.int .i64 0) (by repeat (first | with_reducible exact List.mem_cons_self | with_reducible apply List.mem_cons_of_mem))
          have ld := cell_lt cd0
          go_wp2_with fail
          clear ca0 ca1 la cb0 cb1 lb cc0 cc1 lc cd0 cd1 ld
          replace H := H.alloc (.cells #[.int .i64 0, .int .i64 0] 27)
          (with_reducible refine (imay_is (some ⟨R, 0, none⟩) 3 3 (x3 738886 739068 739252) 2 true _ (H.facts (by repeat (first | with_reducible exact List.mem_cons_self | with_reducible apply List.mem_cons_of_mem))) (by decide) (H.row (by repeat (first | with_reducible exact List.mem_cons_self | with_reducible apply List.mem_cons_of_mem))) (by constructor; (intro _; exact may3); (intro _; rfl))).mono ?_)
          rintro e u2 ⟨rfl, hb⟩
          replace H := H.below hb
          clear hb
          go_wp2_with fail
          (with_reducible refine (imay_is (some ⟨R, 0, none⟩) 3 3 (x3 738886 739068 739252) 13 false _ (H.facts (by repeat (first | with_reducible exact List.mem_cons_self | with_reducible apply List.mem_cons_of_mem))) (by decide) (H.row (by repeat (first | with_reducible exact List.mem_cons_self | with_reducible apply List.mem_cons_of_mem))) (by constructor; (intro h; cases h); (intro h; exact absurd h no13))).mono ?_)
          rintro e u3 ⟨rfl, hb⟩
          replace H := H.below hb
          clear hb
          go_wp2_with fail
          (with_reducible refine (imay_is (some ⟨R, 0, none⟩) 1 3 (x3 738886 739068 739252) 2 false _ (H.facts (by repeat (first | with_reducible exact List.mem_cons_self | with_reducible apply List.mem_cons_of_mem))) (by decide) ((H.row (by repeat (first | with_reducible exact List.mem_cons_self | with_reducible apply List.mem_cons_of_mem))).cut (by decide)) (by constructor; (intro h; cases h); (intro h; exact absurd h no1))).mono ?_)
          rintro e u4 ⟨rfl, hb⟩
          replace H := H.below hb
          clear hb
          go_wp2_with fail
          go_ret
          exact ⟨rfl, H.old⟩
end Go.Proofs.YtcplfgmajbadmaaDoor
