/- IcmaAdds: the walk. -/
import Derived.Test.YtcplfgmajbadmaaDoorIcShown
import Derived.Test.YtcplfgmajbadmaaDoorIcAddNum
import Derived.BigQuiet
namespace Go.Proofs.YtcplfgmajbadmaaDoor
open Go.RowKit
set_option linter.unusedVariables false
set_option linter.unusedSimpArgs false

set_option maxHeartbeats 8000000 in
set_option maxRecDepth 100000 in
theorem iadds_long (a b c : Int) (ao : Option Addr) (n cap : Nat) (X : Nat → Int) (f : Int) (w : World) (hL : Facts w) (hR : RowAt w ao X n cap) (hn : 60 < n) :
    Calls Tryd.prog 4 #[.agg #[.int .i64 a, .int .i64 b, .int .i64 c, .slice ao n cap, .int .i64 f]] w fun e w' => e = .returned (.bool true) ∧ Below w.heap.size w w' := by
  have H := ((Held.start w).add (f := factsF) hL).add (f := rowF ao X n cap) hR
  clear hL hR
  go_enter Tryd.func4, Tryd.ntmps4
  go_wp2_with fail
  replace H := H.alloc (.cells #[.int .i64 a, .int .i64 b, .int .i64 c, .slice ao n cap, .int .i64 f] 36)
  (with_reducible refine (ishown_any _ (H.facts (by repeat (first | with_reducible exact List.mem_cons_self | with_reducible apply List.mem_cons_of_mem)))).mono ?_)
  rintro e w1 ⟨rfl, hb⟩
  replace H := H.below hb
  clear hb
  have t1 : decide ((n : Int) > 60) = true := by simp; omega
  go_wp2
  go_ret
  exact ⟨rfl, H.old⟩

set_option maxHeartbeats 8000000 in
set_option maxRecDepth 100000 in
theorem iadds_not (a b c : Int) (ao : Option Addr) (n cap : Nat) (X : Nat → Int) (f : Int) (w : World) (hL : Facts w) (hR : RowAt w ao X n cap) (hn : n ≤ 60) (hm : ¬ MayX X n f) :
    Calls Tryd.prog 4 #[.agg #[.int .i64 a, .int .i64 b, .int .i64 c, .slice ao n cap, .int .i64 f]] w fun e w' => e = .returned (.bool true) ∧ Below w.heap.size w w' := by
  have H := ((Held.start w).add (f := factsF) hL).add (f := rowF ao X n cap) hR
  have M := Lib.hid (fun v hr => imr_is ao n cap X f false v (by omega) hr ⟨fun h => (by cases h), fun h => absurd h hm⟩)
  clear hL hR hm
  go_enter Tryd.func4, Tryd.ntmps4
  go_wp2_with fail
  replace H := H.alloc (.cells #[.int .i64 a, .int .i64 b, .int .i64 c, .slice ao n cap, .int .i64 f] 36)
  (with_reducible refine (ishown_any _ (H.facts (by repeat (first | with_reducible exact List.mem_cons_self | with_reducible apply List.mem_cons_of_mem)))).mono ?_)
  rintro e w1 ⟨rfl, hb⟩
  replace H := H.below hb
  clear hb
  have t1 : decide ((n : Int) > 60) = false := by simp; omega
  go_wp2_with fail
  (with_reducible refine (M.out _ (H.row (by repeat (first | with_reducible exact List.mem_cons_self | with_reducible apply List.mem_cons_of_mem)))).mono ?_)
  rintro e w2 ⟨rfl, hb⟩
  replace H := H.below hb
  clear hb
  go_wp2
  go_ret
  exact ⟨rfl, H.old⟩

set_option maxHeartbeats 8000000 in
set_option maxRecDepth 100000 in
theorem iadds_may (a b c : Int) (B off m cap : Nat) (X : Nat → Int) (f : Int) (w : World) (hL : Facts w) (hm1 : 1 ≤ m) (hmm : m < 60) (hcap : m + 1 ≤ cap) (hC : Cells w B off X (m + 1)) (hm : MayX X (m + 1) f) :
    Calls Tryd.prog 4 #[.agg #[.int .i64 a, .int .i64 b, .int .i64 c, .slice (some ⟨B, off, none⟩) (m + 1) cap, .int .i64 f]] w fun e w' => e = .returned (.bool true) ∧ Below w.heap.size w w' := by
  have HM := Lib.hid hm
  have hf := hm.2.2.1
  have H := (((((Held.start w).add (f := factsF) hL).add (f := rowF (some ⟨B, off, none⟩) X (m + 1) cap) ⟨hcap, fun _ => ⟨B, off, rfl, hC⟩⟩).add (f := cellsF B off X (m + 1)) hC).add (f := .cell B (off + m) _) (hC m (by omega))).add (f := .cell B off _) (by have := hC 0 (by omega); rwa [Nat.add_zero] at this)
  have M := Lib.hid (fun v hr => imr_is (some ⟨B, off, none⟩) (m + 1) cap X f true v (by omega) hr ⟨fun _ => hm, fun _ => rfl⟩)
  obtain ⟨P, hP⟩ : ∃ P, (vP X m f (X 0) (X m)).num = P := ⟨_, rfl⟩
  obtain ⟨Q, hQ⟩ : ∃ Q, ((vP X m f (X 0) (X m)).den : Int) = Q := ⟨_, rfl⟩
  have PA := Lib.hid (show IcIs X (m + 1) f (X 0) (X m) P Q 0 by have k := ic_ok (X := X) (n := m + 1) (f := f) (a := X 0) (b := X m) (by have := hm.2.2.2.2; rw [Nat.add_sub_cancel] at this; omega) hm (Int.le_refl _) (Int.le_refl _); rw [Nat.add_sub_cancel, hP, hQ] at k; exact k)
  have CW := Lib.hid (show rN (cnt X m) f = P ∧ rD (cnt X m) f = Q ∧ rE (cnt X m) f = 0 by have k := cnt_is X m f hm.2.2.2.1 (by omega) hf; rw [hP, hQ] at k; exact k)
  have CL := Lib.hid (cnt_le X)
  clear hL hm hC hP hQ
  go_enter Tryd.func4, Tryd.ntmps4
  go_wp2_with fail
  replace H := H.alloc (.cells #[.int .i64 a, .int .i64 b, .int .i64 c, .slice (some ⟨B, off, none⟩) (m + 1) cap, .int .i64 f] 36)
  (with_reducible refine (ishown_any _ (H.facts (by repeat (first | with_reducible exact List.mem_cons_self | with_reducible apply List.mem_cons_of_mem)))).mono ?_)
  rintro e w1 ⟨rfl, hb⟩
  replace H := H.below hb
  clear hb
  have t1 : decide (((m + 1 : Nat) : Int) > 60) = false := by simp; omega
  go_wp2_with fail
  (with_reducible refine (M.out _ (H.row (by repeat (first | with_reducible exact List.mem_cons_self | with_reducible apply List.mem_cons_of_mem)))).mono ?_)
  rintro e w2 ⟨rfl, hb⟩
  replace H := H.below hb
  clear hb
  go_wp2_with fail
  have HG := Lib.hid (H.sub (gs := [.cell B off (.int .i64 (X 0)), .cell B (off + m) (.int .i64 (X m)), cellsF B off X (m + 1), rowF (some ⟨B, off, none⟩) X (m + 1) cap, factsF]) (by intro f hf; simp only [List.mem_cons, List.mem_nil_iff, or_false] at hf ⊢; rcases hf with h | h | h | h | h <;> simp [h]))
  clear H t1
  go_loopw [10, 11] (fun mm i wr => ∃ k : Nat, k ≤ m ∧ i = .int .i64 ((k : Int) + 1) ∧ mm = .int .i64 (cnt X k : Int) ∧ Held w [.cell B off (.int .i64 (X 0)), .cell B (off + m) (.int .i64 (X m)), cellsF B off X (m + 1), rowF (some ⟨B, off, none⟩) X (m + 1) cap, factsF] wr) (fun _ i _ => m + 1 - (intOf i).toNat)
  case atStart => exact ⟨0, by omega, rfl, rfl, HG.out⟩
  case round =>
    obtain ⟨k, hk, rfl, rfl, H⟩ := hrel
    by_cases hlt : k < m
    · have hC := H.cells (by repeat (first | with_reducible exact List.mem_cons_self | with_reducible apply List.mem_cons_of_mem))
      have ck := hC k (by omega)
      have ck1 := hC (k + 1) (by omega)
      have kc := CL.out k
      by_cases hl : X k < X (k + 1)
      · have t2 : decide (X (k + 1) > X k) = true := by simpa using hl
        have EC := Lib.hid (cnt_yes hl)
        clear hC
        go_wp2_with fail
        go_quiet (fail)
        go_wp2
        go_roundw
        case rel => exact ⟨k + 1, by omega, by go_num, by rw [EC.out]; go_num, H.drewN _⟩
        case measure => simp [intOf]; omega
      · have t2 : decide (X (k + 1) > X k) = false := by simpa using hl
        have EC := Lib.hid (cnt_no hl)
        clear hC
        go_wp2_with fail
        go_quiet (fail)
        go_wp2
        go_roundw
        case rel => exact ⟨k + 1, by omega, by go_num, by rw [EC.out], H.drewN _⟩
        case measure => simp [intOf]; omega
    · obtain rfl : m = k := by omega
      have kc := CL.out m
      go_upto_region 16 with fail
      go_cut [12, 13] from 24 (fun sx se wx => ∃ B1, sx = .pointer (some ⟨B1, 0, none⟩) ∧ se = .int .i64 0 ∧ Held w [.cell B1 0 (.int .i64 P), .cell B1 1 (.int .i64 Q), .free B1 0, .free B1 1, .cell B off (.int .i64 (X 0)), .cell B (off + m) (.int .i64 (X m)), cellsF B off X (m + 1), rowF (some ⟨B, off, none⟩) X (m + 1) cap, factsF] wx)
      case first =>
        have wm : IntKind.i64.wrap (m : Int) = (m : Int) := wrap_in _ (by omega)
        have wm0 : (0 : Int) ≤ (m : Int) := by omega
        have wm1 : (m : Int) < (m : Int) + 1 := by omega
        go_wp2_with fail
        replace H := H.drew
        refine wp_region_held_drew (S := fun w' => w'.cell? ⟨B, off, none⟩ = some (.int .i64 (X 0)) ∧ w'.cell? ⟨B, off + m, none⟩ = some (.int .i64 (X m))) (by kernel_rfl) (⟨H.cell (B) (off) (.int .i64 (X 0)) (by repeat (first | with_reducible exact List.mem_cons_self | with_reducible apply List.mem_cons_of_mem)), H.cell (B) (off + m) (.int .i64 (X m)) (by repeat (first | with_reducible exact List.mem_cons_self | with_reducible apply List.mem_cons_of_mem))⟩) (fun hHeld => ?_)
        obtain ⟨WD, hWD⟩ : ∃ WD, World.drew wr = WD := ⟨_, rfl⟩
        rw [hWD] at H hHeld ⊢
        clear hWD
        refine wpAnyH_take (i := 0) (oi := ⟨some 65, _, _, _, _, _⟩) (v := ?_) rfl (by kernel_rfl) (by kernel_rfl) (by kernel_rfl) (fun _ _ _ h => h) (Or.inl ⟨by rfl, ?_⟩) (by assumption) ?_
        rotate_left
        · intro w hSw; (try dsimp only at hSw); go_simp; try with_reducible rfl
        simp only [Act.put, List.setIfInBounds_toArray, List.set_cons_zero, List.set_cons_succ]
        refine wpAnyH_take (i := 1) (oi := ⟨some 66, _, _, _, _, _⟩) (v := ?_) rfl (by kernel_rfl) (by kernel_rfl) (by kernel_rfl) (fun _ _ _ h => h) (Or.inl ⟨by rfl, ?_⟩) (by assumption) ?_
        rotate_left
        · intro w hSw; (try dsimp only at hSw); go_simp; try with_reducible rfl
        simp only [Act.put, List.setIfInBounds_toArray, List.set_cons_zero, List.set_cons_succ]
        refine wpAnyH_take (i := 2) (oi := ⟨some 67, _, _, _, _, _⟩) (v := ?_) rfl (by kernel_rfl) (by kernel_rfl) (by kernel_rfl) (fun _ _ _ h => h) (Or.inl ⟨by rfl, ?_⟩) (by assumption) ?_
        rotate_left
        · intro w hSw; (try dsimp only at hSw); go_simp; try with_reducible rfl
        simp only [Act.put, List.setIfInBounds_toArray, List.set_cons_zero, List.set_cons_succ]
        refine wpAnyH_take (i := 3) (oi := ⟨some 68, _, _, _, _, _⟩) (v := ?_) rfl (by kernel_rfl) (by kernel_rfl) (by kernel_rfl) (fun _ _ _ h => h) (Or.inl ⟨by rfl, ?_⟩) (by assumption) ?_
        rotate_left
        · intro w hSw; (try dsimp only at hSw); go_simp; try with_reducible rfl
        simp only [Act.put, List.setIfInBounds_toArray, List.set_cons_zero, List.set_cons_succ]
        refine wpAnyH_take (i := 4) (oi := ⟨some 69, _, _, _, _, _⟩) (v := ?_) rfl (by kernel_rfl) (by kernel_rfl) (by kernel_rfl) (fun _ _ _ h => h) (Or.inl ⟨by rfl, ?_⟩) (by assumption) ?_
        rotate_left
        · intro w hSw; (try dsimp only at hSw); go_simp; try with_reducible rfl
        simp only [Act.put, List.setIfInBounds_toArray, List.set_cons_zero, List.set_cons_succ]
        refine wpAnyH_take (i := 5) (oi := ⟨some 70, _, _, _, _, _⟩) (v := ?_) rfl (by kernel_rfl) (by kernel_rfl) (by kernel_rfl) (fun _ _ _ h => h) (Or.inl ⟨by rfl, ?_⟩) (by assumption) ?_
        rotate_left
        · intro w hSw; (try dsimp only at hSw); go_simp; try with_reducible rfl
        simp only [Act.put, List.setIfInBounds_toArray, List.set_cons_zero, List.set_cons_succ]
        refine wpAnyH_take (i := 6) (oi := ⟨some 71, _, _, _, _, _⟩) (v := ?_) rfl (by kernel_rfl) (by kernel_rfl) (by kernel_rfl) (fun _ _ _ h => h) (Or.inl ⟨by rfl, ?_⟩) (by assumption) ?_
        rotate_left
        · intro w hSw; (try dsimp only at hSw); go_simp; try with_reducible rfl
        simp only [Act.put, List.setIfInBounds_toArray, List.set_cons_zero, List.set_cons_succ]
        refine wpAnyH_take (i := 7) (oi := ⟨some 72, _, _, _, _, _⟩) (v := ?_) rfl (by kernel_rfl) (by kernel_rfl) (by kernel_rfl) (fun _ _ _ h => h) (Or.inl ⟨by rfl, ?_⟩) (by assumption) ?_
        rotate_left
        · intro w hSw; (try dsimp only at hSw); go_simp; try with_reducible rfl
        simp only [Act.put, List.setIfInBounds_toArray, List.set_cons_zero, List.set_cons_succ]
        refine wpAnyH_take (i := 8) (oi := ⟨some 73, _, _, _, _, _⟩) (v := ?_) rfl (by kernel_rfl) (by kernel_rfl) (by kernel_rfl) (fun _ _ _ h => h) (Or.inl ⟨by rfl, ?_⟩) (by assumption) ?_
        rotate_left
        · intro w hSw; (try dsimp only at hSw); go_simp; try with_reducible rfl
        simp only [Act.put, List.setIfInBounds_toArray, List.set_cons_zero, List.set_cons_succ]
        refine wpAnyH_take (i := 9) (oi := ⟨some 74, _, _, _, _, _⟩) (v := ?_) rfl (by kernel_rfl) (by kernel_rfl) (by kernel_rfl) (fun _ _ _ h => h) (Or.inl ⟨by rfl, ?_⟩) (by assumption) ?_
        rotate_left
        · intro w hSw; (try dsimp only at hSw); go_simp; try with_reducible rfl
        simp only [Act.put, List.setIfInBounds_toArray, List.set_cons_zero, List.set_cons_succ]
        refine wpAnyH_ready (rs := [10, 14]) (by kernel_rfl) (by simp) ?_
        refine AllReadyH.cons (o := ⟨some 75, _, _, _, _, _⟩) rfl (fun K hK => ?_) (AllReadyH.cons (o := ⟨some 12, _, _, _, _, _⟩) rfl (fun K hK => ?_) AllReadyH.nil)
        ·
          go_simp
          (with_reducible refine (ipart_is (X 0) (X m) (some ⟨B, off, none⟩) (m + 1) cap X f P Q 0 _ (H.facts (by repeat (first | with_reducible exact List.mem_cons_self | with_reducible apply List.mem_cons_of_mem))) (by omega) (H.row (by repeat (first | with_reducible exact List.mem_cons_self | with_reducible apply List.mem_cons_of_mem))) PA.out).mono ?_)
          rintro e vB1 ⟨rfl, hb⟩
          replace H := H.below hb
          clear hb
          go_wp2_with fail
          refine hK.out _ _ ?_ (fun hNew => ?_)
          · exact ⟨H.cell (B) (off) (.int .i64 (X 0)) (by repeat (first | with_reducible exact List.mem_cons_self | with_reducible apply List.mem_cons_of_mem)), H.cell (B) (off + m) (.int .i64 (X m)) (by repeat (first | with_reducible exact List.mem_cons_self | with_reducible apply List.mem_cons_of_mem))⟩
          clear hK K hHeld
          have hHeld := hNew
          clear hNew
          try simp only [Act.put, List.setIfInBounds_toArray, List.set_cons_zero, List.set_cons_succ]
          refine wpAnyH_take (i := 11) (oi := ⟨some 64, _, _, _, _, _⟩) (v := ?_) rfl (by kernel_rfl) (by kernel_rfl) (by kernel_rfl) (fun _ _ _ h => h) (Or.inl ⟨by rfl, ?_⟩) (by assumption) ?_
          rotate_left
          · intro w hSw; (try dsimp only at hSw); go_simp; try with_reducible rfl
          simp only [Act.put, List.setIfInBounds_toArray, List.set_cons_zero, List.set_cons_succ]
          refine wpAnyH_take (i := 12) (oi := ⟨some 76, _, _, _, _, _⟩) (v := ?_) rfl (by kernel_rfl) (by kernel_rfl) (by kernel_rfl) (fun _ _ _ h => h) (Or.inl ⟨by rfl, ?_⟩) (by assumption) ?_
          rotate_left
          · intro w hSw; (try dsimp only at hSw); go_simp; try with_reducible rfl
          simp only [Act.put, List.setIfInBounds_toArray, List.set_cons_zero, List.set_cons_succ]
          refine wpAnyH_take (i := 13) (oi := ⟨some 77, _, _, _, _, _⟩) (v := ?_) rfl (by kernel_rfl) (by kernel_rfl) (by kernel_rfl) (fun _ _ _ h => h) (Or.inl ⟨by rfl, ?_⟩) (by assumption) ?_
          rotate_left
          · intro w hSw; (try dsimp only at hSw); go_simp; try with_reducible rfl
          simp only [Act.put, List.setIfInBounds_toArray, List.set_cons_zero, List.set_cons_succ]
          refine wpAnyH_ready (rs := [14]) (by kernel_rfl) (by simp) ?_
          refine AllReadyH.cons (o := ⟨some 12, _, _, _, _, _⟩) rfl (fun K hK => ?_) AllReadyH.nil
          have H0 := H
          replace H := H.pair _ (.int .i64 0) (.int .i64 0) 27 rfl
          have HB := H0.newBox (.cells #[.int .i64 0, .int .i64 0] 27)
          go_simp
          refine hK.out _ _ ?_ (fun hNew => ?_)
          · exact ⟨H.cell (B) (off) (.int .i64 (X 0)) (by repeat (first | with_reducible exact List.mem_cons_self | with_reducible apply List.mem_cons_of_mem)), H.cell (B) (off + m) (.int .i64 (X m)) (by repeat (first | with_reducible exact List.mem_cons_self | with_reducible apply List.mem_cons_of_mem))⟩
          clear hK K hHeld
          have hHeld := hNew
          clear hNew
          try simp only [Act.put, List.setIfInBounds_toArray, List.set_cons_zero, List.set_cons_succ]
          refine wpAnyH_ready (rs := [15]) (by kernel_rfl) (by simp) ?_
          refine AllReadyH.cons (o := ⟨none, _, _, _, _, _⟩) rfl (fun K hK => ?_) AllReadyH.nil
          have HF := H0.pair _ (.int .i64 P) (.int .i64 Q) 27 rfl
          go_simp
          refine hK.out _ _ ?_ (fun hNew => ?_)
          · exact ⟨HF.cell (B) (off) (.int .i64 (X 0)) (by repeat (first | with_reducible exact List.mem_cons_self | with_reducible apply List.mem_cons_of_mem)), HF.cell (B) (off + m) (.int .i64 (X m)) (by repeat (first | with_reducible exact List.mem_cons_self | with_reducible apply List.mem_cons_of_mem))⟩
          clear hK K hHeld
          have hHeld := hNew
          clear hNew
          try simp only [Act.put, List.setIfInBounds_toArray, List.set_cons_zero, List.set_cons_succ]
          clear H H0 HB
          have H := HF
          clear HF
          refine wpAnyH_take (i := 16) (oi := ⟨some 13, _, _, _, _, _⟩) (v := ?_) rfl (by kernel_rfl) (by kernel_rfl) (by kernel_rfl) (fun _ _ _ h => h) (Or.inl ⟨by rfl, ?_⟩) (by assumption) ?_
          rotate_left
          · intro w hSw; (try dsimp only at hSw); go_simp; try with_reducible rfl
          simp only [Act.put, List.setIfInBounds_toArray, List.set_cons_zero, List.set_cons_succ]
          refine wpAnyH_done (by kernel_rfl) ?_ _
          clear hHeld
          go_wp2_with fail
          go_meet
          exact ⟨_, rfl, rfl, H⟩
        ·
          have H0 := H
          replace H := H.pair _ (.int .i64 0) (.int .i64 0) 27 rfl
          have HB := H0.newBox (.cells #[.int .i64 0, .int .i64 0] 27)
          go_simp
          refine hK.out _ _ ?_ (fun hNew => ?_)
          · exact ⟨H.cell (B) (off) (.int .i64 (X 0)) (by repeat (first | with_reducible exact List.mem_cons_self | with_reducible apply List.mem_cons_of_mem)), H.cell (B) (off + m) (.int .i64 (X m)) (by repeat (first | with_reducible exact List.mem_cons_self | with_reducible apply List.mem_cons_of_mem))⟩
          clear hK K hHeld
          have hHeld := hNew
          clear hNew
          try simp only [Act.put, List.setIfInBounds_toArray, List.set_cons_zero, List.set_cons_succ]
          refine wpAnyH_ready (rs := [10]) (by kernel_rfl) (by simp) ?_
          refine AllReadyH.cons (o := ⟨some 75, _, _, _, _, _⟩) rfl (fun K hK => ?_) AllReadyH.nil
          go_simp
          (with_reducible refine (ipart_is (X 0) (X m) (some ⟨B, off, none⟩) (m + 1) cap X f P Q 0 _ (H.facts (by repeat (first | with_reducible exact List.mem_cons_self | with_reducible apply List.mem_cons_of_mem))) (by omega) (H.row (by repeat (first | with_reducible exact List.mem_cons_self | with_reducible apply List.mem_cons_of_mem))) PA.out).mono ?_)
          rintro e vB2 ⟨rfl, hb⟩
          replace H := H.below hb
          replace HB := HB.trans (hb.mono HB.size)
          clear hb
          go_wp2_with fail
          refine hK.out _ _ ?_ (fun hNew => ?_)
          · exact ⟨H.cell (B) (off) (.int .i64 (X 0)) (by repeat (first | with_reducible exact List.mem_cons_self | with_reducible apply List.mem_cons_of_mem)), H.cell (B) (off + m) (.int .i64 (X m)) (by repeat (first | with_reducible exact List.mem_cons_self | with_reducible apply List.mem_cons_of_mem))⟩
          clear hK K hHeld
          have hHeld := hNew
          clear hNew
          try simp only [Act.put, List.setIfInBounds_toArray, List.set_cons_zero, List.set_cons_succ]
          refine wpAnyH_take (i := 11) (oi := ⟨some 64, _, _, _, _, _⟩) (v := ?_) rfl (by kernel_rfl) (by kernel_rfl) (by kernel_rfl) (fun _ _ _ h => h) (Or.inl ⟨by rfl, ?_⟩) (by assumption) ?_
          rotate_left
          · intro w hSw; (try dsimp only at hSw); go_simp; try with_reducible rfl
          simp only [Act.put, List.setIfInBounds_toArray, List.set_cons_zero, List.set_cons_succ]
          refine wpAnyH_take (i := 12) (oi := ⟨some 76, _, _, _, _, _⟩) (v := ?_) rfl (by kernel_rfl) (by kernel_rfl) (by kernel_rfl) (fun _ _ _ h => h) (Or.inl ⟨by rfl, ?_⟩) (by assumption) ?_
          rotate_left
          · intro w hSw; (try dsimp only at hSw); go_simp; try with_reducible rfl
          simp only [Act.put, List.setIfInBounds_toArray, List.set_cons_zero, List.set_cons_succ]
          refine wpAnyH_take (i := 13) (oi := ⟨some 77, _, _, _, _, _⟩) (v := ?_) rfl (by kernel_rfl) (by kernel_rfl) (by kernel_rfl) (fun _ _ _ h => h) (Or.inl ⟨by rfl, ?_⟩) (by assumption) ?_
          rotate_left
          · intro w hSw; (try dsimp only at hSw); go_simp; try with_reducible rfl
          simp only [Act.put, List.setIfInBounds_toArray, List.set_cons_zero, List.set_cons_succ]
          refine wpAnyH_ready (rs := [15]) (by kernel_rfl) (by simp) ?_
          refine AllReadyH.cons (o := ⟨none, _, _, _, _, _⟩) rfl (fun K hK => ?_) AllReadyH.nil
          have cz0 := H.cell _ 0 (.int .i64 0) (List.Mem.head _)
          have cz1 := H.cell _ 1 (.int .i64 0) (List.Mem.tail _ (List.Mem.head _))
          have fz0 := H.frozen _ 0 (List.Mem.tail _ (List.Mem.tail _ (List.Mem.head _)))
          have fz1 := H.frozen _ 1 (List.Mem.tail _ (List.Mem.tail _ (List.Mem.tail _ (List.Mem.head _))))
          have HF := box_late H0 HB cz0 cz1 fz0 fz1 (.int .i64 P) (.int .i64 Q)
          go_simp
          refine hK.out _ _ ?_ (fun hNew => ?_)
          · exact ⟨HF.cell (B) (off) (.int .i64 (X 0)) (by repeat (first | with_reducible exact List.mem_cons_self | with_reducible apply List.mem_cons_of_mem)), HF.cell (B) (off + m) (.int .i64 (X m)) (by repeat (first | with_reducible exact List.mem_cons_self | with_reducible apply List.mem_cons_of_mem))⟩
          clear hK K hHeld
          have hHeld := hNew
          clear hNew
          try simp only [Act.put, List.setIfInBounds_toArray, List.set_cons_zero, List.set_cons_succ]
          clear H cz0 cz1 fz0 fz1 H0 HB
          have H := HF
          clear HF
          refine wpAnyH_take (i := 16) (oi := ⟨some 13, _, _, _, _, _⟩) (v := ?_) rfl (by kernel_rfl) (by kernel_rfl) (by kernel_rfl) (fun _ _ _ h => h) (Or.inl ⟨by rfl, ?_⟩) (by assumption) ?_
          rotate_left
          · intro w hSw; (try dsimp only at hSw); go_simp; try with_reducible rfl
          simp only [Act.put, List.setIfInBounds_toArray, List.set_cons_zero, List.set_cons_succ]
          refine wpAnyH_done (by kernel_rfl) ?_ _
          clear hHeld
          go_wp2_with fail
          go_meet
          exact ⟨_, rfl, rfl, H⟩
      case rest =>
        obtain ⟨B1, rfl, rfl, H⟩ := hcut
        obtain ⟨W1, eW⟩ : ∃ W1, wc = W1 := ⟨_, rfl⟩
        rw [eW] at H ⊢
        clear eW
        go_wp2_with fail
        (with_reducible refine (refnew_is (cnt X m) f P Q 0 _ (by omega) (by omega) (by omega) (by omega) CW.out).mono ?_)
        rintro e w3 ⟨rfl, hb⟩
        replace H := H.below hb
        clear hb
        have cB0 := H.cell B off (.int .i64 (X 0)) (by repeat (first | with_reducible exact List.mem_cons_self | with_reducible apply List.mem_cons_of_mem))
        have cBm := H.cell B (off + m) (.int .i64 (X m)) (by repeat (first | with_reducible exact List.mem_cons_self | with_reducible apply List.mem_cons_of_mem))
        have lB := cell_lt cB0
        have ca0 := H.cell (B1) 0 (.int .i64 P) (by repeat (first | with_reducible exact List.mem_cons_self | with_reducible apply List.mem_cons_of_mem))
        have ca1 := H.cell (B1) 1 (.int .i64 Q) (by repeat (first | with_reducible exact List.mem_cons_self | with_reducible apply List.mem_cons_of_mem))
        have la := cell_lt ca0
        by_cases h1 : a < X 0
        · have t3 : decide (a < X 0) = true := by simpa using h1
          go_wp2
          go_ret
          exact ⟨rfl, (H.alloc _).old⟩
        have t3 : decide (a < X 0) = false := by simpa using h1
        by_cases h2 : b < a
        · have t4 : decide (a > b) = true := by simpa using h2
          go_wp2
          go_ret
          exact ⟨rfl, (H.alloc _).old⟩
        have t4 : decide (a > b) = false := by simpa using h2
        by_cases h3 : c < b
        · have t5 : decide (b > c) = true := by simpa using h3
          go_wp2
          go_ret
          exact ⟨rfl, (H.alloc _).old⟩
        have t5 : decide (b > c) = false := by simpa using h3
        by_cases h4 : X m < c
        · have t6 : decide (c > X m) = true := by simpa using h4
          go_wp2
          go_ret
          exact ⟨rfl, (H.alloc _).old⟩
        have t6 : decide (c > X m) = false := by simpa using h4
        obtain ⟨p, q, r, s, t, u, I1, I2, I3, R1, R2, AD, EQ⟩ := adds_all X m f a b c HM.out (by omega) (by omega) (by omega) (by omega)
        replace I1 := Lib.hid I1
        replace I2 := Lib.hid I2
        replace I3 := Lib.hid I3
        have AC := Lib.hid (fun v => refadd_is p q r s t u 0 v R1 R2 AD)
        replace EQ := Lib.hid EQ
        clear R1 R2 AD
        go_wp2_with fail
        clear ca0 ca1 la cB0 cBm lB
        replace H := H.pair (w3.heap.size) (.int .i64 P) (.int .i64 Q) 27 rfl
        (with_reducible refine (ipart_is a b (some ⟨B, off, none⟩) (m + 1) cap X f p q 0 _ (H.facts (by repeat (first | with_reducible exact List.mem_cons_self | with_reducible apply List.mem_cons_of_mem))) (by omega) (H.row (by repeat (first | with_reducible exact List.mem_cons_self | with_reducible apply List.mem_cons_of_mem))) I1.out).mono ?_)
        rintro e w4 ⟨rfl, hb⟩
        replace H := H.below hb
        clear hb
        go_wp2_with fail
        replace H := H.pair (w4.heap.size) (.int .i64 p) (.int .i64 q) 27 rfl
        (with_reducible refine (ipart_is b c (some ⟨B, off, none⟩) (m + 1) cap X f r s 0 _ (H.facts (by repeat (first | with_reducible exact List.mem_cons_self | with_reducible apply List.mem_cons_of_mem))) (by omega) (H.row (by repeat (first | with_reducible exact List.mem_cons_self | with_reducible apply List.mem_cons_of_mem))) I2.out).mono ?_)
        rintro e w5 ⟨rfl, hb⟩
        replace H := H.below hb
        clear hb
        have cx0 := H.cell (w4.heap.size) 0 (.int .i64 p) (by repeat (first | with_reducible exact List.mem_cons_self | with_reducible apply List.mem_cons_of_mem))
        have cx1 := H.cell (w4.heap.size) 1 (.int .i64 q) (by repeat (first | with_reducible exact List.mem_cons_self | with_reducible apply List.mem_cons_of_mem))
        have lx := cell_lt cx0
        go_wp2_with fail
        clear cx0 cx1 lx
        replace H := H.pair (w5.heap.size) (.int .i64 r) (.int .i64 s) 27 rfl
        (with_reducible refine (ipart_is a c (some ⟨B, off, none⟩) (m + 1) cap X f t u 0 _ (H.facts (by repeat (first | with_reducible exact List.mem_cons_self | with_reducible apply List.mem_cons_of_mem))) (by omega) (H.row (by repeat (first | with_reducible exact List.mem_cons_self | with_reducible apply List.mem_cons_of_mem))) I3.out).mono ?_)
        rintro e w6 ⟨rfl, hb⟩
        replace H := H.below hb
        clear hb
        have cx0 := H.cell (w4.heap.size) 0 (.int .i64 p) (by repeat (first | with_reducible exact List.mem_cons_self | with_reducible apply List.mem_cons_of_mem))
        have cx1 := H.cell (w4.heap.size) 1 (.int .i64 q) (by repeat (first | with_reducible exact List.mem_cons_self | with_reducible apply List.mem_cons_of_mem))
        have lx := cell_lt cx0
        have cy0 := H.cell (w5.heap.size) 0 (.int .i64 r) (by repeat (first | with_reducible exact List.mem_cons_self | with_reducible apply List.mem_cons_of_mem))
        have cy1 := H.cell (w5.heap.size) 1 (.int .i64 s) (by repeat (first | with_reducible exact List.mem_cons_self | with_reducible apply List.mem_cons_of_mem))
        have ly := cell_lt cy0
        go_wp2_with fail
        clear cx0 cx1 lx cy0 cy1 ly
        replace H := H.pair (w6.heap.size) (.int .i64 t) (.int .i64 u) 27 rfl
        (with_reducible refine (AC.out _).mono ?_)
        rintro e w7 ⟨rfl, hb⟩
        replace H := H.below hb
        clear hb
        have cx0 := H.cell (w4.heap.size) 0 (.int .i64 p) (by repeat (first | with_reducible exact List.mem_cons_self | with_reducible apply List.mem_cons_of_mem))
        have cx1 := H.cell (w4.heap.size) 1 (.int .i64 q) (by repeat (first | with_reducible exact List.mem_cons_self | with_reducible apply List.mem_cons_of_mem))
        have lx := cell_lt cx0
        have cz0 := H.cell (w6.heap.size) 0 (.int .i64 t) (by repeat (first | with_reducible exact List.mem_cons_self | with_reducible apply List.mem_cons_of_mem))
        have cz1 := H.cell (w6.heap.size) 1 (.int .i64 u) (by repeat (first | with_reducible exact List.mem_cons_self | with_reducible apply List.mem_cons_of_mem))
        have lz := cell_lt cz0
        have eq := EQ.out
        go_wp2_with fail
        clear cx0 cx1 lx cz0 cz1 lz
        replace H := H.pair (w7.heap.size) (.int .i64 t) (.int .i64 u) 27 rfl
        go_ret
        exact ⟨by simp [eq], H.old⟩

theorem iadds_walk (a b c : Int) (ao : Option Addr) (n cap : Nat) (X : Nat → Int) (f : Int) (w : World) (hL : Facts w) (hR : RowAt w ao X n cap) :
    Calls Tryd.prog 4 #[.agg #[.int .i64 a, .int .i64 b, .int .i64 c, .slice ao n cap, .int .i64 f]] w fun e w' => e = .returned (.bool true) ∧ Below w.heap.size w w' := by
  by_cases hn : 60 < n
  · exact iadds_long a b c ao n cap X f w hL hR hn
  · by_cases hm : MayX X n f
    · have h1 := hm.1
      obtain ⟨B, off, rfl, hC⟩ := hR.2 (by omega)
      obtain ⟨m, rfl⟩ : ∃ m, n = m + 1 := ⟨n - 1, by omega⟩
      exact iadds_may a b c B off m cap X f w hL (by omega) (by omega) hR.1 hC hm
    · exact iadds_not a b c ao n cap X f w hL hR (by omega) hm
end Go.Proofs.YtcplfgmajbadmaaDoor
