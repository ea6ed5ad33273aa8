/- IcmaSplit: the walk. -/
import Derived.Test.YtcplfgmajbadmaaDoorIcShown
import Derived.Test.YtcplfgmajbadmaaDoorIcSpNum
import Derived.Test.YtcplfgmajbadmaaDoorIcOwn
namespace Go.Proofs.YtcplfgmajbadmaaDoor
open Go.RowKit
set_option linter.unusedVariables false
set_option linter.unusedSimpArgs false

set_option maxHeartbeats 8000000 in
set_option maxRecDepth 100000 in
theorem isplit_long (a b : Int) (ao : Option Addr) (n cap : Nat) (X : Nat → Int) (f at0 mo : Int) (w : World) (hL : Facts w) (bt : 0 ≤ at0 ∧ at0 < 256) (bm : 0 ≤ mo ∧ mo < 65536) (hR : RowAt w ao X n cap) (hn : 40 < n) :
    Calls Tryd.prog 6 #[.agg #[.int .i64 a, .int .i64 b, .slice ao n cap, .int .i64 f, .int .u8 at0, .int .u16 mo]] w fun e w' => e = .returned (.bool true) ∧ Below w.heap.size w w' := by
  have H := ((Held.start w).add (f := factsF) hL).add (f := rowF ao X n cap) hR
  clear hL hR
  go_enter Tryd.func6, Tryd.ntmps6
  go_wp2_with fail
  replace H := H.alloc (.cells #[.int .i64 a, .int .i64 b, .slice ao n cap, .int .i64 f, .int .u8 at0, .int .u16 mo] 46)
  (with_reducible refine (ishown_any _ (H.facts (by repeat (first | with_reducible exact List.mem_cons_self | with_reducible apply List.mem_cons_of_mem)))).mono ?_)
  rintro e w1 ⟨rfl, hb⟩
  replace H := H.below hb
  clear hb
  have t1 : decide ((n : Int) > 40) = true := by simp; omega
  go_wp2
  go_ret
  exact ⟨rfl, H.old⟩

set_option maxHeartbeats 8000000 in
set_option maxRecDepth 100000 in
theorem isplit_not (a b : Int) (ao : Option Addr) (n cap : Nat) (X : Nat → Int) (f at0 mo : Int) (w : World) (hL : Facts w) (bt : 0 ≤ at0 ∧ at0 < 256) (bm : 0 ≤ mo ∧ mo < 65536) (hR : RowAt w ao X n cap) (hn : n ≤ 40) (hm : ¬ MayX X n f) :
    Calls Tryd.prog 6 #[.agg #[.int .i64 a, .int .i64 b, .slice ao n cap, .int .i64 f, .int .u8 at0, .int .u16 mo]] w fun e w' => e = .returned (.bool true) ∧ Below w.heap.size w w' := by
  have H := ((Held.start w).add (f := factsF) hL).add (f := rowF ao X n cap) hR
  have M := Lib.hid (fun v hr => imr_is ao n cap X f false v (by omega) hr ⟨fun h => (by cases h), fun h => absurd h hm⟩)
  clear hL hR hm
  go_enter Tryd.func6, Tryd.ntmps6
  go_wp2_with fail
  replace H := H.alloc (.cells #[.int .i64 a, .int .i64 b, .slice ao n cap, .int .i64 f, .int .u8 at0, .int .u16 mo] 46)
  (with_reducible refine (ishown_any _ (H.facts (by repeat (first | with_reducible exact List.mem_cons_self | with_reducible apply List.mem_cons_of_mem)))).mono ?_)
  rintro e w1 ⟨rfl, hb⟩
  replace H := H.below hb
  clear hb
  have t1 : decide ((n : Int) > 40) = false := by simp; omega
  go_wp2_with fail
  (with_reducible refine (M.out _ (H.row (by repeat (first | with_reducible exact List.mem_cons_self | with_reducible apply List.mem_cons_of_mem)))).mono ?_)
  rintro e w2 ⟨rfl, hb⟩
  replace H := H.below hb
  clear hb
  go_wp2
  go_ret
  exact ⟨rfl, H.old⟩

set_option maxHeartbeats 8000000 in
set_option maxRecDepth 100000 in
theorem isplit_code (a b : Int) (ao : Option Addr) (n cap : Nat) (X : Nat → Int) (f at0 mo : Int) (w : World) (hL : Facts w) (bt : 0 ≤ at0 ∧ at0 < 256) (bm : 0 ≤ mo ∧ mo < 65536) (hR : RowAt w ao X n cap) (hn : n ≤ 40) (hm : MayX X n f) (c : Int) (hI : IcIs X n f a b 0 0 c) (hc : c ≠ 0) :
    Calls Tryd.prog 6 #[.agg #[.int .i64 a, .int .i64 b, .slice ao n cap, .int .i64 f, .int .u8 at0, .int .u16 mo]] w fun e w' => e = .returned (.bool true) ∧ Below w.heap.size w w' := by
  have H := ((Held.start w).add (f := factsF) hL).add (f := rowF ao X n cap) hR
  have M := Lib.hid (fun v hr => imr_is ao n cap X f true v (by omega) hr ⟨fun _ => hm, fun _ => rfl⟩)
  have P1 := Lib.hid (fun v h1 h2 => ipart_is a b ao n cap X f 0 0 c v h1 (by omega) h2 hI)
  have CN : Hid ((c == 0) = false ∧ (c != 0) = true) := Lib.hid ⟨by simpa using hc, by simpa using hc⟩
  clear hL hR hm hI hc
  go_enter Tryd.func6, Tryd.ntmps6
  go_wp2_with fail
  replace H := H.alloc (.cells #[.int .i64 a, .int .i64 b, .slice ao n cap, .int .i64 f, .int .u8 at0, .int .u16 mo] 46)
  (with_reducible refine (ishown_any _ (H.facts (by repeat (first | with_reducible exact List.mem_cons_self | with_reducible apply List.mem_cons_of_mem)))).mono ?_)
  rintro e w1 ⟨rfl, hb⟩
  replace H := H.below hb
  clear hb
  have t1 : decide ((n : Int) > 40) = false := by simp; omega
  go_wp2_with fail
  (with_reducible refine (M.out _ (H.row (by repeat (first | with_reducible exact List.mem_cons_self | with_reducible apply List.mem_cons_of_mem)))).mono ?_)
  rintro e w2 ⟨rfl, hb⟩
  replace H := H.below hb
  clear hb
  go_wp2_with fail
  (with_reducible refine (P1.out _ (H.facts (by repeat (first | with_reducible exact List.mem_cons_self | with_reducible apply List.mem_cons_of_mem))) (H.row (by repeat (first | with_reducible exact List.mem_cons_self | with_reducible apply List.mem_cons_of_mem)))).mono ?_)
  rintro e w3 ⟨rfl, hb⟩
  replace H := H.below hb
  clear hb
  have cn := CN.out.1
  have cm := CN.out.2
  go_wp2
  go_ret
  exact ⟨rfl, (H.alloc _).old⟩

set_option maxHeartbeats 8000000 in
set_option maxRecDepth 100000 in
theorem isplit_yes (a b : Int) (B off m cap k : Nat) (p q : Int) (X : Nat → Int) (f at0 mo : Int) (w : World) (hL : Facts w) (bt : 0 ≤ at0 ∧ at0 < 256) (bm : 0 ≤ mo ∧ mo < 65536) (hm1 : 1 ≤ m) (hmm : m < 40) (hcap : m + 1 ≤ cap) (hC : Cells w B off X (m + 1)) (hm : MayX X (m + 1) f) (h0 : X 0 ≤ a) (hab : a ≤ b) (hb : b ≤ X m) (hk : at0 % ((m : Int) + 1) = (k : Int)) (hkm : k < m + 1) (hI : IcIs X (m + 1) f a b p q 0) :
    Calls Tryd.prog 6 #[.agg #[.int .i64 a, .int .i64 b, .slice (some ⟨B, off, none⟩) (m + 1) cap, .int .i64 f, .int .u8 at0, .int .u16 mo]] w fun e w' => e = .returned (.bool true) ∧ Below w.heap.size w w' := by
  have mB := hm.2.2.2.1.1 m (by omega)
  have zB := hm.2.2.2.1.1 0 (by omega)
  have H := ((((((Held.start w).add (f := factsF) hL).add (f := rowF (some ⟨B, off, none⟩) X (m + 1) cap) ⟨hcap, fun _ => ⟨B, off, rfl, hC⟩⟩).add (f := cellsF B off X (m + 1)) hC).add (f := .cell B (off + k) _) (hC k (by omega))).add (f := .cell B (off + m) _) (hC m (by omega))).add (f := .cell B off _) (by have := hC 0 (by omega); rwa [Nat.add_zero] at this)
  have M := Lib.hid (fun v hr => imr_is (some ⟨B, off, none⟩) (m + 1) cap X f true v (by omega) hr ⟨fun _ => hm, fun _ => rfl⟩)
  obtain ⟨S1, S2, S3⟩ := split_all X m k f a b p q hm (by omega) (by omega) h0 hab hb hI
  replace S1 := Lib.hid S1
  replace S2 := Lib.hid S2
  replace S3 := Lib.hid S3
  have I1 := Lib.hid hI
  have HKK := Lib.hid hk
  clear hL hm hC hI hk
  go_enter Tryd.func6, Tryd.ntmps6
  go_wp2_with fail
  replace H := H.alloc (.cells #[.int .i64 a, .int .i64 b, .slice (some ⟨B, off, none⟩) (m + 1) cap, .int .i64 f, .int .u8 at0, .int .u16 mo] 46)
  (with_reducible refine (ishown_any _ (H.facts (by repeat (first | with_reducible exact List.mem_cons_self | with_reducible apply List.mem_cons_of_mem)))).mono ?_)
  rintro e w1 ⟨rfl, hb⟩
  replace H := H.below hb
  clear hb
  have t1 : decide (((m + 1 : Nat) : Int) > 40) = false := by simp; omega
  go_wp2_with fail
  (with_reducible refine (M.out _ (H.row (by repeat (first | with_reducible exact List.mem_cons_self | with_reducible apply List.mem_cons_of_mem)))).mono ?_)
  rintro e w2 ⟨rfl, hb⟩
  replace H := H.below hb
  clear hb
  go_wp2_with fail
  (with_reducible refine (ipart_is a b (some ⟨B, off, none⟩) (m + 1) cap X f p q 0 _ (H.facts (by repeat (first | with_reducible exact List.mem_cons_self | with_reducible apply List.mem_cons_of_mem))) (by omega) (H.row (by repeat (first | with_reducible exact List.mem_cons_self | with_reducible apply List.mem_cons_of_mem))) I1.out).mono ?_)
  rintro e w3 ⟨rfl, hb⟩
  replace H := H.below hb
  clear hb
  have km0 : ((m : Int) + 1) ≠ 0 := by omega
  go_upto_region 15 with fail
  rw [HKK.out]
  replace H := H.pair (w3.heap.size) (.int .i64 p) (.int .i64 q) 27 rfl
  replace H := H.sub (gs := [.cell (w3.heap.size) 0 (.int .i64 p), .cell (w3.heap.size) 1 (.int .i64 q), .free (w3.heap.size) 0, .free (w3.heap.size) 1, .cell B off (.int .i64 (X 0)), .cell B (off + m) (.int .i64 (X m)), .cell B (off + k) (.int .i64 (X k)), cellsF B off X (m + 1), rowF (some ⟨B, off, none⟩) X (m + 1) cap, factsF]) (by intro f hf; simp only [List.mem_cons, List.mem_nil_iff, or_false] at hf ⊢; rcases hf with h | h | h | h | h | h | h | h | h | h <;> simp [h])
  obtain ⟨W0, hW0⟩ : ∃ W0, w3.alloc (.cells #[.int .i64 p, .int .i64 q] 27) = W0 := ⟨_, rfl⟩
  rw [hW0] at H ⊢
  clear hW0
  go_cut [14] from 23 (fun s wx => ∃ ao ca, s = .slice ao (m + 2) ca ∧ Held w [rowF ao (tw X k) (m + 2) ca, .cell (w3.heap.size) 0 (.int .i64 p), .cell (w3.heap.size) 1 (.int .i64 q), .free (w3.heap.size) 0, .free (w3.heap.size) 1, .cell B off (.int .i64 (X 0)), .cell B (off + m) (.int .i64 (X m)), .cell B (off + k) (.int .i64 (X k)), cellsF B off X (m + 1), rowF (some ⟨B, off, none⟩) X (m + 1) cap, factsF] wx)
  case first =>
    have wk : IntKind.i64.wrap (k : Int) = (k : Int) := wrap_in _ (by omega)
    have wk0 : (0 : Int) ≤ (k : Int) := by omega
    have wk1 : (k : Int) < (m : Int) + 1 := by omega
    have wk2 : (k : Int) ≤ (m : Int) + 1 := by omega
    have wk3 : (k : Int) ≤ (cap : Int) := by omega
    have wk4 : (m : Int) + 1 ≤ (cap : Int) := by omega
    go_wp2_with fail
    replace H := H.drew
    refine wp_region_held_drew (S := fun w' => w'.cell? ⟨B, off + k, none⟩ = some (.int .i64 (X k))) (by kernel_rfl) (H.cell (B) (off + k) (.int .i64 (X k)) (by repeat (first | with_reducible exact List.mem_cons_self | with_reducible apply List.mem_cons_of_mem))) (fun hHeld => ?_)
    obtain ⟨WD, hWD⟩ : ∃ WD, World.drew W0 = WD := ⟨_, rfl⟩
    rw [hWD] at H hHeld ⊢
    clear hWD
    have HB := Below.refl WD.heap.size WD
    refine wpAnyH_take (i := 1) (oi := ⟨some 69, _, _, _, _, _⟩) (v := ?_) rfl (by kernel_rfl) (by kernel_rfl) (by kernel_rfl) (fun _ _ _ h => h) (Or.inl ⟨by rfl, ?_⟩) (by assumption) ?_
    rotate_left
    · intro w hSw; (try dsimp only at hSw); go_simp; try with_reducible rfl
    simp only [Act.put, List.setIfInBounds_toArray, List.set_cons_zero, List.set_cons_succ]
    refine wpAnyH_take (i := 2) (oi := ⟨some 70, _, _, _, _, _⟩) (v := ?_) rfl (by kernel_rfl) (by kernel_rfl) (by kernel_rfl) (fun _ _ _ h => h) (Or.inl ⟨by rfl, ?_⟩) (by assumption) ?_
    rotate_left
    · intro w hSw; (try dsimp only at hSw); go_simp; try with_reducible rfl
    simp only [Act.put, List.setIfInBounds_toArray, List.set_cons_zero, List.set_cons_succ]
    refine wpAnyH_take (i := 3) (oi := ⟨some 71, _, _, _, _, _⟩) (v := ?_) rfl (by kernel_rfl) (by kernel_rfl) (by kernel_rfl) (fun _ _ _ h => h) (Or.inl ⟨by rfl, ?_⟩) (by assumption) ?_
    rotate_left
    · intro w hSw; (try dsimp only at hSw); go_simp; try with_reducible rfl
    simp only [Act.put, List.setIfInBounds_toArray, List.set_cons_zero, List.set_cons_succ]
    refine wpAnyH_take (i := 5) (oi := ⟨some 73, _, _, _, _, _⟩) (v := ?_) rfl (by kernel_rfl) (by kernel_rfl) (by kernel_rfl) (fun _ _ _ h => h) (Or.inl ⟨by rfl, ?_⟩) (by assumption) ?_
    rotate_left
    · intro w hSw; (try dsimp only at hSw); go_simp; try with_reducible rfl
    simp only [Act.put, List.setIfInBounds_toArray, List.set_cons_zero, List.set_cons_succ]
    refine wpAnyH_take (i := 6) (oi := ⟨some 74, _, _, _, _, _⟩) (v := ?_) rfl (by kernel_rfl) (by kernel_rfl) (by kernel_rfl) (fun _ _ _ h => h) (Or.inl ⟨by rfl, ?_⟩) (by assumption) ?_
    rotate_left
    · intro w hSw; (try dsimp only at hSw); go_simp; try with_reducible rfl
    simp only [Act.put, List.setIfInBounds_toArray, List.set_cons_zero, List.set_cons_succ]
    refine wpAnyH_take (i := 7) (oi := ⟨some 75, _, _, _, _, _⟩) (v := ?_) rfl (by kernel_rfl) (by kernel_rfl) (by kernel_rfl) (fun _ _ _ h => h) (Or.inl ⟨by rfl, ?_⟩) (by assumption) ?_
    rotate_left
    · intro w hSw; (try dsimp only at hSw); go_simp; try with_reducible rfl
    simp only [Act.put, List.setIfInBounds_toArray, List.set_cons_zero, List.set_cons_succ]
    refine wpAnyH_take (i := 8) (oi := ⟨some 76, _, _, _, _, _⟩) (v := ?_) rfl (by kernel_rfl) (by kernel_rfl) (by kernel_rfl) (fun _ _ _ h => h) (Or.inl ⟨by rfl, ?_⟩) (by assumption) ?_
    rotate_left
    · intro w hSw; (try dsimp only at hSw); go_simp; try with_reducible rfl
    simp only [Act.put, List.setIfInBounds_toArray, List.set_cons_zero, List.set_cons_succ]
    refine wpAnyH_take (i := 11) (oi := ⟨some 79, _, _, _, _, _⟩) (v := ?_) rfl (by kernel_rfl) (by kernel_rfl) (by kernel_rfl) (fun _ _ _ h => h) (Or.inl ⟨by rfl, ?_⟩) (by assumption) ?_
    rotate_left
    · intro w hSw; (try dsimp only at hSw); go_simp; try with_reducible rfl
    simp only [Act.put, List.setIfInBounds_toArray, List.set_cons_zero, List.set_cons_succ]
    refine wpAnyH_take (i := 12) (oi := ⟨some 80, _, _, _, _, _⟩) (v := ?_) rfl (by kernel_rfl) (by kernel_rfl) (by kernel_rfl) (fun _ _ _ h => h) (Or.inl ⟨by rfl, ?_⟩) (by assumption) ?_
    rotate_left
    · intro w hSw; (try dsimp only at hSw); go_simp; try with_reducible rfl
    simp only [Act.put, List.setIfInBounds_toArray, List.set_cons_zero, List.set_cons_succ]
    refine wpAnyH_take (i := 13) (oi := ⟨some 81, _, _, _, _, _⟩) (v := .slice (some ⟨B, off + k, none⟩) (m + 1 - k) (cap - k)) rfl (by kernel_rfl) (by kernel_rfl) (by kernel_rfl) (fun _ _ _ h => h) (Or.inl ⟨by rfl, ?_⟩) (by assumption) ?_
    · intro w hSw; (try dsimp only at hSw); go_simp; (try (intro h; omega))
    simp only [Act.put, List.setIfInBounds_toArray, List.set_cons_zero, List.set_cons_succ]
    refine wpAnyH_ready (rs := [0, 9]) (by kernel_rfl) (by simp) ?_
    refine AllReadyH.cons (o := ⟨some 68, _, _, _, _, _⟩) rfl (fun K hK => ?_) (AllReadyH.cons (o := ⟨some 77, _, _, _, _, _⟩) rfl (fun K hK => ?_) AllReadyH.nil)
    ·
      have OW := own_empty (WD)
      replace OW := World.ownsRow.mono OW (show WD.heap.size ≤ _ by first | exact Nat.le_refl _ | omega)
      replace HB := HB.alloc HB.size (.cells #[] 3)
      go_simp
      refine hK.out _ _ ?_ (fun hNew => ?_)
      · exact (H.below HB).cell (B) (off + k) (.int .i64 (X k)) (by repeat (first | with_reducible exact List.mem_cons_self | with_reducible apply List.mem_cons_of_mem))
      clear hK K hHeld
      have hHeld := hNew
      clear hNew
      try simp only [Act.put, List.setIfInBounds_toArray, List.set_cons_zero, List.set_cons_succ]
      refine wpAnyH_ready (rs := [4, 9]) (by kernel_rfl) (by simp) ?_
      refine AllReadyH.cons (o := ⟨some 72, _, _, _, _, _⟩) rfl (fun K hK => ?_) (AllReadyH.cons (o := ⟨some 77, _, _, _, _, _⟩) rfl (fun K hK => ?_) AllReadyH.nil)
      ·
        refine step_row rfl _ _ rfl WD.heap.size (.slice (some ⟨WD.heap.size, 0, none⟩) 0 0) _ _ rfl OW ⟨B, off, none⟩ k cap (ints X k) rfl (by first | exact ints_len _ _ | (rw [ints_len]; omega)) (cells_news (((H.below HB).cells (by repeat (first | with_reducible exact List.mem_cons_self | with_reducible apply List.mem_cons_of_mem))).take (by omega))) (ints_one _ _) (by omega) HB.size (fun v1 u1 ho hg => ?_)
        replace HB := HB.trans (own_grown HB.size OW hg)
        clear hg OW
        have OW := ho
        clear ho
        refine hK.out _ _ ?_ (fun hNew => ?_)
        · exact (H.below HB).cell (B) (off + k) (.int .i64 (X k)) (by repeat (first | with_reducible exact List.mem_cons_self | with_reducible apply List.mem_cons_of_mem))
        clear hK K hHeld
        have hHeld := hNew
        clear hNew
        try simp only [Act.put, List.setIfInBounds_toArray, List.set_cons_zero, List.set_cons_succ]
        refine wpAnyH_ready (rs := [9]) (by kernel_rfl) (by simp) ?_
        refine AllReadyH.cons (o := ⟨some 77, _, _, _, _, _⟩) rfl (fun K hK => ?_) AllReadyH.nil
        have cT := new_one9 (u1) (.int .i64 (X k)) 3
        replace HB := HB.alloc HB.size (.cells #[.int .i64 (X k)] 3)
        replace OW := World.ownsRow.alloc OW (.cells #[.int .i64 (X k)] 3)
        go_simp
        refine hK.out _ _ ?_ (fun hNew => ?_)
        · exact (H.below HB).cell (B) (off + k) (.int .i64 (X k)) (by repeat (first | with_reducible exact List.mem_cons_self | with_reducible apply List.mem_cons_of_mem))
        clear hK K hHeld
        have hHeld := hNew
        clear hNew
        try simp only [Act.put, List.setIfInBounds_toArray, List.set_cons_zero, List.set_cons_succ]
        refine wpAnyH_ready (rs := [10]) (by kernel_rfl) (by simp) ?_
        refine AllReadyH.cons (o := ⟨some 78, _, _, _, _, _⟩) rfl (fun K hK => ?_) AllReadyH.nil
        refine step_row rfl _ _ rfl WD.heap.size v1 _ _ rfl OW ⟨u1.heap.size, 0, none⟩ 1 1 [.int .i64 (X k)] (by first | rfl | simp) rfl (one_news cT) (one_one _) (by omega) HB.size (fun v2 u2 ho hg => ?_)
        replace HB := HB.trans (own_grown HB.size OW hg)
        clear hg OW
        have OW := ho
        clear ho
        refine hK.out _ _ ?_ (fun hNew => ?_)
        · exact (H.below HB).cell (B) (off + k) (.int .i64 (X k)) (by repeat (first | with_reducible exact List.mem_cons_self | with_reducible apply List.mem_cons_of_mem))
        clear hK K hHeld
        have hHeld := hNew
        clear hNew
        try simp only [Act.put, List.setIfInBounds_toArray, List.set_cons_zero, List.set_cons_succ]
        refine wpAnyH_ready (rs := [14]) (by kernel_rfl) (by simp) ?_
        refine AllReadyH.cons (o := ⟨some 82, _, _, _, _, _⟩) rfl (fun K hK => ?_) AllReadyH.nil
        refine step_row rfl _ _ rfl WD.heap.size v2 _ _ rfl OW ⟨B, off + k, none⟩ (m + 1 - k) _ (ints (fun i => X (k + i)) (m + 1 - k)) rfl (by first | exact ints_len _ _ | (rw [ints_len]; omega)) (cells_news (((H.below HB).cells (by repeat (first | with_reducible exact List.mem_cons_self | with_reducible apply List.mem_cons_of_mem))).drop (by omega))) (ints_one _ _) (by omega) HB.size (fun v3 u3 ho hg => ?_)
        replace HB := HB.trans (own_grown HB.size OW hg)
        clear hg OW
        have OW := ho
        clear ho
        refine hK.out _ _ ?_ (fun hNew => ?_)
        · exact (H.below HB).cell (B) (off + k) (.int .i64 (X k)) (by repeat (first | with_reducible exact List.mem_cons_self | with_reducible apply List.mem_cons_of_mem))
        clear hK K hHeld
        have hHeld := hNew
        clear hNew
        try simp only [Act.put, List.setIfInBounds_toArray, List.set_cons_zero, List.set_cons_succ]
        refine wpAnyH_take (i := 15) (oi := ⟨some 14, _, _, _, _, _⟩) (v := ?_) rfl (by kernel_rfl) (by kernel_rfl) (by kernel_rfl) (fun _ _ _ h => h) (Or.inl ⟨by rfl, ?_⟩) (by assumption) ?_
        rotate_left
        · intro w hSw; (try dsimp only at hSw); go_simp; try with_reducible rfl
        simp only [Act.put, List.setIfInBounds_toArray, List.set_cons_zero, List.set_cons_succ]
        refine wpAnyH_done (by kernel_rfl) ?_ _
        clear hHeld
        obtain ⟨ao, ca, rfl, hrow⟩ := own_days (tw_row (by omega) OW)
        replace H := (H.below HB).add (f := rowF ao (tw X k) (m + 2) ca) hrow
        clear OW HB hrow
        go_wp2_with fail
        go_meet
        exact ⟨ao, ca, rfl, H⟩
      ·
        have cT := new_one9 ((WD).alloc (.cells #[] 3)) (.int .i64 (X k)) 3
        rw [World.size_alloc] at cT
        replace HB := HB.alloc HB.size (.cells #[.int .i64 (X k)] 3)
        replace OW := World.ownsRow.alloc OW (.cells #[.int .i64 (X k)] 3)
        go_simp
        refine hK.out _ _ ?_ (fun hNew => ?_)
        · exact (H.below HB).cell (B) (off + k) (.int .i64 (X k)) (by repeat (first | with_reducible exact List.mem_cons_self | with_reducible apply List.mem_cons_of_mem))
        clear hK K hHeld
        have hHeld := hNew
        clear hNew
        try simp only [Act.put, List.setIfInBounds_toArray, List.set_cons_zero, List.set_cons_succ]
        refine wpAnyH_ready (rs := [4]) (by kernel_rfl) (by simp) ?_
        refine AllReadyH.cons (o := ⟨some 72, _, _, _, _, _⟩) rfl (fun K hK => ?_) AllReadyH.nil
        refine step_row rfl _ _ rfl WD.heap.size (.slice (some ⟨WD.heap.size, 0, none⟩) 0 0) _ _ rfl OW ⟨B, off, none⟩ k cap (ints X k) rfl (by first | exact ints_len _ _ | (rw [ints_len]; omega)) (cells_news (((H.below HB).cells (by repeat (first | with_reducible exact List.mem_cons_self | with_reducible apply List.mem_cons_of_mem))).take (by omega))) (ints_one _ _) (by omega) HB.size (fun v4 u4 ho hg => ?_)
        replace HB := HB.trans (own_grown HB.size OW hg)
        replace cT := (World.cell?_of_block (a := ⟨WD.heap.size + 1, 0, none⟩) (hg.block _ (cell_lt cT) (by simp [Value.ownBlock]))).trans cT
        clear hg OW
        have OW := ho
        clear ho
        refine hK.out _ _ ?_ (fun hNew => ?_)
        · exact (H.below HB).cell (B) (off + k) (.int .i64 (X k)) (by repeat (first | with_reducible exact List.mem_cons_self | with_reducible apply List.mem_cons_of_mem))
        clear hK K hHeld
        have hHeld := hNew
        clear hNew
        try simp only [Act.put, List.setIfInBounds_toArray, List.set_cons_zero, List.set_cons_succ]
        refine wpAnyH_ready (rs := [10]) (by kernel_rfl) (by simp) ?_
        refine AllReadyH.cons (o := ⟨some 78, _, _, _, _, _⟩) rfl (fun K hK => ?_) AllReadyH.nil
        refine step_row rfl _ _ rfl WD.heap.size v4 _ _ rfl OW ⟨WD.heap.size + 1, 0, none⟩ 1 1 [.int .i64 (X k)] (by first | rfl | simp) rfl (one_news cT) (one_one _) (by omega) HB.size (fun v5 u5 ho hg => ?_)
        replace HB := HB.trans (own_grown HB.size OW hg)
        clear hg OW
        have OW := ho
        clear ho
        refine hK.out _ _ ?_ (fun hNew => ?_)
        · exact (H.below HB).cell (B) (off + k) (.int .i64 (X k)) (by repeat (first | with_reducible exact List.mem_cons_self | with_reducible apply List.mem_cons_of_mem))
        clear hK K hHeld
        have hHeld := hNew
        clear hNew
        try simp only [Act.put, List.setIfInBounds_toArray, List.set_cons_zero, List.set_cons_succ]
        refine wpAnyH_ready (rs := [14]) (by kernel_rfl) (by simp) ?_
        refine AllReadyH.cons (o := ⟨some 82, _, _, _, _, _⟩) rfl (fun K hK => ?_) AllReadyH.nil
        refine step_row rfl _ _ rfl WD.heap.size v5 _ _ rfl OW ⟨B, off + k, none⟩ (m + 1 - k) _ (ints (fun i => X (k + i)) (m + 1 - k)) rfl (by first | exact ints_len _ _ | (rw [ints_len]; omega)) (cells_news (((H.below HB).cells (by repeat (first | with_reducible exact List.mem_cons_self | with_reducible apply List.mem_cons_of_mem))).drop (by omega))) (ints_one _ _) (by omega) HB.size (fun v6 u6 ho hg => ?_)
        replace HB := HB.trans (own_grown HB.size OW hg)
        clear hg OW
        have OW := ho
        clear ho
        refine hK.out _ _ ?_ (fun hNew => ?_)
        · exact (H.below HB).cell (B) (off + k) (.int .i64 (X k)) (by repeat (first | with_reducible exact List.mem_cons_self | with_reducible apply List.mem_cons_of_mem))
        clear hK K hHeld
        have hHeld := hNew
        clear hNew
        try simp only [Act.put, List.setIfInBounds_toArray, List.set_cons_zero, List.set_cons_succ]
        refine wpAnyH_take (i := 15) (oi := ⟨some 14, _, _, _, _, _⟩) (v := ?_) rfl (by kernel_rfl) (by kernel_rfl) (by kernel_rfl) (fun _ _ _ h => h) (Or.inl ⟨by rfl, ?_⟩) (by assumption) ?_
        rotate_left
        · intro w hSw; (try dsimp only at hSw); go_simp; try with_reducible rfl
        simp only [Act.put, List.setIfInBounds_toArray, List.set_cons_zero, List.set_cons_succ]
        refine wpAnyH_done (by kernel_rfl) ?_ _
        clear hHeld
        obtain ⟨ao, ca, rfl, hrow⟩ := own_days (tw_row (by omega) OW)
        replace H := (H.below HB).add (f := rowF ao (tw X k) (m + 2) ca) hrow
        clear OW HB hrow
        go_wp2_with fail
        go_meet
        exact ⟨ao, ca, rfl, H⟩
    ·
      have cT := new_one9 (WD) (.int .i64 (X k)) 3
      replace HB := HB.alloc HB.size (.cells #[.int .i64 (X k)] 3)
      go_simp
      refine hK.out _ _ ?_ (fun hNew => ?_)
      · exact (H.below HB).cell (B) (off + k) (.int .i64 (X k)) (by repeat (first | with_reducible exact List.mem_cons_self | with_reducible apply List.mem_cons_of_mem))
      clear hK K hHeld
      have hHeld := hNew
      clear hNew
      try simp only [Act.put, List.setIfInBounds_toArray, List.set_cons_zero, List.set_cons_succ]
      refine wpAnyH_ready (rs := [0]) (by kernel_rfl) (by simp) ?_
      refine AllReadyH.cons (o := ⟨some 68, _, _, _, _, _⟩) rfl (fun K hK => ?_) AllReadyH.nil
      have OW := own_empty ((WD).alloc (.cells #[.int .i64 (X k)] 3))
      rw [World.size_alloc] at OW
      replace OW := World.ownsRow.mono OW (show WD.heap.size ≤ _ by first | exact Nat.le_refl _ | omega)
      replace HB := HB.alloc HB.size (.cells #[] 3)
      replace cT := keep ((Below.refl _ _).alloc (Nat.le_refl _) (.cells #[] 3)) (cell_lt cT) cT
      go_simp
      refine hK.out _ _ ?_ (fun hNew => ?_)
      · exact (H.below HB).cell (B) (off + k) (.int .i64 (X k)) (by repeat (first | with_reducible exact List.mem_cons_self | with_reducible apply List.mem_cons_of_mem))
      clear hK K hHeld
      have hHeld := hNew
      clear hNew
      try simp only [Act.put, List.setIfInBounds_toArray, List.set_cons_zero, List.set_cons_succ]
      refine wpAnyH_ready (rs := [4]) (by kernel_rfl) (by simp) ?_
      refine AllReadyH.cons (o := ⟨some 72, _, _, _, _, _⟩) rfl (fun K hK => ?_) AllReadyH.nil
      refine step_row rfl _ _ rfl WD.heap.size (.slice (some ⟨WD.heap.size + 1, 0, none⟩) 0 0) _ _ rfl OW ⟨B, off, none⟩ k cap (ints X k) rfl (by first | exact ints_len _ _ | (rw [ints_len]; omega)) (cells_news (((H.below HB).cells (by repeat (first | with_reducible exact List.mem_cons_self | with_reducible apply List.mem_cons_of_mem))).take (by omega))) (ints_one _ _) (by omega) HB.size (fun v7 u7 ho hg => ?_)
      replace HB := HB.trans (own_grown HB.size OW hg)
      replace cT := (World.cell?_of_block (a := ⟨WD.heap.size, 0, none⟩) (hg.block _ (cell_lt cT) (by simp [Value.ownBlock]))).trans cT
      clear hg OW
      have OW := ho
      clear ho
      refine hK.out _ _ ?_ (fun hNew => ?_)
      · exact (H.below HB).cell (B) (off + k) (.int .i64 (X k)) (by repeat (first | with_reducible exact List.mem_cons_self | with_reducible apply List.mem_cons_of_mem))
      clear hK K hHeld
      have hHeld := hNew
      clear hNew
      try simp only [Act.put, List.setIfInBounds_toArray, List.set_cons_zero, List.set_cons_succ]
      refine wpAnyH_ready (rs := [10]) (by kernel_rfl) (by simp) ?_
      refine AllReadyH.cons (o := ⟨some 78, _, _, _, _, _⟩) rfl (fun K hK => ?_) AllReadyH.nil
      refine step_row rfl _ _ rfl WD.heap.size v7 _ _ rfl OW ⟨WD.heap.size, 0, none⟩ 1 1 [.int .i64 (X k)] (by first | rfl | simp) rfl (one_news cT) (one_one _) (by omega) HB.size (fun v8 u8 ho hg => ?_)
      replace HB := HB.trans (own_grown HB.size OW hg)
      clear hg OW
      have OW := ho
      clear ho
      refine hK.out _ _ ?_ (fun hNew => ?_)
      · exact (H.below HB).cell (B) (off + k) (.int .i64 (X k)) (by repeat (first | with_reducible exact List.mem_cons_self | with_reducible apply List.mem_cons_of_mem))
      clear hK K hHeld
      have hHeld := hNew
      clear hNew
      try simp only [Act.put, List.setIfInBounds_toArray, List.set_cons_zero, List.set_cons_succ]
      refine wpAnyH_ready (rs := [14]) (by kernel_rfl) (by simp) ?_
      refine AllReadyH.cons (o := ⟨some 82, _, _, _, _, _⟩) rfl (fun K hK => ?_) AllReadyH.nil
      refine step_row rfl _ _ rfl WD.heap.size v8 _ _ rfl OW ⟨B, off + k, none⟩ (m + 1 - k) _ (ints (fun i => X (k + i)) (m + 1 - k)) rfl (by first | exact ints_len _ _ | (rw [ints_len]; omega)) (cells_news (((H.below HB).cells (by repeat (first | with_reducible exact List.mem_cons_self | with_reducible apply List.mem_cons_of_mem))).drop (by omega))) (ints_one _ _) (by omega) HB.size (fun v9 u9 ho hg => ?_)
      replace HB := HB.trans (own_grown HB.size OW hg)
      clear hg OW
      have OW := ho
      clear ho
      refine hK.out _ _ ?_ (fun hNew => ?_)
      · exact (H.below HB).cell (B) (off + k) (.int .i64 (X k)) (by repeat (first | with_reducible exact List.mem_cons_self | with_reducible apply List.mem_cons_of_mem))
      clear hK K hHeld
      have hHeld := hNew
      clear hNew
      try simp only [Act.put, List.setIfInBounds_toArray, List.set_cons_zero, List.set_cons_succ]
      refine wpAnyH_take (i := 15) (oi := ⟨some 14, _, _, _, _, _⟩) (v := ?_) rfl (by kernel_rfl) (by kernel_rfl) (by kernel_rfl) (fun _ _ _ h => h) (Or.inl ⟨by rfl, ?_⟩) (by assumption) ?_
      rotate_left
      · intro w hSw; (try dsimp only at hSw); go_simp; try with_reducible rfl
      simp only [Act.put, List.setIfInBounds_toArray, List.set_cons_zero, List.set_cons_succ]
      refine wpAnyH_done (by kernel_rfl) ?_ _
      clear hHeld
      obtain ⟨ao, ca, rfl, hrow⟩ := own_days (tw_row (by omega) OW)
      replace H := (H.below HB).add (f := rowF ao (tw X k) (m + 2) ca) hrow
      clear OW HB hrow
      go_wp2_with fail
      go_meet
      exact ⟨ao, ca, rfl, H⟩
  case rest =>
    obtain ⟨a1, ca1, rfl, H⟩ := hcut
    obtain ⟨W1, eW⟩ : ∃ W1, wc = W1 := ⟨_, rfl⟩
    rw [eW] at H ⊢
    clear eW
    have HH := H
    go_wp2_with (first | (at_builtin; refine wpList_row rfl _ _ rfl (W1.heap.size) (.slice (some ⟨W1.heap.size, 0, none⟩) 0 0) 0 [] rfl (own_empty W1) ⟨B, off, none⟩ (m + 1) cap (ints X (m + 1)) rfl (ints_len _ _) (cells_news ((H.alloc _).cells (by repeat (first | with_reducible exact List.mem_cons_self | with_reducible apply List.mem_cons_of_mem)))) (ints_one _ _) (by omega) (by first | exact Nat.le_refl _ | (simp; done) | omega | (simp; omega)) ?_) | go_in)
    intro v2 y2 ho hg
    have HB2 := ((Below.refl W1.heap.size W1).alloc (Nat.le_refl _) (.cells #[] 3)).trans (own_grown (by first | exact Nat.le_refl _ | (simp; done) | omega | (simp; omega)) (own_empty W1) hg)
    replace H := HH.below HB2
    try rw [Nat.zero_add, List.nil_append] at ho
    clear hg
    obtain ⟨a2, ca2, rfl, hr⟩ := own_days ho
    replace H := H.add (f := rowF a2 X (m + 1) ca2) hr
    clear ho hr HB2 HH
    by_cases h1 : 1 + mo < X 0
    ·
      have cB0 := H.cell B off (.int .i64 (X 0)) (by repeat (first | with_reducible exact List.mem_cons_self | with_reducible apply List.mem_cons_of_mem))
      have cBm := H.cell B (off + m) (.int .i64 (X m)) (by repeat (first | with_reducible exact List.mem_cons_self | with_reducible apply List.mem_cons_of_mem))
      have lB := cell_lt cB0
      have t2 : decide (X 0 > 1 + mo) = true := by simpa using h1
      have HH := H
      go_wp2_with (first | (at_builtin; refine wpList_row rfl _ _ rfl (y2.heap.size) (.slice (some ⟨y2.heap.size, 0, none⟩) 1 1) 1 [.int .i64 (X 0 - 1 - mo)] rfl (own_single y2 (X 0 - 1 - mo)) ⟨B, off, none⟩ (m + 1) cap (ints X (m + 1)) rfl (ints_len _ _) (cells_news ((H.alloc _).cells (by repeat (first | with_reducible exact List.mem_cons_self | with_reducible apply List.mem_cons_of_mem)))) (ints_one _ _) (by omega) (by first | exact Nat.le_refl _ | (simp; done) | omega | (simp; omega)) ?_) | go_in)
      intro v3 y3 ho hg
      have HB3 := ((Below.refl y2.heap.size y2).alloc (Nat.le_refl _) (.cells #[.int .i64 (X 0 - 1 - mo)] 3)).trans (own_grown (by first | exact Nat.le_refl _ | (simp; done) | omega | (simp; omega)) (own_single y2 (X 0 - 1 - mo)) hg)
      replace H := HH.below HB3
      clear cB0 cBm lB HH HB3 hg
      obtain ⟨a3, ca3, rfl, hr⟩ := own_days (ahd_row ho)
      replace H := H.add (f := rowF a3 (ahd X (X 0 - 1 - mo)) (m + 2) ca3) hr
      clear ho hr
      have HH := H
      go_wp2_with (first | (at_builtin; refine wpList_row rfl _ _ rfl (y3.heap.size) (.slice (some ⟨y3.heap.size, 0, none⟩) 0 0) 0 [] rfl (own_empty y3) ⟨B, off, none⟩ (m + 1) cap (ints X (m + 1)) rfl (ints_len _ _) (cells_news ((H.alloc _).cells (by repeat (first | with_reducible exact List.mem_cons_self | with_reducible apply List.mem_cons_of_mem)))) (ints_one _ _) (by omega) (by first | exact Nat.le_refl _ | (simp; done) | omega | (simp; omega)) ?_) | go_in)
      intro v4 y4 ho hg
      have HB4 := ((Below.refl y3.heap.size y3).alloc (Nat.le_refl _) (.cells #[] 3)).trans (own_grown (by first | exact Nat.le_refl _ | (simp; done) | omega | (simp; omega)) (own_empty y3) hg)
      replace H := HH.below HB4
      try rw [Nat.zero_add, List.nil_append] at ho
      clear hg
      by_cases h2 : X m + 1 + mo ≤ 3652059
      ·
        have cB0 := H.cell B off (.int .i64 (X 0)) (by repeat (first | with_reducible exact List.mem_cons_self | with_reducible apply List.mem_cons_of_mem))
        have cBm := H.cell B (off + m) (.int .i64 (X m)) (by repeat (first | with_reducible exact List.mem_cons_self | with_reducible apply List.mem_cons_of_mem))
        have lB := cell_lt cB0
        have t3 : decide (X m + 1 + mo ≤ 3652059) = true := by simpa using h2
        have hs4 := HB4.size
        have ho4 := ho
        clear ho
        go_wp2_with (first | (at_builtin; refine wpList_row rfl _ _ rfl (y3.heap.size) v4 (m + 1) (ints X (m + 1)) rfl (World.ownsRow.alloc ho4 _) ⟨y4.heap.size, 0, none⟩ 1 1 [.int .i64 (X m + 1 + mo)] rfl rfl (one_news (new_one9 _ _ _)) (one_one _) (by omega) (by first | exact Nat.le_refl _ | (simp; done) | omega | (simp; omega)) ?_) | go_in)
        intro v5 y5 ho hg
        clear cB0 cBm lB
        have HB5 := ((Below.refl y3.heap.size y4).alloc hs4 (.cells #[.int .i64 (X m + 1 + mo)] 3)).trans (own_grown (by first | exact Nat.le_refl _ | (simp; done) | omega | (simp; omega)) (World.ownsRow.alloc ho4 _) hg)
        replace H := HH.below (HB4.trans HB5)
        obtain ⟨a5, ca5, rfl, hr⟩ := own_days (bhd_row ho)
        replace H := H.add (f := rowF a5 (bhd X m (X m + 1 + mo)) (m + 2) ca5) hr
        clear ho ho4 hg hr HB5 HB4 HH hs4
        go_wp2_with fail
        (with_reducible refine (ipart_is a b a1 (m + 2) ca1 (tw X k) f p q 0 _ (H.facts (by repeat (first | with_reducible exact List.mem_cons_self | with_reducible apply List.mem_cons_of_mem))) (by omega) (H.row (by repeat (first | with_reducible exact List.mem_cons_self | with_reducible apply List.mem_cons_of_mem))) S1.out).mono ?_)
        rintro e w4 ⟨rfl, hb⟩
        replace H := H.below hb
        clear hb
        go_wp2_with fail
        replace H := H.pair (w4.heap.size) (.int .i64 p) (.int .i64 q) 27 rfl
        (with_reducible refine (ipart_is a b a3 (m + 2) ca3 (ahd X (X 0 - 1 - mo)) f p q 0 _ (H.facts (by repeat (first | with_reducible exact List.mem_cons_self | with_reducible apply List.mem_cons_of_mem))) (by omega) (H.row (by repeat (first | with_reducible exact List.mem_cons_self | with_reducible apply List.mem_cons_of_mem))) (S2.out _ (by omega) (by omega))).mono ?_)
        rintro e w5 ⟨rfl, hb⟩
        replace H := H.below hb
        clear hb
        have cy0 := H.cell (w4.heap.size) 0 (.int .i64 p) (by repeat (first | with_reducible exact List.mem_cons_self | with_reducible apply List.mem_cons_of_mem))
        have cy1 := H.cell (w4.heap.size) 1 (.int .i64 q) (by repeat (first | with_reducible exact List.mem_cons_self | with_reducible apply List.mem_cons_of_mem))
        have ly := cell_lt cy0
        go_wp2_with fail
        clear cy0 cy1 ly
        replace H := H.pair (w5.heap.size) (.int .i64 p) (.int .i64 q) 27 rfl
        (with_reducible refine (ipart_is a b a5 (m + 2) ca5 (bhd X m (X m + 1 + mo)) f p q 0 _ (H.facts (by repeat (first | with_reducible exact List.mem_cons_self | with_reducible apply List.mem_cons_of_mem))) (by omega) (H.row (by repeat (first | with_reducible exact List.mem_cons_self | with_reducible apply List.mem_cons_of_mem))) (S3.out _ (by omega) (by omega))).mono ?_)
        rintro e w6 ⟨rfl, hb⟩
        replace H := H.below hb
        clear hb
        have cx0 := H.cell (w3.heap.size) 0 (.int .i64 p) (by repeat (first | with_reducible exact List.mem_cons_self | with_reducible apply List.mem_cons_of_mem))
        have cx1 := H.cell (w3.heap.size) 1 (.int .i64 q) (by repeat (first | with_reducible exact List.mem_cons_self | with_reducible apply List.mem_cons_of_mem))
        have lx := cell_lt cx0
        have cy0 := H.cell (w4.heap.size) 0 (.int .i64 p) (by repeat (first | with_reducible exact List.mem_cons_self | with_reducible apply List.mem_cons_of_mem))
        have cy1 := H.cell (w4.heap.size) 1 (.int .i64 q) (by repeat (first | with_reducible exact List.mem_cons_self | with_reducible apply List.mem_cons_of_mem))
        have ly := cell_lt cy0
        have cz0 := H.cell (w5.heap.size) 0 (.int .i64 p) (by repeat (first | with_reducible exact List.mem_cons_self | with_reducible apply List.mem_cons_of_mem))
        have cz1 := H.cell (w5.heap.size) 1 (.int .i64 q) (by repeat (first | with_reducible exact List.mem_cons_self | with_reducible apply List.mem_cons_of_mem))
        have lz := cell_lt cz0
        go_wp2_with fail
        clear cx0 cx1 lx cy0 cy1 ly cz0 cz1 lz
        replace H := H.pair (w6.heap.size) (.int .i64 p) (.int .i64 q) 27 rfl
        go_ret
        exact ⟨rfl, H.old⟩
      ·
        obtain ⟨a4, ca4, rfl, hr⟩ := own_days ho
        replace H := H.add (f := rowF a4 X (m + 1) ca4) hr
        clear ho hr HB4 HH
        have cB0 := H.cell B off (.int .i64 (X 0)) (by repeat (first | with_reducible exact List.mem_cons_self | with_reducible apply List.mem_cons_of_mem))
        have cBm := H.cell B (off + m) (.int .i64 (X m)) (by repeat (first | with_reducible exact List.mem_cons_self | with_reducible apply List.mem_cons_of_mem))
        have lB := cell_lt cB0
        have t3 : decide (X m + 1 + mo ≤ 3652059) = false := by simpa using h2
        go_wp2_with fail
        (with_reducible refine (ipart_is a b a1 (m + 2) ca1 (tw X k) f p q 0 _ (H.facts (by repeat (first | with_reducible exact List.mem_cons_self | with_reducible apply List.mem_cons_of_mem))) (by omega) (H.row (by repeat (first | with_reducible exact List.mem_cons_self | with_reducible apply List.mem_cons_of_mem))) S1.out).mono ?_)
        rintro e w4 ⟨rfl, hb⟩
        replace H := H.below hb
        clear hb
        go_wp2_with fail
        replace H := H.pair (w4.heap.size) (.int .i64 p) (.int .i64 q) 27 rfl
        (with_reducible refine (ipart_is a b a3 (m + 2) ca3 (ahd X (X 0 - 1 - mo)) f p q 0 _ (H.facts (by repeat (first | with_reducible exact List.mem_cons_self | with_reducible apply List.mem_cons_of_mem))) (by omega) (H.row (by repeat (first | with_reducible exact List.mem_cons_self | with_reducible apply List.mem_cons_of_mem))) (S2.out _ (by omega) (by omega))).mono ?_)
        rintro e w5 ⟨rfl, hb⟩
        replace H := H.below hb
        clear hb
        have cy0 := H.cell (w4.heap.size) 0 (.int .i64 p) (by repeat (first | with_reducible exact List.mem_cons_self | with_reducible apply List.mem_cons_of_mem))
        have cy1 := H.cell (w4.heap.size) 1 (.int .i64 q) (by repeat (first | with_reducible exact List.mem_cons_self | with_reducible apply List.mem_cons_of_mem))
        have ly := cell_lt cy0
        go_wp2_with fail
        clear cy0 cy1 ly
        replace H := H.pair (w5.heap.size) (.int .i64 p) (.int .i64 q) 27 rfl
        (with_reducible refine (ipart_is a b a4 (m + 1) ca4 X f p q 0 _ (H.facts (by repeat (first | with_reducible exact List.mem_cons_self | with_reducible apply List.mem_cons_of_mem))) (by omega) (H.row (by repeat (first | with_reducible exact List.mem_cons_self | with_reducible apply List.mem_cons_of_mem))) I1.out).mono ?_)
        rintro e w6 ⟨rfl, hb⟩
        replace H := H.below hb
        clear hb
        have cx0 := H.cell (w3.heap.size) 0 (.int .i64 p) (by repeat (first | with_reducible exact List.mem_cons_self | with_reducible apply List.mem_cons_of_mem))
        have cx1 := H.cell (w3.heap.size) 1 (.int .i64 q) (by repeat (first | with_reducible exact List.mem_cons_self | with_reducible apply List.mem_cons_of_mem))
        have lx := cell_lt cx0
        have cy0 := H.cell (w4.heap.size) 0 (.int .i64 p) (by repeat (first | with_reducible exact List.mem_cons_self | with_reducible apply List.mem_cons_of_mem))
        have cy1 := H.cell (w4.heap.size) 1 (.int .i64 q) (by repeat (first | with_reducible exact List.mem_cons_self | with_reducible apply List.mem_cons_of_mem))
        have ly := cell_lt cy0
        have cz0 := H.cell (w5.heap.size) 0 (.int .i64 p) (by repeat (first | with_reducible exact List.mem_cons_self | with_reducible apply List.mem_cons_of_mem))
        have cz1 := H.cell (w5.heap.size) 1 (.int .i64 q) (by repeat (first | with_reducible exact List.mem_cons_self | with_reducible apply List.mem_cons_of_mem))
        have lz := cell_lt cz0
        go_wp2_with fail
        clear cx0 cx1 lx cy0 cy1 ly cz0 cz1 lz
        replace H := H.pair (w6.heap.size) (.int .i64 p) (.int .i64 q) 27 rfl
        go_ret
        exact ⟨rfl, H.old⟩
    ·
      have cB0 := H.cell B off (.int .i64 (X 0)) (by repeat (first | with_reducible exact List.mem_cons_self | with_reducible apply List.mem_cons_of_mem))
      have cBm := H.cell B (off + m) (.int .i64 (X m)) (by repeat (first | with_reducible exact List.mem_cons_self | with_reducible apply List.mem_cons_of_mem))
      have lB := cell_lt cB0
      have t2 : decide (X 0 > 1 + mo) = false := by simpa using h1
      have HH := H
      go_wp2_with (first | (at_builtin; refine wpList_row rfl _ _ rfl (y2.heap.size) (.slice (some ⟨y2.heap.size, 0, none⟩) 0 0) 0 [] rfl (own_empty y2) ⟨B, off, none⟩ (m + 1) cap (ints X (m + 1)) rfl (ints_len _ _) (cells_news ((H.alloc _).cells (by repeat (first | with_reducible exact List.mem_cons_self | with_reducible apply List.mem_cons_of_mem)))) (ints_one _ _) (by omega) (by first | exact Nat.le_refl _ | (simp; done) | omega | (simp; omega)) ?_) | go_in)
      intro v4 y4 ho hg
      have HB4 := ((Below.refl y2.heap.size y2).alloc (Nat.le_refl _) (.cells #[] 3)).trans (own_grown (by first | exact Nat.le_refl _ | (simp; done) | omega | (simp; omega)) (own_empty y2) hg)
      replace H := HH.below HB4
      try rw [Nat.zero_add, List.nil_append] at ho
      clear hg
      by_cases h2 : X m + 1 + mo ≤ 3652059
      ·
        have cB0 := H.cell B off (.int .i64 (X 0)) (by repeat (first | with_reducible exact List.mem_cons_self | with_reducible apply List.mem_cons_of_mem))
        have cBm := H.cell B (off + m) (.int .i64 (X m)) (by repeat (first | with_reducible exact List.mem_cons_self | with_reducible apply List.mem_cons_of_mem))
        have lB := cell_lt cB0
        have t3 : decide (X m + 1 + mo ≤ 3652059) = true := by simpa using h2
        have hs4 := HB4.size
        have ho4 := ho
        clear ho
        go_wp2_with (first | (at_builtin; refine wpList_row rfl _ _ rfl (y2.heap.size) v4 (m + 1) (ints X (m + 1)) rfl (World.ownsRow.alloc ho4 _) ⟨y4.heap.size, 0, none⟩ 1 1 [.int .i64 (X m + 1 + mo)] rfl rfl (one_news (new_one9 _ _ _)) (one_one _) (by omega) (by first | exact Nat.le_refl _ | (simp; done) | omega | (simp; omega)) ?_) | go_in)
        intro v5 y5 ho hg
        clear cB0 cBm lB
        have HB5 := ((Below.refl y2.heap.size y4).alloc hs4 (.cells #[.int .i64 (X m + 1 + mo)] 3)).trans (own_grown (by first | exact Nat.le_refl _ | (simp; done) | omega | (simp; omega)) (World.ownsRow.alloc ho4 _) hg)
        replace H := HH.below (HB4.trans HB5)
        obtain ⟨a5, ca5, rfl, hr⟩ := own_days (bhd_row ho)
        replace H := H.add (f := rowF a5 (bhd X m (X m + 1 + mo)) (m + 2) ca5) hr
        clear ho ho4 hg hr HB5 HB4 HH hs4
        go_wp2_with fail
        (with_reducible refine (ipart_is a b a1 (m + 2) ca1 (tw X k) f p q 0 _ (H.facts (by repeat (first | with_reducible exact List.mem_cons_self | with_reducible apply List.mem_cons_of_mem))) (by omega) (H.row (by repeat (first | with_reducible exact List.mem_cons_self | with_reducible apply List.mem_cons_of_mem))) S1.out).mono ?_)
        rintro e w4 ⟨rfl, hb⟩
        replace H := H.below hb
        clear hb
        go_wp2_with fail
        replace H := H.pair (w4.heap.size) (.int .i64 p) (.int .i64 q) 27 rfl
        (with_reducible refine (ipart_is a b a2 (m + 1) ca2 X f p q 0 _ (H.facts (by repeat (first | with_reducible exact List.mem_cons_self | with_reducible apply List.mem_cons_of_mem))) (by omega) (H.row (by repeat (first | with_reducible exact List.mem_cons_self | with_reducible apply List.mem_cons_of_mem))) I1.out).mono ?_)
        rintro e w5 ⟨rfl, hb⟩
        replace H := H.below hb
        clear hb
        have cy0 := H.cell (w4.heap.size) 0 (.int .i64 p) (by repeat (first | with_reducible exact List.mem_cons_self | with_reducible apply List.mem_cons_of_mem))
        have cy1 := H.cell (w4.heap.size) 1 (.int .i64 q) (by repeat (first | with_reducible exact List.mem_cons_self | with_reducible apply List.mem_cons_of_mem))
        have ly := cell_lt cy0
        go_wp2_with fail
        clear cy0 cy1 ly
        replace H := H.pair (w5.heap.size) (.int .i64 p) (.int .i64 q) 27 rfl
        (with_reducible refine (ipart_is a b a5 (m + 2) ca5 (bhd X m (X m + 1 + mo)) f p q 0 _ (H.facts (by repeat (first | with_reducible exact List.mem_cons_self | with_reducible apply List.mem_cons_of_mem))) (by omega) (H.row (by repeat (first | with_reducible exact List.mem_cons_self | with_reducible apply List.mem_cons_of_mem))) (S3.out _ (by omega) (by omega))).mono ?_)
        rintro e w6 ⟨rfl, hb⟩
        replace H := H.below hb
        clear hb
        have cx0 := H.cell (w3.heap.size) 0 (.int .i64 p) (by repeat (first | with_reducible exact List.mem_cons_self | with_reducible apply List.mem_cons_of_mem))
        have cx1 := H.cell (w3.heap.size) 1 (.int .i64 q) (by repeat (first | with_reducible exact List.mem_cons_self | with_reducible apply List.mem_cons_of_mem))
        have lx := cell_lt cx0
        have cy0 := H.cell (w4.heap.size) 0 (.int .i64 p) (by repeat (first | with_reducible exact List.mem_cons_self | with_reducible apply List.mem_cons_of_mem))
        have cy1 := H.cell (w4.heap.size) 1 (.int .i64 q) (by repeat (first | with_reducible exact List.mem_cons_self | with_reducible apply List.mem_cons_of_mem))
        have ly := cell_lt cy0
        have cz0 := H.cell (w5.heap.size) 0 (.int .i64 p) (by repeat (first | with_reducible exact List.mem_cons_self | with_reducible apply List.mem_cons_of_mem))
        have cz1 := H.cell (w5.heap.size) 1 (.int .i64 q) (by repeat (first | with_reducible exact List.mem_cons_self | with_reducible apply List.mem_cons_of_mem))
        have lz := cell_lt cz0
        go_wp2_with fail
        clear cx0 cx1 lx cy0 cy1 ly cz0 cz1 lz
        replace H := H.pair (w6.heap.size) (.int .i64 p) (.int .i64 q) 27 rfl
        go_ret
        exact ⟨rfl, H.old⟩
      ·
        obtain ⟨a4, ca4, rfl, hr⟩ := own_days ho
        replace H := H.add (f := rowF a4 X (m + 1) ca4) hr
        clear ho hr HB4 HH
        have cB0 := H.cell B off (.int .i64 (X 0)) (by repeat (first | with_reducible exact List.mem_cons_self | with_reducible apply List.mem_cons_of_mem))
        have cBm := H.cell B (off + m) (.int .i64 (X m)) (by repeat (first | with_reducible exact List.mem_cons_self | with_reducible apply List.mem_cons_of_mem))
        have lB := cell_lt cB0
        have t3 : decide (X m + 1 + mo ≤ 3652059) = false := by simpa using h2
        go_wp2_with fail
        (with_reducible refine (ipart_is a b a1 (m + 2) ca1 (tw X k) f p q 0 _ (H.facts (by repeat (first | with_reducible exact List.mem_cons_self | with_reducible apply List.mem_cons_of_mem))) (by omega) (H.row (by repeat (first | with_reducible exact List.mem_cons_self | with_reducible apply List.mem_cons_of_mem))) S1.out).mono ?_)
        rintro e w4 ⟨rfl, hb⟩
        replace H := H.below hb
        clear hb
        go_wp2_with fail
        replace H := H.pair (w4.heap.size) (.int .i64 p) (.int .i64 q) 27 rfl
        (with_reducible refine (ipart_is a b a2 (m + 1) ca2 X f p q 0 _ (H.facts (by repeat (first | with_reducible exact List.mem_cons_self | with_reducible apply List.mem_cons_of_mem))) (by omega) (H.row (by repeat (first | with_reducible exact List.mem_cons_self | with_reducible apply List.mem_cons_of_mem))) I1.out).mono ?_)
        rintro e w5 ⟨rfl, hb⟩
        replace H := H.below hb
        clear hb
        have cy0 := H.cell (w4.heap.size) 0 (.int .i64 p) (by repeat (first | with_reducible exact List.mem_cons_self | with_reducible apply List.mem_cons_of_mem))
        have cy1 := H.cell (w4.heap.size) 1 (.int .i64 q) (by repeat (first | with_reducible exact List.mem_cons_self | with_reducible apply List.mem_cons_of_mem))
        have ly := cell_lt cy0
        go_wp2_with fail
        clear cy0 cy1 ly
        replace H := H.pair (w5.heap.size) (.int .i64 p) (.int .i64 q) 27 rfl
        (with_reducible refine (ipart_is a b a4 (m + 1) ca4 X f p q 0 _ (H.facts (by repeat (first | with_reducible exact List.mem_cons_self | with_reducible apply List.mem_cons_of_mem))) (by omega) (H.row (by repeat (first | with_reducible exact List.mem_cons_self | with_reducible apply List.mem_cons_of_mem))) I1.out).mono ?_)
        rintro e w6 ⟨rfl, hb⟩
        replace H := H.below hb
        clear hb
        have cx0 := H.cell (w3.heap.size) 0 (.int .i64 p) (by repeat (first | with_reducible exact List.mem_cons_self | with_reducible apply List.mem_cons_of_mem))
        have cx1 := H.cell (w3.heap.size) 1 (.int .i64 q) (by repeat (first | with_reducible exact List.mem_cons_self | with_reducible apply List.mem_cons_of_mem))
        have lx := cell_lt cx0
        have cy0 := H.cell (w4.heap.size) 0 (.int .i64 p) (by repeat (first | with_reducible exact List.mem_cons_self | with_reducible apply List.mem_cons_of_mem))
        have cy1 := H.cell (w4.heap.size) 1 (.int .i64 q) (by repeat (first | with_reducible exact List.mem_cons_self | with_reducible apply List.mem_cons_of_mem))
        have ly := cell_lt cy0
        have cz0 := H.cell (w5.heap.size) 0 (.int .i64 p) (by repeat (first | with_reducible exact List.mem_cons_self | with_reducible apply List.mem_cons_of_mem))
        have cz1 := H.cell (w5.heap.size) 1 (.int .i64 q) (by repeat (first | with_reducible exact List.mem_cons_self | with_reducible apply List.mem_cons_of_mem))
        have lz := cell_lt cz0
        go_wp2_with fail
        clear cx0 cx1 lx cy0 cy1 ly cz0 cz1 lz
        replace H := H.pair (w6.heap.size) (.int .i64 p) (.int .i64 q) 27 rfl
        go_ret
        exact ⟨rfl, H.old⟩

theorem isplit_walk (a b : Int) (ao : Option Addr) (n cap : Nat) (X : Nat → Int) (f at0 mo : Int) (w : World) (hL : Facts w) (hR : RowAt w ao X n cap) (bt : 0 ≤ at0 ∧ at0 < 256) (bm : 0 ≤ mo ∧ mo < 65536) :
    Calls Tryd.prog 6 #[.agg #[.int .i64 a, .int .i64 b, .slice ao n cap, .int .i64 f, .int .u8 at0, .int .u16 mo]] w fun e w' => e = .returned (.bool true) ∧ Below w.heap.size w w' := by
  by_cases hn : 40 < n
  · exact isplit_long a b ao n cap X f at0 mo w hL bt bm hR hn
  · by_cases hm : MayX X n f
    · obtain ⟨p, q, c, hI⟩ := ic_is X n f a b
      have hI0 := hI
      rcases hI with ⟨_, rfl, rfl, rfl⟩ | ⟨_, _, rfl, rfl, rfl⟩ | ⟨_, _, _, rfl, rfl, rfl⟩ | ⟨h1, h2, ⟨_, h3, h4⟩, _, _, rfl⟩
      · exact isplit_code a b ao n cap X f at0 mo w hL bt bm hR (by omega) hm 3 hI0 (by decide)
      · exact isplit_code a b ao n cap X f at0 mo w hL bt bm hR (by omega) hm 4 hI0 (by decide)
      · exact isplit_code a b ao n cap X f at0 mo w hL bt bm hR (by omega) hm 5 hI0 (by decide)
      · have h6 := hm.1
        obtain ⟨B, off, rfl, hC⟩ := hR.2 (by omega)
        obtain ⟨m, rfl⟩ : ∃ m, n = m + 1 := ⟨n - 1, by omega⟩
        rw [Nat.add_sub_cancel] at h4
        have e0 := Int.emod_nonneg at0 (show (m : Int) + 1 ≠ 0 by omega)
        have e1 := Int.emod_lt_of_pos at0 (show (0 : Int) < (m : Int) + 1 by omega)
        exact isplit_yes a b B off m cap (at0 % ((m : Int) + 1)).toNat p q X f at0 mo w hL bt bm (by omega) (by omega) hR.1 hC hm h3 h2 h4 (by omega) (by omega) hI0
    · exact isplit_not a b ao n cap X f at0 mo w hL bt bm hR (by omega) hm
end Go.Proofs.YtcplfgmajbadmaaDoor
