/- Package terms: the code of a refusal; why terms may not be, case by case; Check. -/
import Derived.Test.YtjijgcgbnmobfaaGreatDoorTeWay
namespace Go.Proofs.YtjijgcgbnmobfaaGreatDoor
open Go.RowKit
set_option linter.unusedVariables false
set_option linter.unusedSimpArgs false

theorem nm_none (k : Int) : (nm k).toList.isEmpty = decide (k < 0 ∨ 6 < k) := by
  by_cases h : k < 0 ∨ 6 < k
  · rw [nm_out k h, decide_eq_true h]; decide +kernel
  · rw [decide_eq_false h]
    rcases of7 k (by omega) with rfl | rfl | rfl | rfl | rfl | rfl | rfl <;> decide +kernel
theorem cname_is (k : Int) (s : ByteArray) (w : World) (hs : nm k = s) : Calls Tryz.prog 51 #[.int .i64 k] w fun e w' => e = .returned (.string s) ∧ Below w.heap.size w w' := by
  subst hs; exact cname_any k w

/-- A refusal's code. -/
theorem rcode_0 (s : ByteArray) (a0 a1 a2 a3 : Addr) (w : World) (h : ErrT a0 a1 a2 a3 w) : Calls Tryz.prog 49 #[.agg #[.string s, .iface 210 (.pointer (some a0))]] w fun e w' => e = .returned (.int .i64 1) ∧ Below w.heap.size w w' := by
  have H := (Held.start w).add (f := errTF a0 a1 a2 a3) h
  clear h
  go_enter Tryz.func49, Tryz.ntmps49
  obtain ⟨hg, b0, b1, b2, b3, s0, s1, s2, s3, ⟨h0, h1, h2, h3⟩, ⟨n01, n02, n03, n12, n13, n23⟩, r0, r1, r2, r3⟩ := H.errT (by repeat (first | with_reducible exact List.mem_cons_self | with_reducible apply List.mem_cons_of_mem))
  have l0 := cell_lt h0
  have l1 := cell_lt h1
  have l2 := cell_lt h2
  have l3 := cell_lt h3
  go_wp2_with fail
  clear hg h0 h1 h2 h3 n01 n02 n03 n12 n13 n23 r0 r1 r2 r3 l0 l1 l2 l3
  replace H := H.pair (w.heap.size) (.string s) (.iface 210 (.pointer (some a0))) 83 rfl
  obtain ⟨hg, b0, b1, b2, b3, s0, s1, s2, s3, ⟨h0, h1, h2, h3⟩, ⟨n01, n02, n03, n12, n13, n23⟩, r0, r1, r2, r3⟩ := H.errT (by repeat (first | with_reducible exact List.mem_cons_self | with_reducible apply List.mem_cons_of_mem))
  have l0 := cell_lt h0
  have l1 := cell_lt h1
  have l2 := cell_lt h2
  have l3 := cell_lt h3
  (with_reducible refine (is_yes s a0 a0 _ rfl).mono ?_)
  rintro e w1 ⟨rfl, hb⟩
  replace H := H.below hb
  clear hb
  clear hg h0 h1 h2 h3 n01 n02 n03 n12 n13 n23 r0 r1 r2 r3 l0 l1 l2 l3
  go_wp2_with fail
  go_ret
  exact ⟨rfl, H.old⟩

/-- A refusal's code. -/
theorem rcode_1 (s : ByteArray) (a0 a1 a2 a3 : Addr) (w : World) (h : ErrT a0 a1 a2 a3 w) : Calls Tryz.prog 49 #[.agg #[.string s, .iface 210 (.pointer (some a1))]] w fun e w' => e = .returned (.int .i64 3) ∧ Below w.heap.size w w' := by
  have H := (Held.start w).add (f := errTF a0 a1 a2 a3) h
  clear h
  go_enter Tryz.func49, Tryz.ntmps49
  obtain ⟨hg, b0, b1, b2, b3, s0, s1, s2, s3, ⟨h0, h1, h2, h3⟩, ⟨n01, n02, n03, n12, n13, n23⟩, r0, r1, r2, r3⟩ := H.errT (by repeat (first | with_reducible exact List.mem_cons_self | with_reducible apply List.mem_cons_of_mem))
  have l0 := cell_lt h0
  have l1 := cell_lt h1
  have l2 := cell_lt h2
  have l3 := cell_lt h3
  go_wp2_with fail
  clear hg h0 h1 h2 h3 n01 n02 n03 n12 n13 n23 r0 r1 r2 r3 l0 l1 l2 l3
  replace H := H.pair (w.heap.size) (.string s) (.iface 210 (.pointer (some a1))) 83 rfl
  obtain ⟨hg, b0, b1, b2, b3, s0, s1, s2, s3, ⟨h0, h1, h2, h3⟩, ⟨n01, n02, n03, n12, n13, n23⟩, r0, r1, r2, r3⟩ := H.errT (by repeat (first | with_reducible exact List.mem_cons_self | with_reducible apply List.mem_cons_of_mem))
  have l0 := cell_lt h0
  have l1 := cell_lt h1
  have l2 := cell_lt h2
  have l3 := cell_lt h3
  (with_reducible refine (is_no s a1 a0 _ b1 b0 s1 s0 (Ne.symm n01) r1 r0).mono ?_)
  rintro e w1 ⟨rfl, hb⟩
  replace H := H.below hb
  clear hb
  clear hg h0 h1 h2 h3 n01 n02 n03 n12 n13 n23 r0 r1 r2 r3 l0 l1 l2 l3
  obtain ⟨hg, b0, b1, b2, b3, s0, s1, s2, s3, ⟨h0, h1, h2, h3⟩, ⟨n01, n02, n03, n12, n13, n23⟩, r0, r1, r2, r3⟩ := H.errT (by repeat (first | with_reducible exact List.mem_cons_self | with_reducible apply List.mem_cons_of_mem))
  have l0 := cell_lt h0
  have l1 := cell_lt h1
  have l2 := cell_lt h2
  have l3 := cell_lt h3
  have cr0 := H.cell (w.heap.size) 0 (.string s) (by repeat (first | with_reducible exact List.mem_cons_self | with_reducible apply List.mem_cons_of_mem))
  have cr1 := H.cell (w.heap.size) 1 (.iface 210 (.pointer (some a1))) (by repeat (first | with_reducible exact List.mem_cons_self | with_reducible apply List.mem_cons_of_mem))
  have lr := cell_lt cr0
  go_wp2_with fail
  clear cr0 cr1 lr
  clear hg h0 h1 h2 h3 n01 n02 n03 n12 n13 n23 r0 r1 r2 r3 l0 l1 l2 l3
  obtain ⟨hg, b0, b1, b2, b3, s0, s1, s2, s3, ⟨h0, h1, h2, h3⟩, ⟨n01, n02, n03, n12, n13, n23⟩, r0, r1, r2, r3⟩ := H.errT (by repeat (first | with_reducible exact List.mem_cons_self | with_reducible apply List.mem_cons_of_mem))
  have l0 := cell_lt h0
  have l1 := cell_lt h1
  have l2 := cell_lt h2
  have l3 := cell_lt h3
  (with_reducible refine (is_yes s a1 a1 _ rfl).mono ?_)
  rintro e w2 ⟨rfl, hb⟩
  replace H := H.below hb
  clear hb
  clear hg h0 h1 h2 h3 n01 n02 n03 n12 n13 n23 r0 r1 r2 r3 l0 l1 l2 l3
  go_wp2_with fail
  go_ret
  exact ⟨rfl, H.old⟩

/-- A refusal's code. -/
theorem rcode_2 (s : ByteArray) (a0 a1 a2 a3 : Addr) (w : World) (h : ErrT a0 a1 a2 a3 w) : Calls Tryz.prog 49 #[.agg #[.string s, .iface 210 (.pointer (some a2))]] w fun e w' => e = .returned (.int .i64 4) ∧ Below w.heap.size w w' := by
  have H := (Held.start w).add (f := errTF a0 a1 a2 a3) h
  clear h
  go_enter Tryz.func49, Tryz.ntmps49
  obtain ⟨hg, b0, b1, b2, b3, s0, s1, s2, s3, ⟨h0, h1, h2, h3⟩, ⟨n01, n02, n03, n12, n13, n23⟩, r0, r1, r2, r3⟩ := H.errT (by repeat (first | with_reducible exact List.mem_cons_self | with_reducible apply List.mem_cons_of_mem))
  have l0 := cell_lt h0
  have l1 := cell_lt h1
  have l2 := cell_lt h2
  have l3 := cell_lt h3
  go_wp2_with fail
  clear hg h0 h1 h2 h3 n01 n02 n03 n12 n13 n23 r0 r1 r2 r3 l0 l1 l2 l3
  replace H := H.pair (w.heap.size) (.string s) (.iface 210 (.pointer (some a2))) 83 rfl
  obtain ⟨hg, b0, b1, b2, b3, s0, s1, s2, s3, ⟨h0, h1, h2, h3⟩, ⟨n01, n02, n03, n12, n13, n23⟩, r0, r1, r2, r3⟩ := H.errT (by repeat (first | with_reducible exact List.mem_cons_self | with_reducible apply List.mem_cons_of_mem))
  have l0 := cell_lt h0
  have l1 := cell_lt h1
  have l2 := cell_lt h2
  have l3 := cell_lt h3
  (with_reducible refine (is_no s a2 a0 _ b2 b0 s2 s0 (Ne.symm n02) r2 r0).mono ?_)
  rintro e w1 ⟨rfl, hb⟩
  replace H := H.below hb
  clear hb
  clear hg h0 h1 h2 h3 n01 n02 n03 n12 n13 n23 r0 r1 r2 r3 l0 l1 l2 l3
  obtain ⟨hg, b0, b1, b2, b3, s0, s1, s2, s3, ⟨h0, h1, h2, h3⟩, ⟨n01, n02, n03, n12, n13, n23⟩, r0, r1, r2, r3⟩ := H.errT (by repeat (first | with_reducible exact List.mem_cons_self | with_reducible apply List.mem_cons_of_mem))
  have l0 := cell_lt h0
  have l1 := cell_lt h1
  have l2 := cell_lt h2
  have l3 := cell_lt h3
  have cr0 := H.cell (w.heap.size) 0 (.string s) (by repeat (first | with_reducible exact List.mem_cons_self | with_reducible apply List.mem_cons_of_mem))
  have cr1 := H.cell (w.heap.size) 1 (.iface 210 (.pointer (some a2))) (by repeat (first | with_reducible exact List.mem_cons_self | with_reducible apply List.mem_cons_of_mem))
  have lr := cell_lt cr0
  go_wp2_with fail
  clear cr0 cr1 lr
  clear hg h0 h1 h2 h3 n01 n02 n03 n12 n13 n23 r0 r1 r2 r3 l0 l1 l2 l3
  obtain ⟨hg, b0, b1, b2, b3, s0, s1, s2, s3, ⟨h0, h1, h2, h3⟩, ⟨n01, n02, n03, n12, n13, n23⟩, r0, r1, r2, r3⟩ := H.errT (by repeat (first | with_reducible exact List.mem_cons_self | with_reducible apply List.mem_cons_of_mem))
  have l0 := cell_lt h0
  have l1 := cell_lt h1
  have l2 := cell_lt h2
  have l3 := cell_lt h3
  (with_reducible refine (is_no s a2 a1 _ b2 b1 s2 s1 (Ne.symm n12) r2 r1).mono ?_)
  rintro e w2 ⟨rfl, hb⟩
  replace H := H.below hb
  clear hb
  clear hg h0 h1 h2 h3 n01 n02 n03 n12 n13 n23 r0 r1 r2 r3 l0 l1 l2 l3
  obtain ⟨hg, b0, b1, b2, b3, s0, s1, s2, s3, ⟨h0, h1, h2, h3⟩, ⟨n01, n02, n03, n12, n13, n23⟩, r0, r1, r2, r3⟩ := H.errT (by repeat (first | with_reducible exact List.mem_cons_self | with_reducible apply List.mem_cons_of_mem))
  have l0 := cell_lt h0
  have l1 := cell_lt h1
  have l2 := cell_lt h2
  have l3 := cell_lt h3
  have cr0 := H.cell (w.heap.size) 0 (.string s) (by repeat (first | with_reducible exact List.mem_cons_self | with_reducible apply List.mem_cons_of_mem))
  have cr1 := H.cell (w.heap.size) 1 (.iface 210 (.pointer (some a2))) (by repeat (first | with_reducible exact List.mem_cons_self | with_reducible apply List.mem_cons_of_mem))
  have lr := cell_lt cr0
  go_wp2_with fail
  clear cr0 cr1 lr
  clear hg h0 h1 h2 h3 n01 n02 n03 n12 n13 n23 r0 r1 r2 r3 l0 l1 l2 l3
  obtain ⟨hg, b0, b1, b2, b3, s0, s1, s2, s3, ⟨h0, h1, h2, h3⟩, ⟨n01, n02, n03, n12, n13, n23⟩, r0, r1, r2, r3⟩ := H.errT (by repeat (first | with_reducible exact List.mem_cons_self | with_reducible apply List.mem_cons_of_mem))
  have l0 := cell_lt h0
  have l1 := cell_lt h1
  have l2 := cell_lt h2
  have l3 := cell_lt h3
  (with_reducible refine (is_yes s a2 a2 _ rfl).mono ?_)
  rintro e w3 ⟨rfl, hb⟩
  replace H := H.below hb
  clear hb
  clear hg h0 h1 h2 h3 n01 n02 n03 n12 n13 n23 r0 r1 r2 r3 l0 l1 l2 l3
  go_wp2_with fail
  go_ret
  exact ⟨rfl, H.old⟩

/-- A refusal's code. -/
theorem rcode_3 (s : ByteArray) (a0 a1 a2 a3 : Addr) (w : World) (h : ErrT a0 a1 a2 a3 w) : Calls Tryz.prog 49 #[.agg #[.string s, .iface 210 (.pointer (some a3))]] w fun e w' => e = .returned (.int .i64 2) ∧ Below w.heap.size w w' := by
  have H := (Held.start w).add (f := errTF a0 a1 a2 a3) h
  clear h
  go_enter Tryz.func49, Tryz.ntmps49
  obtain ⟨hg, b0, b1, b2, b3, s0, s1, s2, s3, ⟨h0, h1, h2, h3⟩, ⟨n01, n02, n03, n12, n13, n23⟩, r0, r1, r2, r3⟩ := H.errT (by repeat (first | with_reducible exact List.mem_cons_self | with_reducible apply List.mem_cons_of_mem))
  have l0 := cell_lt h0
  have l1 := cell_lt h1
  have l2 := cell_lt h2
  have l3 := cell_lt h3
  go_wp2_with fail
  clear hg h0 h1 h2 h3 n01 n02 n03 n12 n13 n23 r0 r1 r2 r3 l0 l1 l2 l3
  replace H := H.pair (w.heap.size) (.string s) (.iface 210 (.pointer (some a3))) 83 rfl
  obtain ⟨hg, b0, b1, b2, b3, s0, s1, s2, s3, ⟨h0, h1, h2, h3⟩, ⟨n01, n02, n03, n12, n13, n23⟩, r0, r1, r2, r3⟩ := H.errT (by repeat (first | with_reducible exact List.mem_cons_self | with_reducible apply List.mem_cons_of_mem))
  have l0 := cell_lt h0
  have l1 := cell_lt h1
  have l2 := cell_lt h2
  have l3 := cell_lt h3
  (with_reducible refine (is_no s a3 a0 _ b3 b0 s3 s0 (Ne.symm n03) r3 r0).mono ?_)
  rintro e w1 ⟨rfl, hb⟩
  replace H := H.below hb
  clear hb
  clear hg h0 h1 h2 h3 n01 n02 n03 n12 n13 n23 r0 r1 r2 r3 l0 l1 l2 l3
  obtain ⟨hg, b0, b1, b2, b3, s0, s1, s2, s3, ⟨h0, h1, h2, h3⟩, ⟨n01, n02, n03, n12, n13, n23⟩, r0, r1, r2, r3⟩ := H.errT (by repeat (first | with_reducible exact List.mem_cons_self | with_reducible apply List.mem_cons_of_mem))
  have l0 := cell_lt h0
  have l1 := cell_lt h1
  have l2 := cell_lt h2
  have l3 := cell_lt h3
  have cr0 := H.cell (w.heap.size) 0 (.string s) (by repeat (first | with_reducible exact List.mem_cons_self | with_reducible apply List.mem_cons_of_mem))
  have cr1 := H.cell (w.heap.size) 1 (.iface 210 (.pointer (some a3))) (by repeat (first | with_reducible exact List.mem_cons_self | with_reducible apply List.mem_cons_of_mem))
  have lr := cell_lt cr0
  go_wp2_with fail
  clear cr0 cr1 lr
  clear hg h0 h1 h2 h3 n01 n02 n03 n12 n13 n23 r0 r1 r2 r3 l0 l1 l2 l3
  obtain ⟨hg, b0, b1, b2, b3, s0, s1, s2, s3, ⟨h0, h1, h2, h3⟩, ⟨n01, n02, n03, n12, n13, n23⟩, r0, r1, r2, r3⟩ := H.errT (by repeat (first | with_reducible exact List.mem_cons_self | with_reducible apply List.mem_cons_of_mem))
  have l0 := cell_lt h0
  have l1 := cell_lt h1
  have l2 := cell_lt h2
  have l3 := cell_lt h3
  (with_reducible refine (is_no s a3 a1 _ b3 b1 s3 s1 (Ne.symm n13) r3 r1).mono ?_)
  rintro e w2 ⟨rfl, hb⟩
  replace H := H.below hb
  clear hb
  clear hg h0 h1 h2 h3 n01 n02 n03 n12 n13 n23 r0 r1 r2 r3 l0 l1 l2 l3
  obtain ⟨hg, b0, b1, b2, b3, s0, s1, s2, s3, ⟨h0, h1, h2, h3⟩, ⟨n01, n02, n03, n12, n13, n23⟩, r0, r1, r2, r3⟩ := H.errT (by repeat (first | with_reducible exact List.mem_cons_self | with_reducible apply List.mem_cons_of_mem))
  have l0 := cell_lt h0
  have l1 := cell_lt h1
  have l2 := cell_lt h2
  have l3 := cell_lt h3
  have cr0 := H.cell (w.heap.size) 0 (.string s) (by repeat (first | with_reducible exact List.mem_cons_self | with_reducible apply List.mem_cons_of_mem))
  have cr1 := H.cell (w.heap.size) 1 (.iface 210 (.pointer (some a3))) (by repeat (first | with_reducible exact List.mem_cons_self | with_reducible apply List.mem_cons_of_mem))
  have lr := cell_lt cr0
  go_wp2_with fail
  clear cr0 cr1 lr
  clear hg h0 h1 h2 h3 n01 n02 n03 n12 n13 n23 r0 r1 r2 r3 l0 l1 l2 l3
  obtain ⟨hg, b0, b1, b2, b3, s0, s1, s2, s3, ⟨h0, h1, h2, h3⟩, ⟨n01, n02, n03, n12, n13, n23⟩, r0, r1, r2, r3⟩ := H.errT (by repeat (first | with_reducible exact List.mem_cons_self | with_reducible apply List.mem_cons_of_mem))
  have l0 := cell_lt h0
  have l1 := cell_lt h1
  have l2 := cell_lt h2
  have l3 := cell_lt h3
  (with_reducible refine (is_no s a3 a2 _ b3 b2 s3 s2 (Ne.symm n23) r3 r2).mono ?_)
  rintro e w3 ⟨rfl, hb⟩
  replace H := H.below hb
  clear hb
  clear hg h0 h1 h2 h3 n01 n02 n03 n12 n13 n23 r0 r1 r2 r3 l0 l1 l2 l3
  go_wp2_with fail
  go_ret
  exact ⟨rfl, H.old⟩

/-- None. -/
theorem tcode_nil (w : World) : Calls Tryz.prog 38 #[.nilIface] w fun e w' => e = .returned (.int .i64 0) ∧ Below w.heap.size w w' := by
  have H := Held.start w
  go_enter Tryz.func38, Tryz.ntmps38
  go_wp2_with fail
  replace H := H.pair (w.heap.size) (.string ⟨#[]⟩) .nilIface 83 rfl
  (with_reducible refine (as_nil _ _).mono ?_)
  rintro e w1 ⟨rfl, rfl⟩
  go_wp2_with fail
  go_ret
  exact ⟨rfl, H.old⟩

set_option maxHeartbeats 1000000 in
theorem tcode_0 (s : ByteArray) (a0 a1 a2 a3 : Addr) (w : World) (h : ErrT a0 a1 a2 a3 w) : Calls Tryz.prog 38 #[.iface 83 (.agg #[.string s, .iface 210 (.pointer (some a0))])] w fun e w' => e = .returned (.int .i64 1) ∧ Below w.heap.size w w' := by
  have HE := Lib.hid h
  have H := (Held.start w).add (f := .cell 4 0 _) h.1
  clear h
  go_enter Tryz.func38, Tryz.ntmps38
  go_wp2_with fail
  replace H := H.pair (w.heap.size) (.string ⟨#[]⟩) .nilIface 83 rfl
  (with_reducible refine (as_hit s 210 (.pointer (some a0)) (.string ⟨#[]⟩) .nilIface w.heap.size _ (H.cell _ _ _ (by repeat (first | with_reducible exact List.mem_cons_self | with_reducible apply List.mem_cons_of_mem))) (H.cell _ _ _ (by repeat (first | with_reducible exact List.mem_cons_self | with_reducible apply List.mem_cons_of_mem))) (H.cell _ _ _ (by repeat (first | with_reducible exact List.mem_cons_self | with_reducible apply List.mem_cons_of_mem))) (H.frozen _ _ (by repeat (first | with_reducible exact List.mem_cons_self | with_reducible apply List.mem_cons_of_mem))) (H.frozen _ _ (by repeat (first | with_reducible exact List.mem_cons_self | with_reducible apply List.mem_cons_of_mem)))).mono ?_)
  rintro e w1 ⟨rfl, hw⟩
  have B0 := H.old
  have c0 := H.cell (w.heap.size) 0 _ (List.Mem.head _)
  have c1 := H.cell (w.heap.size) 1 _ (List.Mem.tail _ (List.Mem.head _))
  obtain ⟨W0, hW0⟩ : ∃ W0, w.alloc (.cells #[.string ⟨#[]⟩, .nilIface] 83) = W0 := ⟨_, rfl⟩
  rw [hW0] at hw H c0 c1 B0
  have l0 := cell_lt c0
  have B1 : Below w.heap.size w w1 := by
    rw [hw]
    repeat (first | exact B0 | refine Below.setCell ?_ (by simp) _ | refine Below.alloc ?_ (by first | omega | (simp; omega)) _)
  have d0 : w1.cell? ⟨w.heap.size, 0, none⟩ = some (.string s) := by
    rw [hw]
    rw [World.cell?_setCell_other _ _ _ _ (by simp)]
    refine World.cell?_setCell_same' _ _ _ ?_
    rw [World.cell?_alloc_lt _ _ _ (by simp; omega), World.cell?_alloc_lt _ _ _ (by simp; omega), World.cell?_alloc_lt _ _ _ (by simp; omega), World.cell?_alloc_lt _ _ _ l0, c0]
    rfl
  have d1 : w1.cell? ⟨w.heap.size, 1, none⟩ = some (.iface 210 (.pointer (some a0))) := by
    rw [hw]
    refine World.cell?_setCell_same' _ _ _ ?_
    rw [World.cell?_setCell_other _ _ _ _ (by simp)]
    rw [World.cell?_alloc_lt _ _ _ (by simp; omega), World.cell?_alloc_lt _ _ _ (by simp; omega), World.cell?_alloc_lt _ _ _ (by simp; omega), World.cell?_alloc_lt _ _ _ l0, c1]
    rfl
  clear hw H B0 c0 c1 l0 hW0
  have H := ((Held.start w).add (f := errTF a0 a1 a2 a3) HE.out).below B1
  have ld := cell_lt d0
  go_wp2_with fail
  (with_reducible refine (rcode_0 s a0 a1 a2 a3 _ (H.errT (by repeat (first | with_reducible exact List.mem_cons_self | with_reducible apply List.mem_cons_of_mem)))).mono ?_)
  rintro e w2 ⟨rfl, hb⟩
  replace H := H.below hb
  clear hb d0 d1 ld
  go_wp2_with fail
  go_ret
  exact ⟨rfl, H.old⟩

set_option maxHeartbeats 1000000 in
theorem tcode_1 (s : ByteArray) (a0 a1 a2 a3 : Addr) (w : World) (h : ErrT a0 a1 a2 a3 w) : Calls Tryz.prog 38 #[.iface 83 (.agg #[.string s, .iface 210 (.pointer (some a1))])] w fun e w' => e = .returned (.int .i64 3) ∧ Below w.heap.size w w' := by
  have HE := Lib.hid h
  have H := (Held.start w).add (f := .cell 4 0 _) h.1
  clear h
  go_enter Tryz.func38, Tryz.ntmps38
  go_wp2_with fail
  replace H := H.pair (w.heap.size) (.string ⟨#[]⟩) .nilIface 83 rfl
  (with_reducible refine (as_hit s 210 (.pointer (some a1)) (.string ⟨#[]⟩) .nilIface w.heap.size _ (H.cell _ _ _ (by repeat (first | with_reducible exact List.mem_cons_self | with_reducible apply List.mem_cons_of_mem))) (H.cell _ _ _ (by repeat (first | with_reducible exact List.mem_cons_self | with_reducible apply List.mem_cons_of_mem))) (H.cell _ _ _ (by repeat (first | with_reducible exact List.mem_cons_self | with_reducible apply List.mem_cons_of_mem))) (H.frozen _ _ (by repeat (first | with_reducible exact List.mem_cons_self | with_reducible apply List.mem_cons_of_mem))) (H.frozen _ _ (by repeat (first | with_reducible exact List.mem_cons_self | with_reducible apply List.mem_cons_of_mem)))).mono ?_)
  rintro e w1 ⟨rfl, hw⟩
  have B0 := H.old
  have c0 := H.cell (w.heap.size) 0 _ (List.Mem.head _)
  have c1 := H.cell (w.heap.size) 1 _ (List.Mem.tail _ (List.Mem.head _))
  obtain ⟨W0, hW0⟩ : ∃ W0, w.alloc (.cells #[.string ⟨#[]⟩, .nilIface] 83) = W0 := ⟨_, rfl⟩
  rw [hW0] at hw H c0 c1 B0
  have l0 := cell_lt c0
  have B1 : Below w.heap.size w w1 := by
    rw [hw]
    repeat (first | exact B0 | refine Below.setCell ?_ (by simp) _ | refine Below.alloc ?_ (by first | omega | (simp; omega)) _)
  have d0 : w1.cell? ⟨w.heap.size, 0, none⟩ = some (.string s) := by
    rw [hw]
    rw [World.cell?_setCell_other _ _ _ _ (by simp)]
    refine World.cell?_setCell_same' _ _ _ ?_
    rw [World.cell?_alloc_lt _ _ _ (by simp; omega), World.cell?_alloc_lt _ _ _ (by simp; omega), World.cell?_alloc_lt _ _ _ (by simp; omega), World.cell?_alloc_lt _ _ _ l0, c0]
    rfl
  have d1 : w1.cell? ⟨w.heap.size, 1, none⟩ = some (.iface 210 (.pointer (some a1))) := by
    rw [hw]
    refine World.cell?_setCell_same' _ _ _ ?_
    rw [World.cell?_setCell_other _ _ _ _ (by simp)]
    rw [World.cell?_alloc_lt _ _ _ (by simp; omega), World.cell?_alloc_lt _ _ _ (by simp; omega), World.cell?_alloc_lt _ _ _ (by simp; omega), World.cell?_alloc_lt _ _ _ l0, c1]
    rfl
  clear hw H B0 c0 c1 l0 hW0
  have H := ((Held.start w).add (f := errTF a0 a1 a2 a3) HE.out).below B1
  have ld := cell_lt d0
  go_wp2_with fail
  (with_reducible refine (rcode_1 s a0 a1 a2 a3 _ (H.errT (by repeat (first | with_reducible exact List.mem_cons_self | with_reducible apply List.mem_cons_of_mem)))).mono ?_)
  rintro e w2 ⟨rfl, hb⟩
  replace H := H.below hb
  clear hb d0 d1 ld
  go_wp2_with fail
  go_ret
  exact ⟨rfl, H.old⟩

set_option maxHeartbeats 1000000 in
theorem tcode_2 (s : ByteArray) (a0 a1 a2 a3 : Addr) (w : World) (h : ErrT a0 a1 a2 a3 w) : Calls Tryz.prog 38 #[.iface 83 (.agg #[.string s, .iface 210 (.pointer (some a2))])] w fun e w' => e = .returned (.int .i64 4) ∧ Below w.heap.size w w' := by
  have HE := Lib.hid h
  have H := (Held.start w).add (f := .cell 4 0 _) h.1
  clear h
  go_enter Tryz.func38, Tryz.ntmps38
  go_wp2_with fail
  replace H := H.pair (w.heap.size) (.string ⟨#[]⟩) .nilIface 83 rfl
  (with_reducible refine (as_hit s 210 (.pointer (some a2)) (.string ⟨#[]⟩) .nilIface w.heap.size _ (H.cell _ _ _ (by repeat (first | with_reducible exact List.mem_cons_self | with_reducible apply List.mem_cons_of_mem))) (H.cell _ _ _ (by repeat (first | with_reducible exact List.mem_cons_self | with_reducible apply List.mem_cons_of_mem))) (H.cell _ _ _ (by repeat (first | with_reducible exact List.mem_cons_self | with_reducible apply List.mem_cons_of_mem))) (H.frozen _ _ (by repeat (first | with_reducible exact List.mem_cons_self | with_reducible apply List.mem_cons_of_mem))) (H.frozen _ _ (by repeat (first | with_reducible exact List.mem_cons_self | with_reducible apply List.mem_cons_of_mem)))).mono ?_)
  rintro e w1 ⟨rfl, hw⟩
  have B0 := H.old
  have c0 := H.cell (w.heap.size) 0 _ (List.Mem.head _)
  have c1 := H.cell (w.heap.size) 1 _ (List.Mem.tail _ (List.Mem.head _))
  obtain ⟨W0, hW0⟩ : ∃ W0, w.alloc (.cells #[.string ⟨#[]⟩, .nilIface] 83) = W0 := ⟨_, rfl⟩
  rw [hW0] at hw H c0 c1 B0
  have l0 := cell_lt c0
  have B1 : Below w.heap.size w w1 := by
    rw [hw]
    repeat (first | exact B0 | refine Below.setCell ?_ (by simp) _ | refine Below.alloc ?_ (by first | omega | (simp; omega)) _)
  have d0 : w1.cell? ⟨w.heap.size, 0, none⟩ = some (.string s) := by
    rw [hw]
    rw [World.cell?_setCell_other _ _ _ _ (by simp)]
    refine World.cell?_setCell_same' _ _ _ ?_
    rw [World.cell?_alloc_lt _ _ _ (by simp; omega), World.cell?_alloc_lt _ _ _ (by simp; omega), World.cell?_alloc_lt _ _ _ (by simp; omega), World.cell?_alloc_lt _ _ _ l0, c0]
    rfl
  have d1 : w1.cell? ⟨w.heap.size, 1, none⟩ = some (.iface 210 (.pointer (some a2))) := by
    rw [hw]
    refine World.cell?_setCell_same' _ _ _ ?_
    rw [World.cell?_setCell_other _ _ _ _ (by simp)]
    rw [World.cell?_alloc_lt _ _ _ (by simp; omega), World.cell?_alloc_lt _ _ _ (by simp; omega), World.cell?_alloc_lt _ _ _ (by simp; omega), World.cell?_alloc_lt _ _ _ l0, c1]
    rfl
  clear hw H B0 c0 c1 l0 hW0
  have H := ((Held.start w).add (f := errTF a0 a1 a2 a3) HE.out).below B1
  have ld := cell_lt d0
  go_wp2_with fail
  (with_reducible refine (rcode_2 s a0 a1 a2 a3 _ (H.errT (by repeat (first | with_reducible exact List.mem_cons_self | with_reducible apply List.mem_cons_of_mem)))).mono ?_)
  rintro e w2 ⟨rfl, hb⟩
  replace H := H.below hb
  clear hb d0 d1 ld
  go_wp2_with fail
  go_ret
  exact ⟨rfl, H.old⟩

set_option maxHeartbeats 1000000 in
theorem tcode_3 (s : ByteArray) (a0 a1 a2 a3 : Addr) (w : World) (h : ErrT a0 a1 a2 a3 w) : Calls Tryz.prog 38 #[.iface 83 (.agg #[.string s, .iface 210 (.pointer (some a3))])] w fun e w' => e = .returned (.int .i64 2) ∧ Below w.heap.size w w' := by
  have HE := Lib.hid h
  have H := (Held.start w).add (f := .cell 4 0 _) h.1
  clear h
  go_enter Tryz.func38, Tryz.ntmps38
  go_wp2_with fail
  replace H := H.pair (w.heap.size) (.string ⟨#[]⟩) .nilIface 83 rfl
  (with_reducible refine (as_hit s 210 (.pointer (some a3)) (.string ⟨#[]⟩) .nilIface w.heap.size _ (H.cell _ _ _ (by repeat (first | with_reducible exact List.mem_cons_self | with_reducible apply List.mem_cons_of_mem))) (H.cell _ _ _ (by repeat (first | with_reducible exact List.mem_cons_self | with_reducible apply List.mem_cons_of_mem))) (H.cell _ _ _ (by repeat (first | with_reducible exact List.mem_cons_self | with_reducible apply List.mem_cons_of_mem))) (H.frozen _ _ (by repeat (first | with_reducible exact List.mem_cons_self | with_reducible apply List.mem_cons_of_mem))) (H.frozen _ _ (by repeat (first | with_reducible exact List.mem_cons_self | with_reducible apply List.mem_cons_of_mem)))).mono ?_)
  rintro e w1 ⟨rfl, hw⟩
  have B0 := H.old
  have c0 := H.cell (w.heap.size) 0 _ (List.Mem.head _)
  have c1 := H.cell (w.heap.size) 1 _ (List.Mem.tail _ (List.Mem.head _))
  obtain ⟨W0, hW0⟩ : ∃ W0, w.alloc (.cells #[.string ⟨#[]⟩, .nilIface] 83) = W0 := ⟨_, rfl⟩
  rw [hW0] at hw H c0 c1 B0
  have l0 := cell_lt c0
  have B1 : Below w.heap.size w w1 := by
    rw [hw]
    repeat (first | exact B0 | refine Below.setCell ?_ (by simp) _ | refine Below.alloc ?_ (by first | omega | (simp; omega)) _)
  have d0 : w1.cell? ⟨w.heap.size, 0, none⟩ = some (.string s) := by
    rw [hw]
    rw [World.cell?_setCell_other _ _ _ _ (by simp)]
    refine World.cell?_setCell_same' _ _ _ ?_
    rw [World.cell?_alloc_lt _ _ _ (by simp; omega), World.cell?_alloc_lt _ _ _ (by simp; omega), World.cell?_alloc_lt _ _ _ (by simp; omega), World.cell?_alloc_lt _ _ _ l0, c0]
    rfl
  have d1 : w1.cell? ⟨w.heap.size, 1, none⟩ = some (.iface 210 (.pointer (some a3))) := by
    rw [hw]
    refine World.cell?_setCell_same' _ _ _ ?_
    rw [World.cell?_setCell_other _ _ _ _ (by simp)]
    rw [World.cell?_alloc_lt _ _ _ (by simp; omega), World.cell?_alloc_lt _ _ _ (by simp; omega), World.cell?_alloc_lt _ _ _ (by simp; omega), World.cell?_alloc_lt _ _ _ l0, c1]
    rfl
  clear hw H B0 c0 c1 l0 hW0
  have H := ((Held.start w).add (f := errTF a0 a1 a2 a3) HE.out).below B1
  have ld := cell_lt d0
  go_wp2_with fail
  (with_reducible refine (rcode_3 s a0 a1 a2 a3 _ (H.errT (by repeat (first | with_reducible exact List.mem_cons_self | with_reducible apply List.mem_cons_of_mem)))).mono ?_)
  rintro e w2 ⟨rfl, hb⟩
  replace H := H.below hb
  clear hb d0 d1 ld
  go_wp2_with fail
  go_ret
  exact ⟨rfl, H.old⟩

/-- Is a number a day's? -/
theorem isday15_any (n y m d e : Int) (b : Bool) (w : World) (hL : FactsT w) (hd : DayIs n y m d e) (hb : (e == 0) = b) : Calls Tryz.prog 54 #[.int .i64 n] w fun e w' => e = .returned (.bool b) ∧ Below w.heap.size w w' := by
  have H := (Held.start w).add (f := factsTF) hL
  have HD := Lib.hid hd
  clear hL hd
  go_enter Tryz.func54, Tryz.ntmps54
  go_wp2_with fail
  (with_reducible refine (civ_any n y m d e _ (H.lensT (by repeat (first | with_reducible exact List.mem_cons_self | with_reducible apply List.mem_cons_of_mem))) HD.out).mono ?_)
  rintro e w1 ⟨rfl, hb⟩
  replace H := H.below hb
  clear hb
  go_wp2_with fail
  go_ret
  exact ⟨rfl, (H.alloc _).old⟩
theorem isday15 (n : Int) (b : Bool) (w : World) (hL : FactsT w) (h : decide (1 ≤ n ∧ n ≤ 3652059) = b) : Calls Tryz.prog 54 #[.int .i64 n] w fun e w' => e = .returned (.bool b) ∧ Below w.heap.size w w' := by
  obtain ⟨y, m, d, e, hd⟩ := day_is n
  refine isday15_any n y m d e b w hL hd ?_
  rw [← h]
  rcases hd with ⟨h1, h2, rfl⟩ | ⟨h1, _, _, _, rfl⟩
  · have := nb_bd _ _ _ h1
    rw [h2] at this
    exact (decide_eq_true this).symm
  · rw [decide_eq_false (by omega)]; rfl

/-- Is money times rate too much? -/
theorem beyond15 (m r : Int) (b : Bool) (w : World) (hm : 1 ≤ m ∧ m ≤ 1000000000000000) (hr : 0 ≤ r ∧ r ≤ 1000000) (h : decide (9000000000000000000 < m * r) = b) : Calls Tryz.prog 55 #[.int .i64 m, .int .i64 r] w fun e w' => e = .returned (.bool b) ∧ Below w.heap.size w w' := by
  by_cases h0 : r > 0
  · have t0 : decide (r > 0) = true := decide_eq_true h0
    have q0 : (r == 0) = false := beq_eq_false_iff_ne.2 (by omega)
    have hq := Int.ediv_nonneg (a := 9000000000000000000) (b := r) (by omega) (by omega)
    have hq2 := Int.ediv_le_self (a := 9000000000000000000) r (by omega)
    have hd : IntKind.i64.wrap ((9000000000000000000 : Int).tdiv r) = 9000000000000000000 / r := by
      rw [Int.tdiv_eq_ediv_of_nonneg (by omega)]
      rw [IntKind.wrap_i64]
      omega
    have t1 : decide (m > 9000000000000000000 / r) = b := by
      rw [← h]
      exact decide_eq_decide.2 (bound_div h0)
    obtain ⟨q, hqq⟩ : ∃ q, (9000000000000000000 : Int) / r = q := ⟨_, rfl⟩
    rw [hqq] at hd t1
    clear h hq hq2 hqq
    go_enter Tryz.func55, Tryz.ntmps55
    go_wp2
    go_ret
    exact ⟨rfl, Below.refl _ _⟩
  · obtain rfl : r = 0 := by omega
    rw [Int.mul_zero] at h
    have hb : b = false := h.symm.trans (decide_eq_false (by omega))
    subst hb
    clear h h0
    go_enter Tryz.func55, Tryz.ntmps55
    go_wp2
    go_ret
    exact ⟨rfl, Below.refl _ _⟩

set_option maxHeartbeats 1000000 in
theorem fault_kind (mo ra ki co st en ms : Int) (bk lg eo : Bool) (ro : Int) (a0 a1 a2 a3 : Addr) (S1 : ByteArray) (hs1 : tn ki = S1) (e1 : S1.toList.isEmpty = true) (w : World) (hL : FactsT w) (hE : ErrT a0 a1 a2 a3 w) : Calls Tryz.prog 39 #[.agg #[.int .i64 mo, .int .i64 ra, .int .i64 ki, .int .i64 co, .int .i64 st, .int .i64 en, .int .i64 ms, .bool bk, .bool lg, .bool eo, .int .i64 ro]] w fun e w' => (∃ s, e = .returned (.iface 83 (.agg #[.string s, .iface 210 (.pointer (some a0))]))) ∧ Below w.heap.size w w' := by
  have H := ((Held.start w).add (f := factsTF) hL).add (f := errTF a0 a1 a2 a3) hE
  clear hL hE
  replace hs1 := Lib.hid hs1
  go_enter Tryz.func39, Tryz.ntmps39
  go_wp2_with fail
  replace H := H.box_11 (w.heap.size) (.int .i64 mo) (.int .i64 ra) (.int .i64 ki) (.int .i64 co) (.int .i64 st) (.int .i64 en) (.int .i64 ms) (.bool bk) (.bool lg) (.bool eo) (.int .i64 ro) 23 rfl
  (with_reducible refine (tname15 ki S1 _ (H.factsT (by repeat (first | with_reducible exact List.mem_cons_self | with_reducible apply List.mem_cons_of_mem))) hs1.out).mono ?_)
  rintro e w1 ⟨rfl, hb⟩
  replace H := H.below hb
  clear hb
  obtain ⟨hg, b0, b1, b2, b3, s0, s1, s2, s3, ⟨h0, h1, h2, h3⟩, ⟨n01, n02, n03, n12, n13, n23⟩, r0, r1, r2, r3⟩ := H.errT (by repeat (first | with_reducible exact List.mem_cons_self | with_reducible apply List.mem_cons_of_mem))
  have l0 := cell_lt h0
  have l1 := cell_lt h1
  have l2 := cell_lt h2
  have l3 := cell_lt h3
  have ct0 := H.cell (w.heap.size) 0 (.int .i64 mo) (by repeat (first | with_reducible exact List.mem_cons_self | with_reducible apply List.mem_cons_of_mem))
  have ct1 := H.cell (w.heap.size) 1 (.int .i64 ra) (by repeat (first | with_reducible exact List.mem_cons_self | with_reducible apply List.mem_cons_of_mem))
  have ct2 := H.cell (w.heap.size) 2 (.int .i64 ki) (by repeat (first | with_reducible exact List.mem_cons_self | with_reducible apply List.mem_cons_of_mem))
  have ct3 := H.cell (w.heap.size) 3 (.int .i64 co) (by repeat (first | with_reducible exact List.mem_cons_self | with_reducible apply List.mem_cons_of_mem))
  have ct4 := H.cell (w.heap.size) 4 (.int .i64 st) (by repeat (first | with_reducible exact List.mem_cons_self | with_reducible apply List.mem_cons_of_mem))
  have ct5 := H.cell (w.heap.size) 5 (.int .i64 en) (by repeat (first | with_reducible exact List.mem_cons_self | with_reducible apply List.mem_cons_of_mem))
  have ct6 := H.cell (w.heap.size) 6 (.int .i64 ms) (by repeat (first | with_reducible exact List.mem_cons_self | with_reducible apply List.mem_cons_of_mem))
  have ct7 := H.cell (w.heap.size) 7 (.bool bk) (by repeat (first | with_reducible exact List.mem_cons_self | with_reducible apply List.mem_cons_of_mem))
  have ct8 := H.cell (w.heap.size) 8 (.bool lg) (by repeat (first | with_reducible exact List.mem_cons_self | with_reducible apply List.mem_cons_of_mem))
  have ct9 := H.cell (w.heap.size) 9 (.bool eo) (by repeat (first | with_reducible exact List.mem_cons_self | with_reducible apply List.mem_cons_of_mem))
  have ct10 := H.cell (w.heap.size) 10 (.int .i64 ro) (by repeat (first | with_reducible exact List.mem_cons_self | with_reducible apply List.mem_cons_of_mem))
  have lt := cell_lt ct0
  go_wp2_with fail
  clear ct0 ct1 ct2 ct3 ct4 ct5 ct6 ct7 ct8 ct9 ct10 lt
  go_ret
  exact ⟨⟨_, rfl⟩, H.old⟩

set_option maxHeartbeats 1000000 in
theorem fault_count (mo ra ki co st en ms : Int) (bk lg eo : Bool) (ro : Int) (a0 a1 a2 a3 : Addr) (S1 : ByteArray) (hs1 : tn ki = S1) (e1 : S1.toList.isEmpty = false) (S2 : ByteArray) (hs2 : nm co = S2) (e2 : S2.toList.isEmpty = true) (w : World) (hL : FactsT w) (hE : ErrT a0 a1 a2 a3 w) : Calls Tryz.prog 39 #[.agg #[.int .i64 mo, .int .i64 ra, .int .i64 ki, .int .i64 co, .int .i64 st, .int .i64 en, .int .i64 ms, .bool bk, .bool lg, .bool eo, .int .i64 ro]] w fun e w' => (∃ s, e = .returned (.iface 83 (.agg #[.string s, .iface 210 (.pointer (some a0))]))) ∧ Below w.heap.size w w' := by
  have H := ((Held.start w).add (f := factsTF) hL).add (f := errTF a0 a1 a2 a3) hE
  clear hL hE
  replace hs1 := Lib.hid hs1
  replace hs2 := Lib.hid hs2
  go_enter Tryz.func39, Tryz.ntmps39
  go_wp2_with fail
  replace H := H.box_11 (w.heap.size) (.int .i64 mo) (.int .i64 ra) (.int .i64 ki) (.int .i64 co) (.int .i64 st) (.int .i64 en) (.int .i64 ms) (.bool bk) (.bool lg) (.bool eo) (.int .i64 ro) 23 rfl
  (with_reducible refine (tname15 ki S1 _ (H.factsT (by repeat (first | with_reducible exact List.mem_cons_self | with_reducible apply List.mem_cons_of_mem))) hs1.out).mono ?_)
  rintro e w1 ⟨rfl, hb⟩
  replace H := H.below hb
  clear hb
  have ct0 := H.cell (w.heap.size) 0 (.int .i64 mo) (by repeat (first | with_reducible exact List.mem_cons_self | with_reducible apply List.mem_cons_of_mem))
  have ct1 := H.cell (w.heap.size) 1 (.int .i64 ra) (by repeat (first | with_reducible exact List.mem_cons_self | with_reducible apply List.mem_cons_of_mem))
  have ct2 := H.cell (w.heap.size) 2 (.int .i64 ki) (by repeat (first | with_reducible exact List.mem_cons_self | with_reducible apply List.mem_cons_of_mem))
  have ct3 := H.cell (w.heap.size) 3 (.int .i64 co) (by repeat (first | with_reducible exact List.mem_cons_self | with_reducible apply List.mem_cons_of_mem))
  have ct4 := H.cell (w.heap.size) 4 (.int .i64 st) (by repeat (first | with_reducible exact List.mem_cons_self | with_reducible apply List.mem_cons_of_mem))
  have ct5 := H.cell (w.heap.size) 5 (.int .i64 en) (by repeat (first | with_reducible exact List.mem_cons_self | with_reducible apply List.mem_cons_of_mem))
  have ct6 := H.cell (w.heap.size) 6 (.int .i64 ms) (by repeat (first | with_reducible exact List.mem_cons_self | with_reducible apply List.mem_cons_of_mem))
  have ct7 := H.cell (w.heap.size) 7 (.bool bk) (by repeat (first | with_reducible exact List.mem_cons_self | with_reducible apply List.mem_cons_of_mem))
  have ct8 := H.cell (w.heap.size) 8 (.bool lg) (by repeat (first | with_reducible exact List.mem_cons_self | with_reducible apply List.mem_cons_of_mem))
  have ct9 := H.cell (w.heap.size) 9 (.bool eo) (by repeat (first | with_reducible exact List.mem_cons_self | with_reducible apply List.mem_cons_of_mem))
  have ct10 := H.cell (w.heap.size) 10 (.int .i64 ro) (by repeat (first | with_reducible exact List.mem_cons_self | with_reducible apply List.mem_cons_of_mem))
  have lt := cell_lt ct0
  go_wp2_with fail
  clear ct0 ct1 ct2 ct3 ct4 ct5 ct6 ct7 ct8 ct9 ct10 lt
  (with_reducible refine (cname_is co S2 _ hs2.out).mono ?_)
  rintro e w2 ⟨rfl, hb⟩
  replace H := H.below hb
  clear hb
  obtain ⟨hg, b0, b1, b2, b3, s0, s1, s2, s3, ⟨h0, h1, h2, h3⟩, ⟨n01, n02, n03, n12, n13, n23⟩, r0, r1, r2, r3⟩ := H.errT (by repeat (first | with_reducible exact List.mem_cons_self | with_reducible apply List.mem_cons_of_mem))
  have l0 := cell_lt h0
  have l1 := cell_lt h1
  have l2 := cell_lt h2
  have l3 := cell_lt h3
  have ct0 := H.cell (w.heap.size) 0 (.int .i64 mo) (by repeat (first | with_reducible exact List.mem_cons_self | with_reducible apply List.mem_cons_of_mem))
  have ct1 := H.cell (w.heap.size) 1 (.int .i64 ra) (by repeat (first | with_reducible exact List.mem_cons_self | with_reducible apply List.mem_cons_of_mem))
  have ct2 := H.cell (w.heap.size) 2 (.int .i64 ki) (by repeat (first | with_reducible exact List.mem_cons_self | with_reducible apply List.mem_cons_of_mem))
  have ct3 := H.cell (w.heap.size) 3 (.int .i64 co) (by repeat (first | with_reducible exact List.mem_cons_self | with_reducible apply List.mem_cons_of_mem))
  have ct4 := H.cell (w.heap.size) 4 (.int .i64 st) (by repeat (first | with_reducible exact List.mem_cons_self | with_reducible apply List.mem_cons_of_mem))
  have ct5 := H.cell (w.heap.size) 5 (.int .i64 en) (by repeat (first | with_reducible exact List.mem_cons_self | with_reducible apply List.mem_cons_of_mem))
  have ct6 := H.cell (w.heap.size) 6 (.int .i64 ms) (by repeat (first | with_reducible exact List.mem_cons_self | with_reducible apply List.mem_cons_of_mem))
  have ct7 := H.cell (w.heap.size) 7 (.bool bk) (by repeat (first | with_reducible exact List.mem_cons_self | with_reducible apply List.mem_cons_of_mem))
  have ct8 := H.cell (w.heap.size) 8 (.bool lg) (by repeat (first | with_reducible exact List.mem_cons_self | with_reducible apply List.mem_cons_of_mem))
  have ct9 := H.cell (w.heap.size) 9 (.bool eo) (by repeat (first | with_reducible exact List.mem_cons_self | with_reducible apply List.mem_cons_of_mem))
  have ct10 := H.cell (w.heap.size) 10 (.int .i64 ro) (by repeat (first | with_reducible exact List.mem_cons_self | with_reducible apply List.mem_cons_of_mem))
  have lt := cell_lt ct0
  go_wp2_with fail
  clear ct0 ct1 ct2 ct3 ct4 ct5 ct6 ct7 ct8 ct9 ct10 lt
  go_ret
  exact ⟨⟨_, rfl⟩, H.old⟩

set_option maxHeartbeats 1000000 in
theorem fault_roll (mo ra ki co st en ms : Int) (bk lg eo : Bool) (ro : Int) (a0 a1 a2 a3 : Addr) (S1 : ByteArray) (hs1 : tn ki = S1) (e1 : S1.toList.isEmpty = false) (S2 : ByteArray) (hs2 : nm co = S2) (e2 : S2.toList.isEmpty = false) (S3 : ByteArray) (hs3 : rn ro = S3) (e3 : S3.toList.isEmpty = true) (w : World) (hL : FactsT w) (hE : ErrT a0 a1 a2 a3 w) : Calls Tryz.prog 39 #[.agg #[.int .i64 mo, .int .i64 ra, .int .i64 ki, .int .i64 co, .int .i64 st, .int .i64 en, .int .i64 ms, .bool bk, .bool lg, .bool eo, .int .i64 ro]] w fun e w' => (∃ s, e = .returned (.iface 83 (.agg #[.string s, .iface 210 (.pointer (some a0))]))) ∧ Below w.heap.size w w' := by
  have H := ((Held.start w).add (f := factsTF) hL).add (f := errTF a0 a1 a2 a3) hE
  clear hL hE
  replace hs1 := Lib.hid hs1
  replace hs2 := Lib.hid hs2
  replace hs3 := Lib.hid hs3
  go_enter Tryz.func39, Tryz.ntmps39
  go_wp2_with fail
  replace H := H.box_11 (w.heap.size) (.int .i64 mo) (.int .i64 ra) (.int .i64 ki) (.int .i64 co) (.int .i64 st) (.int .i64 en) (.int .i64 ms) (.bool bk) (.bool lg) (.bool eo) (.int .i64 ro) 23 rfl
  (with_reducible refine (tname15 ki S1 _ (H.factsT (by repeat (first | with_reducible exact List.mem_cons_self | with_reducible apply List.mem_cons_of_mem))) hs1.out).mono ?_)
  rintro e w1 ⟨rfl, hb⟩
  replace H := H.below hb
  clear hb
  have ct0 := H.cell (w.heap.size) 0 (.int .i64 mo) (by repeat (first | with_reducible exact List.mem_cons_self | with_reducible apply List.mem_cons_of_mem))
  have ct1 := H.cell (w.heap.size) 1 (.int .i64 ra) (by repeat (first | with_reducible exact List.mem_cons_self | with_reducible apply List.mem_cons_of_mem))
  have ct2 := H.cell (w.heap.size) 2 (.int .i64 ki) (by repeat (first | with_reducible exact List.mem_cons_self | with_reducible apply List.mem_cons_of_mem))
  have ct3 := H.cell (w.heap.size) 3 (.int .i64 co) (by repeat (first | with_reducible exact List.mem_cons_self | with_reducible apply List.mem_cons_of_mem))
  have ct4 := H.cell (w.heap.size) 4 (.int .i64 st) (by repeat (first | with_reducible exact List.mem_cons_self | with_reducible apply List.mem_cons_of_mem))
  have ct5 := H.cell (w.heap.size) 5 (.int .i64 en) (by repeat (first | with_reducible exact List.mem_cons_self | with_reducible apply List.mem_cons_of_mem))
  have ct6 := H.cell (w.heap.size) 6 (.int .i64 ms) (by repeat (first | with_reducible exact List.mem_cons_self | with_reducible apply List.mem_cons_of_mem))
  have ct7 := H.cell (w.heap.size) 7 (.bool bk) (by repeat (first | with_reducible exact List.mem_cons_self | with_reducible apply List.mem_cons_of_mem))
  have ct8 := H.cell (w.heap.size) 8 (.bool lg) (by repeat (first | with_reducible exact List.mem_cons_self | with_reducible apply List.mem_cons_of_mem))
  have ct9 := H.cell (w.heap.size) 9 (.bool eo) (by repeat (first | with_reducible exact List.mem_cons_self | with_reducible apply List.mem_cons_of_mem))
  have ct10 := H.cell (w.heap.size) 10 (.int .i64 ro) (by repeat (first | with_reducible exact List.mem_cons_self | with_reducible apply List.mem_cons_of_mem))
  have lt := cell_lt ct0
  go_wp2_with fail
  clear ct0 ct1 ct2 ct3 ct4 ct5 ct6 ct7 ct8 ct9 ct10 lt
  (with_reducible refine (cname_is co S2 _ hs2.out).mono ?_)
  rintro e w2 ⟨rfl, hb⟩
  replace H := H.below hb
  clear hb
  have ct0 := H.cell (w.heap.size) 0 (.int .i64 mo) (by repeat (first | with_reducible exact List.mem_cons_self | with_reducible apply List.mem_cons_of_mem))
  have ct1 := H.cell (w.heap.size) 1 (.int .i64 ra) (by repeat (first | with_reducible exact List.mem_cons_self | with_reducible apply List.mem_cons_of_mem))
  have ct2 := H.cell (w.heap.size) 2 (.int .i64 ki) (by repeat (first | with_reducible exact List.mem_cons_self | with_reducible apply List.mem_cons_of_mem))
  have ct3 := H.cell (w.heap.size) 3 (.int .i64 co) (by repeat (first | with_reducible exact List.mem_cons_self | with_reducible apply List.mem_cons_of_mem))
  have ct4 := H.cell (w.heap.size) 4 (.int .i64 st) (by repeat (first | with_reducible exact List.mem_cons_self | with_reducible apply List.mem_cons_of_mem))
  have ct5 := H.cell (w.heap.size) 5 (.int .i64 en) (by repeat (first | with_reducible exact List.mem_cons_self | with_reducible apply List.mem_cons_of_mem))
  have ct6 := H.cell (w.heap.size) 6 (.int .i64 ms) (by repeat (first | with_reducible exact List.mem_cons_self | with_reducible apply List.mem_cons_of_mem))
  have ct7 := H.cell (w.heap.size) 7 (.bool bk) (by repeat (first | with_reducible exact List.mem_cons_self | with_reducible apply List.mem_cons_of_mem))
  have ct8 := H.cell (w.heap.size) 8 (.bool lg) (by repeat (first | with_reducible exact List.mem_cons_self | with_reducible apply List.mem_cons_of_mem))
  have ct9 := H.cell (w.heap.size) 9 (.bool eo) (by repeat (first | with_reducible exact List.mem_cons_self | with_reducible apply List.mem_cons_of_mem))
  have ct10 := H.cell (w.heap.size) 10 (.int .i64 ro) (by repeat (first | with_reducible exact List.mem_cons_self | with_reducible apply List.mem_cons_of_mem))
  have lt := cell_lt ct0
  go_wp2_with fail
  clear ct0 ct1 ct2 ct3 ct4 ct5 ct6 ct7 ct8 ct9 ct10 lt
  (with_reducible refine (rlname15 ro S3 _ (H.factsT (by repeat (first | with_reducible exact List.mem_cons_self | with_reducible apply List.mem_cons_of_mem))) hs3.out).mono ?_)
  rintro e w3 ⟨rfl, hb⟩
  replace H := H.below hb
  clear hb
  obtain ⟨hg, b0, b1, b2, b3, s0, s1, s2, s3, ⟨h0, h1, h2, h3⟩, ⟨n01, n02, n03, n12, n13, n23⟩, r0, r1, r2, r3⟩ := H.errT (by repeat (first | with_reducible exact List.mem_cons_self | with_reducible apply List.mem_cons_of_mem))
  have l0 := cell_lt h0
  have l1 := cell_lt h1
  have l2 := cell_lt h2
  have l3 := cell_lt h3
  have ct0 := H.cell (w.heap.size) 0 (.int .i64 mo) (by repeat (first | with_reducible exact List.mem_cons_self | with_reducible apply List.mem_cons_of_mem))
  have ct1 := H.cell (w.heap.size) 1 (.int .i64 ra) (by repeat (first | with_reducible exact List.mem_cons_self | with_reducible apply List.mem_cons_of_mem))
  have ct2 := H.cell (w.heap.size) 2 (.int .i64 ki) (by repeat (first | with_reducible exact List.mem_cons_self | with_reducible apply List.mem_cons_of_mem))
  have ct3 := H.cell (w.heap.size) 3 (.int .i64 co) (by repeat (first | with_reducible exact List.mem_cons_self | with_reducible apply List.mem_cons_of_mem))
  have ct4 := H.cell (w.heap.size) 4 (.int .i64 st) (by repeat (first | with_reducible exact List.mem_cons_self | with_reducible apply List.mem_cons_of_mem))
  have ct5 := H.cell (w.heap.size) 5 (.int .i64 en) (by repeat (first | with_reducible exact List.mem_cons_self | with_reducible apply List.mem_cons_of_mem))
  have ct6 := H.cell (w.heap.size) 6 (.int .i64 ms) (by repeat (first | with_reducible exact List.mem_cons_self | with_reducible apply List.mem_cons_of_mem))
  have ct7 := H.cell (w.heap.size) 7 (.bool bk) (by repeat (first | with_reducible exact List.mem_cons_self | with_reducible apply List.mem_cons_of_mem))
  have ct8 := H.cell (w.heap.size) 8 (.bool lg) (by repeat (first | with_reducible exact List.mem_cons_self | with_reducible apply List.mem_cons_of_mem))
  have ct9 := H.cell (w.heap.size) 9 (.bool eo) (by repeat (first | with_reducible exact List.mem_cons_self | with_reducible apply List.mem_cons_of_mem))
  have ct10 := H.cell (w.heap.size) 10 (.int .i64 ro) (by repeat (first | with_reducible exact List.mem_cons_self | with_reducible apply List.mem_cons_of_mem))
  have lt := cell_lt ct0
  go_wp2_with fail
  clear ct0 ct1 ct2 ct3 ct4 ct5 ct6 ct7 ct8 ct9 ct10 lt
  go_ret
  exact ⟨⟨_, rfl⟩, H.old⟩

set_option maxHeartbeats 1000000 in
theorem fault_months (mo ra ki co st en ms : Int) (bk lg eo : Bool) (ro : Int) (a0 a1 a2 a3 : Addr) (S1 : ByteArray) (hs1 : tn ki = S1) (e1 : S1.toList.isEmpty = false) (S2 : ByteArray) (hs2 : nm co = S2) (e2 : S2.toList.isEmpty = false) (S3 : ByteArray) (hs3 : rn ro = S3) (e3 : S3.toList.isEmpty = false) (r4 : Int) (hs4 : fr ms = r4) (e4 : (r4 == 0) = true) (w : World) (hL : FactsT w) (hE : ErrT a0 a1 a2 a3 w) : Calls Tryz.prog 39 #[.agg #[.int .i64 mo, .int .i64 ra, .int .i64 ki, .int .i64 co, .int .i64 st, .int .i64 en, .int .i64 ms, .bool bk, .bool lg, .bool eo, .int .i64 ro]] w fun e w' => (∃ s, e = .returned (.iface 83 (.agg #[.string s, .iface 210 (.pointer (some a0))]))) ∧ Below w.heap.size w w' := by
  have H := ((Held.start w).add (f := factsTF) hL).add (f := errTF a0 a1 a2 a3) hE
  clear hL hE
  replace hs1 := Lib.hid hs1
  replace hs2 := Lib.hid hs2
  replace hs3 := Lib.hid hs3
  replace hs4 := Lib.hid hs4
  go_enter Tryz.func39, Tryz.ntmps39
  go_wp2_with fail
  replace H := H.box_11 (w.heap.size) (.int .i64 mo) (.int .i64 ra) (.int .i64 ki) (.int .i64 co) (.int .i64 st) (.int .i64 en) (.int .i64 ms) (.bool bk) (.bool lg) (.bool eo) (.int .i64 ro) 23 rfl
  (with_reducible refine (tname15 ki S1 _ (H.factsT (by repeat (first | with_reducible exact List.mem_cons_self | with_reducible apply List.mem_cons_of_mem))) hs1.out).mono ?_)
  rintro e w1 ⟨rfl, hb⟩
  replace H := H.below hb
  clear hb
  have ct0 := H.cell (w.heap.size) 0 (.int .i64 mo) (by repeat (first | with_reducible exact List.mem_cons_self | with_reducible apply List.mem_cons_of_mem))
  have ct1 := H.cell (w.heap.size) 1 (.int .i64 ra) (by repeat (first | with_reducible exact List.mem_cons_self | with_reducible apply List.mem_cons_of_mem))
  have ct2 := H.cell (w.heap.size) 2 (.int .i64 ki) (by repeat (first | with_reducible exact List.mem_cons_self | with_reducible apply List.mem_cons_of_mem))
  have ct3 := H.cell (w.heap.size) 3 (.int .i64 co) (by repeat (first | with_reducible exact List.mem_cons_self | with_reducible apply List.mem_cons_of_mem))
  have ct4 := H.cell (w.heap.size) 4 (.int .i64 st) (by repeat (first | with_reducible exact List.mem_cons_self | with_reducible apply List.mem_cons_of_mem))
  have ct5 := H.cell (w.heap.size) 5 (.int .i64 en) (by repeat (first | with_reducible exact List.mem_cons_self | with_reducible apply List.mem_cons_of_mem))
  have ct6 := H.cell (w.heap.size) 6 (.int .i64 ms) (by repeat (first | with_reducible exact List.mem_cons_self | with_reducible apply List.mem_cons_of_mem))
  have ct7 := H.cell (w.heap.size) 7 (.bool bk) (by repeat (first | with_reducible exact List.mem_cons_self | with_reducible apply List.mem_cons_of_mem))
  have ct8 := H.cell (w.heap.size) 8 (.bool lg) (by repeat (first | with_reducible exact List.mem_cons_self | with_reducible apply List.mem_cons_of_mem))
  have ct9 := H.cell (w.heap.size) 9 (.bool eo) (by repeat (first | with_reducible exact List.mem_cons_self | with_reducible apply List.mem_cons_of_mem))
  have ct10 := H.cell (w.heap.size) 10 (.int .i64 ro) (by repeat (first | with_reducible exact List.mem_cons_self | with_reducible apply List.mem_cons_of_mem))
  have lt := cell_lt ct0
  go_wp2_with fail
  clear ct0 ct1 ct2 ct3 ct4 ct5 ct6 ct7 ct8 ct9 ct10 lt
  (with_reducible refine (cname_is co S2 _ hs2.out).mono ?_)
  rintro e w2 ⟨rfl, hb⟩
  replace H := H.below hb
  clear hb
  have ct0 := H.cell (w.heap.size) 0 (.int .i64 mo) (by repeat (first | with_reducible exact List.mem_cons_self | with_reducible apply List.mem_cons_of_mem))
  have ct1 := H.cell (w.heap.size) 1 (.int .i64 ra) (by repeat (first | with_reducible exact List.mem_cons_self | with_reducible apply List.mem_cons_of_mem))
  have ct2 := H.cell (w.heap.size) 2 (.int .i64 ki) (by repeat (first | with_reducible exact List.mem_cons_self | with_reducible apply List.mem_cons_of_mem))
  have ct3 := H.cell (w.heap.size) 3 (.int .i64 co) (by repeat (first | with_reducible exact List.mem_cons_self | with_reducible apply List.mem_cons_of_mem))
  have ct4 := H.cell (w.heap.size) 4 (.int .i64 st) (by repeat (first | with_reducible exact List.mem_cons_self | with_reducible apply List.mem_cons_of_mem))
  have ct5 := H.cell (w.heap.size) 5 (.int .i64 en) (by repeat (first | with_reducible exact List.mem_cons_self | with_reducible apply List.mem_cons_of_mem))
  have ct6 := H.cell (w.heap.size) 6 (.int .i64 ms) (by repeat (first | with_reducible exact List.mem_cons_self | with_reducible apply List.mem_cons_of_mem))
  have ct7 := H.cell (w.heap.size) 7 (.bool bk) (by repeat (first | with_reducible exact List.mem_cons_self | with_reducible apply List.mem_cons_of_mem))
  have ct8 := H.cell (w.heap.size) 8 (.bool lg) (by repeat (first | with_reducible exact List.mem_cons_self | with_reducible apply List.mem_cons_of_mem))
  have ct9 := H.cell (w.heap.size) 9 (.bool eo) (by repeat (first | with_reducible exact List.mem_cons_self | with_reducible apply List.mem_cons_of_mem))
  have ct10 := H.cell (w.heap.size) 10 (.int .i64 ro) (by repeat (first | with_reducible exact List.mem_cons_self | with_reducible apply List.mem_cons_of_mem))
  have lt := cell_lt ct0
  go_wp2_with fail
  clear ct0 ct1 ct2 ct3 ct4 ct5 ct6 ct7 ct8 ct9 ct10 lt
  (with_reducible refine (rlname15 ro S3 _ (H.factsT (by repeat (first | with_reducible exact List.mem_cons_self | with_reducible apply List.mem_cons_of_mem))) hs3.out).mono ?_)
  rintro e w3 ⟨rfl, hb⟩
  replace H := H.below hb
  clear hb
  have ct0 := H.cell (w.heap.size) 0 (.int .i64 mo) (by repeat (first | with_reducible exact List.mem_cons_self | with_reducible apply List.mem_cons_of_mem))
  have ct1 := H.cell (w.heap.size) 1 (.int .i64 ra) (by repeat (first | with_reducible exact List.mem_cons_self | with_reducible apply List.mem_cons_of_mem))
  have ct2 := H.cell (w.heap.size) 2 (.int .i64 ki) (by repeat (first | with_reducible exact List.mem_cons_self | with_reducible apply List.mem_cons_of_mem))
  have ct3 := H.cell (w.heap.size) 3 (.int .i64 co) (by repeat (first | with_reducible exact List.mem_cons_self | with_reducible apply List.mem_cons_of_mem))
  have ct4 := H.cell (w.heap.size) 4 (.int .i64 st) (by repeat (first | with_reducible exact List.mem_cons_self | with_reducible apply List.mem_cons_of_mem))
  have ct5 := H.cell (w.heap.size) 5 (.int .i64 en) (by repeat (first | with_reducible exact List.mem_cons_self | with_reducible apply List.mem_cons_of_mem))
  have ct6 := H.cell (w.heap.size) 6 (.int .i64 ms) (by repeat (first | with_reducible exact List.mem_cons_self | with_reducible apply List.mem_cons_of_mem))
  have ct7 := H.cell (w.heap.size) 7 (.bool bk) (by repeat (first | with_reducible exact List.mem_cons_self | with_reducible apply List.mem_cons_of_mem))
  have ct8 := H.cell (w.heap.size) 8 (.bool lg) (by repeat (first | with_reducible exact List.mem_cons_self | with_reducible apply List.mem_cons_of_mem))
  have ct9 := H.cell (w.heap.size) 9 (.bool eo) (by repeat (first | with_reducible exact List.mem_cons_self | with_reducible apply List.mem_cons_of_mem))
  have ct10 := H.cell (w.heap.size) 10 (.int .i64 ro) (by repeat (first | with_reducible exact List.mem_cons_self | with_reducible apply List.mem_cons_of_mem))
  have lt := cell_lt ct0
  go_wp2_with fail
  clear ct0 ct1 ct2 ct3 ct4 ct5 ct6 ct7 ct8 ct9 ct10 lt
  (with_reducible refine (tfreq15 ms r4 _ hs4.out).mono ?_)
  rintro e w4 ⟨rfl, hb⟩
  replace H := H.below hb
  clear hb
  obtain ⟨hg, b0, b1, b2, b3, s0, s1, s2, s3, ⟨h0, h1, h2, h3⟩, ⟨n01, n02, n03, n12, n13, n23⟩, r0, r1, r2, r3⟩ := H.errT (by repeat (first | with_reducible exact List.mem_cons_self | with_reducible apply List.mem_cons_of_mem))
  have l0 := cell_lt h0
  have l1 := cell_lt h1
  have l2 := cell_lt h2
  have l3 := cell_lt h3
  have ct0 := H.cell (w.heap.size) 0 (.int .i64 mo) (by repeat (first | with_reducible exact List.mem_cons_self | with_reducible apply List.mem_cons_of_mem))
  have ct1 := H.cell (w.heap.size) 1 (.int .i64 ra) (by repeat (first | with_reducible exact List.mem_cons_self | with_reducible apply List.mem_cons_of_mem))
  have ct2 := H.cell (w.heap.size) 2 (.int .i64 ki) (by repeat (first | with_reducible exact List.mem_cons_self | with_reducible apply List.mem_cons_of_mem))
  have ct3 := H.cell (w.heap.size) 3 (.int .i64 co) (by repeat (first | with_reducible exact List.mem_cons_self | with_reducible apply List.mem_cons_of_mem))
  have ct4 := H.cell (w.heap.size) 4 (.int .i64 st) (by repeat (first | with_reducible exact List.mem_cons_self | with_reducible apply List.mem_cons_of_mem))
  have ct5 := H.cell (w.heap.size) 5 (.int .i64 en) (by repeat (first | with_reducible exact List.mem_cons_self | with_reducible apply List.mem_cons_of_mem))
  have ct6 := H.cell (w.heap.size) 6 (.int .i64 ms) (by repeat (first | with_reducible exact List.mem_cons_self | with_reducible apply List.mem_cons_of_mem))
  have ct7 := H.cell (w.heap.size) 7 (.bool bk) (by repeat (first | with_reducible exact List.mem_cons_self | with_reducible apply List.mem_cons_of_mem))
  have ct8 := H.cell (w.heap.size) 8 (.bool lg) (by repeat (first | with_reducible exact List.mem_cons_self | with_reducible apply List.mem_cons_of_mem))
  have ct9 := H.cell (w.heap.size) 9 (.bool eo) (by repeat (first | with_reducible exact List.mem_cons_self | with_reducible apply List.mem_cons_of_mem))
  have ct10 := H.cell (w.heap.size) 10 (.int .i64 ro) (by repeat (first | with_reducible exact List.mem_cons_self | with_reducible apply List.mem_cons_of_mem))
  have lt := cell_lt ct0
  go_wp2_with fail
  clear ct0 ct1 ct2 ct3 ct4 ct5 ct6 ct7 ct8 ct9 ct10 lt
  go_ret
  exact ⟨⟨_, rfl⟩, H.old⟩

set_option maxHeartbeats 1000000 in
theorem fault_start (mo ra ki co st en ms : Int) (bk lg eo : Bool) (ro : Int) (a0 a1 a2 a3 : Addr) (S1 : ByteArray) (hs1 : tn ki = S1) (e1 : S1.toList.isEmpty = false) (S2 : ByteArray) (hs2 : nm co = S2) (e2 : S2.toList.isEmpty = false) (S3 : ByteArray) (hs3 : rn ro = S3) (e3 : S3.toList.isEmpty = false) (r4 : Int) (hs4 : fr ms = r4) (e4 : (r4 == 0) = false) (hs5 : decide (1 ≤ st ∧ st ≤ 3652059) = false) (w : World) (hL : FactsT w) (hE : ErrT a0 a1 a2 a3 w) : Calls Tryz.prog 39 #[.agg #[.int .i64 mo, .int .i64 ra, .int .i64 ki, .int .i64 co, .int .i64 st, .int .i64 en, .int .i64 ms, .bool bk, .bool lg, .bool eo, .int .i64 ro]] w fun e w' => (∃ s, e = .returned (.iface 83 (.agg #[.string s, .iface 210 (.pointer (some a1))]))) ∧ Below w.heap.size w w' := by
  have H := ((Held.start w).add (f := factsTF) hL).add (f := errTF a0 a1 a2 a3) hE
  clear hL hE
  replace hs1 := Lib.hid hs1
  replace hs2 := Lib.hid hs2
  replace hs3 := Lib.hid hs3
  replace hs4 := Lib.hid hs4
  replace hs5 := Lib.hid hs5
  go_enter Tryz.func39, Tryz.ntmps39
  go_wp2_with fail
  replace H := H.box_11 (w.heap.size) (.int .i64 mo) (.int .i64 ra) (.int .i64 ki) (.int .i64 co) (.int .i64 st) (.int .i64 en) (.int .i64 ms) (.bool bk) (.bool lg) (.bool eo) (.int .i64 ro) 23 rfl
  (with_reducible refine (tname15 ki S1 _ (H.factsT (by repeat (first | with_reducible exact List.mem_cons_self | with_reducible apply List.mem_cons_of_mem))) hs1.out).mono ?_)
  rintro e w1 ⟨rfl, hb⟩
  replace H := H.below hb
  clear hb
  have ct0 := H.cell (w.heap.size) 0 (.int .i64 mo) (by repeat (first | with_reducible exact List.mem_cons_self | with_reducible apply List.mem_cons_of_mem))
  have ct1 := H.cell (w.heap.size) 1 (.int .i64 ra) (by repeat (first | with_reducible exact List.mem_cons_self | with_reducible apply List.mem_cons_of_mem))
  have ct2 := H.cell (w.heap.size) 2 (.int .i64 ki) (by repeat (first | with_reducible exact List.mem_cons_self | with_reducible apply List.mem_cons_of_mem))
  have ct3 := H.cell (w.heap.size) 3 (.int .i64 co) (by repeat (first | with_reducible exact List.mem_cons_self | with_reducible apply List.mem_cons_of_mem))
  have ct4 := H.cell (w.heap.size) 4 (.int .i64 st) (by repeat (first | with_reducible exact List.mem_cons_self | with_reducible apply List.mem_cons_of_mem))
  have ct5 := H.cell (w.heap.size) 5 (.int .i64 en) (by repeat (first | with_reducible exact List.mem_cons_self | with_reducible apply List.mem_cons_of_mem))
  have ct6 := H.cell (w.heap.size) 6 (.int .i64 ms) (by repeat (first | with_reducible exact List.mem_cons_self | with_reducible apply List.mem_cons_of_mem))
  have ct7 := H.cell (w.heap.size) 7 (.bool bk) (by repeat (first | with_reducible exact List.mem_cons_self | with_reducible apply List.mem_cons_of_mem))
  have ct8 := H.cell (w.heap.size) 8 (.bool lg) (by repeat (first | with_reducible exact List.mem_cons_self | with_reducible apply List.mem_cons_of_mem))
  have ct9 := H.cell (w.heap.size) 9 (.bool eo) (by repeat (first | with_reducible exact List.mem_cons_self | with_reducible apply List.mem_cons_of_mem))
  have ct10 := H.cell (w.heap.size) 10 (.int .i64 ro) (by repeat (first | with_reducible exact List.mem_cons_self | with_reducible apply List.mem_cons_of_mem))
  have lt := cell_lt ct0
  go_wp2_with fail
  clear ct0 ct1 ct2 ct3 ct4 ct5 ct6 ct7 ct8 ct9 ct10 lt
  (with_reducible refine (cname_is co S2 _ hs2.out).mono ?_)
  rintro e w2 ⟨rfl, hb⟩
  replace H := H.below hb
  clear hb
  have ct0 := H.cell (w.heap.size) 0 (.int .i64 mo) (by repeat (first | with_reducible exact List.mem_cons_self | with_reducible apply List.mem_cons_of_mem))
  have ct1 := H.cell (w.heap.size) 1 (.int .i64 ra) (by repeat (first | with_reducible exact List.mem_cons_self | with_reducible apply List.mem_cons_of_mem))
  have ct2 := H.cell (w.heap.size) 2 (.int .i64 ki) (by repeat (first | with_reducible exact List.mem_cons_self | with_reducible apply List.mem_cons_of_mem))
  have ct3 := H.cell (w.heap.size) 3 (.int .i64 co) (by repeat (first | with_reducible exact List.mem_cons_self | with_reducible apply List.mem_cons_of_mem))
  have ct4 := H.cell (w.heap.size) 4 (.int .i64 st) (by repeat (first | with_reducible exact List.mem_cons_self | with_reducible apply List.mem_cons_of_mem))
  have ct5 := H.cell (w.heap.size) 5 (.int .i64 en) (by repeat (first | with_reducible exact List.mem_cons_self | with_reducible apply List.mem_cons_of_mem))
  have ct6 := H.cell (w.heap.size) 6 (.int .i64 ms) (by repeat (first | with_reducible exact List.mem_cons_self | with_reducible apply List.mem_cons_of_mem))
  have ct7 := H.cell (w.heap.size) 7 (.bool bk) (by repeat (first | with_reducible exact List.mem_cons_self | with_reducible apply List.mem_cons_of_mem))
  have ct8 := H.cell (w.heap.size) 8 (.bool lg) (by repeat (first | with_reducible exact List.mem_cons_self | with_reducible apply List.mem_cons_of_mem))
  have ct9 := H.cell (w.heap.size) 9 (.bool eo) (by repeat (first | with_reducible exact List.mem_cons_self | with_reducible apply List.mem_cons_of_mem))
  have ct10 := H.cell (w.heap.size) 10 (.int .i64 ro) (by repeat (first | with_reducible exact List.mem_cons_self | with_reducible apply List.mem_cons_of_mem))
  have lt := cell_lt ct0
  go_wp2_with fail
  clear ct0 ct1 ct2 ct3 ct4 ct5 ct6 ct7 ct8 ct9 ct10 lt
  (with_reducible refine (rlname15 ro S3 _ (H.factsT (by repeat (first | with_reducible exact List.mem_cons_self | with_reducible apply List.mem_cons_of_mem))) hs3.out).mono ?_)
  rintro e w3 ⟨rfl, hb⟩
  replace H := H.below hb
  clear hb
  have ct0 := H.cell (w.heap.size) 0 (.int .i64 mo) (by repeat (first | with_reducible exact List.mem_cons_self | with_reducible apply List.mem_cons_of_mem))
  have ct1 := H.cell (w.heap.size) 1 (.int .i64 ra) (by repeat (first | with_reducible exact List.mem_cons_self | with_reducible apply List.mem_cons_of_mem))
  have ct2 := H.cell (w.heap.size) 2 (.int .i64 ki) (by repeat (first | with_reducible exact List.mem_cons_self | with_reducible apply List.mem_cons_of_mem))
  have ct3 := H.cell (w.heap.size) 3 (.int .i64 co) (by repeat (first | with_reducible exact List.mem_cons_self | with_reducible apply List.mem_cons_of_mem))
  have ct4 := H.cell (w.heap.size) 4 (.int .i64 st) (by repeat (first | with_reducible exact List.mem_cons_self | with_reducible apply List.mem_cons_of_mem))
  have ct5 := H.cell (w.heap.size) 5 (.int .i64 en) (by repeat (first | with_reducible exact List.mem_cons_self | with_reducible apply List.mem_cons_of_mem))
  have ct6 := H.cell (w.heap.size) 6 (.int .i64 ms) (by repeat (first | with_reducible exact List.mem_cons_self | with_reducible apply List.mem_cons_of_mem))
  have ct7 := H.cell (w.heap.size) 7 (.bool bk) (by repeat (first | with_reducible exact List.mem_cons_self | with_reducible apply List.mem_cons_of_mem))
  have ct8 := H.cell (w.heap.size) 8 (.bool lg) (by repeat (first | with_reducible exact List.mem_cons_self | with_reducible apply List.mem_cons_of_mem))
  have ct9 := H.cell (w.heap.size) 9 (.bool eo) (by repeat (first | with_reducible exact List.mem_cons_self | with_reducible apply List.mem_cons_of_mem))
  have ct10 := H.cell (w.heap.size) 10 (.int .i64 ro) (by repeat (first | with_reducible exact List.mem_cons_self | with_reducible apply List.mem_cons_of_mem))
  have lt := cell_lt ct0
  go_wp2_with fail
  clear ct0 ct1 ct2 ct3 ct4 ct5 ct6 ct7 ct8 ct9 ct10 lt
  (with_reducible refine (tfreq15 ms r4 _ hs4.out).mono ?_)
  rintro e w4 ⟨rfl, hb⟩
  replace H := H.below hb
  clear hb
  have ct0 := H.cell (w.heap.size) 0 (.int .i64 mo) (by repeat (first | with_reducible exact List.mem_cons_self | with_reducible apply List.mem_cons_of_mem))
  have ct1 := H.cell (w.heap.size) 1 (.int .i64 ra) (by repeat (first | with_reducible exact List.mem_cons_self | with_reducible apply List.mem_cons_of_mem))
  have ct2 := H.cell (w.heap.size) 2 (.int .i64 ki) (by repeat (first | with_reducible exact List.mem_cons_self | with_reducible apply List.mem_cons_of_mem))
  have ct3 := H.cell (w.heap.size) 3 (.int .i64 co) (by repeat (first | with_reducible exact List.mem_cons_self | with_reducible apply List.mem_cons_of_mem))
  have ct4 := H.cell (w.heap.size) 4 (.int .i64 st) (by repeat (first | with_reducible exact List.mem_cons_self | with_reducible apply List.mem_cons_of_mem))
  have ct5 := H.cell (w.heap.size) 5 (.int .i64 en) (by repeat (first | with_reducible exact List.mem_cons_self | with_reducible apply List.mem_cons_of_mem))
  have ct6 := H.cell (w.heap.size) 6 (.int .i64 ms) (by repeat (first | with_reducible exact List.mem_cons_self | with_reducible apply List.mem_cons_of_mem))
  have ct7 := H.cell (w.heap.size) 7 (.bool bk) (by repeat (first | with_reducible exact List.mem_cons_self | with_reducible apply List.mem_cons_of_mem))
  have ct8 := H.cell (w.heap.size) 8 (.bool lg) (by repeat (first | with_reducible exact List.mem_cons_self | with_reducible apply List.mem_cons_of_mem))
  have ct9 := H.cell (w.heap.size) 9 (.bool eo) (by repeat (first | with_reducible exact List.mem_cons_self | with_reducible apply List.mem_cons_of_mem))
  have ct10 := H.cell (w.heap.size) 10 (.int .i64 ro) (by repeat (first | with_reducible exact List.mem_cons_self | with_reducible apply List.mem_cons_of_mem))
  have lt := cell_lt ct0
  go_wp2_with fail
  clear ct0 ct1 ct2 ct3 ct4 ct5 ct6 ct7 ct8 ct9 ct10 lt
  (with_reducible refine (isday15 st false _ (H.factsT (by repeat (first | with_reducible exact List.mem_cons_self | with_reducible apply List.mem_cons_of_mem))) hs5.out).mono ?_)
  rintro e w5 ⟨rfl, hb⟩
  replace H := H.below hb
  clear hb
  obtain ⟨hg, b0, b1, b2, b3, s0, s1, s2, s3, ⟨h0, h1, h2, h3⟩, ⟨n01, n02, n03, n12, n13, n23⟩, r0, r1, r2, r3⟩ := H.errT (by repeat (first | with_reducible exact List.mem_cons_self | with_reducible apply List.mem_cons_of_mem))
  have l0 := cell_lt h0
  have l1 := cell_lt h1
  have l2 := cell_lt h2
  have l3 := cell_lt h3
  have ct0 := H.cell (w.heap.size) 0 (.int .i64 mo) (by repeat (first | with_reducible exact List.mem_cons_self | with_reducible apply List.mem_cons_of_mem))
  have ct1 := H.cell (w.heap.size) 1 (.int .i64 ra) (by repeat (first | with_reducible exact List.mem_cons_self | with_reducible apply List.mem_cons_of_mem))
  have ct2 := H.cell (w.heap.size) 2 (.int .i64 ki) (by repeat (first | with_reducible exact List.mem_cons_self | with_reducible apply List.mem_cons_of_mem))
  have ct3 := H.cell (w.heap.size) 3 (.int .i64 co) (by repeat (first | with_reducible exact List.mem_cons_self | with_reducible apply List.mem_cons_of_mem))
  have ct4 := H.cell (w.heap.size) 4 (.int .i64 st) (by repeat (first | with_reducible exact List.mem_cons_self | with_reducible apply List.mem_cons_of_mem))
  have ct5 := H.cell (w.heap.size) 5 (.int .i64 en) (by repeat (first | with_reducible exact List.mem_cons_self | with_reducible apply List.mem_cons_of_mem))
  have ct6 := H.cell (w.heap.size) 6 (.int .i64 ms) (by repeat (first | with_reducible exact List.mem_cons_self | with_reducible apply List.mem_cons_of_mem))
  have ct7 := H.cell (w.heap.size) 7 (.bool bk) (by repeat (first | with_reducible exact List.mem_cons_self | with_reducible apply List.mem_cons_of_mem))
  have ct8 := H.cell (w.heap.size) 8 (.bool lg) (by repeat (first | with_reducible exact List.mem_cons_self | with_reducible apply List.mem_cons_of_mem))
  have ct9 := H.cell (w.heap.size) 9 (.bool eo) (by repeat (first | with_reducible exact List.mem_cons_self | with_reducible apply List.mem_cons_of_mem))
  have ct10 := H.cell (w.heap.size) 10 (.int .i64 ro) (by repeat (first | with_reducible exact List.mem_cons_self | with_reducible apply List.mem_cons_of_mem))
  have lt := cell_lt ct0
  go_wp2_with fail
  clear ct0 ct1 ct2 ct3 ct4 ct5 ct6 ct7 ct8 ct9 ct10 lt
  go_ret
  exact ⟨⟨_, rfl⟩, H.old⟩

set_option maxHeartbeats 1000000 in
theorem fault_end (mo ra ki co st en ms : Int) (bk lg eo : Bool) (ro : Int) (a0 a1 a2 a3 : Addr) (S1 : ByteArray) (hs1 : tn ki = S1) (e1 : S1.toList.isEmpty = false) (S2 : ByteArray) (hs2 : nm co = S2) (e2 : S2.toList.isEmpty = false) (S3 : ByteArray) (hs3 : rn ro = S3) (e3 : S3.toList.isEmpty = false) (r4 : Int) (hs4 : fr ms = r4) (e4 : (r4 == 0) = false) (hs5 : decide (1 ≤ st ∧ st ≤ 3652059) = true) (hs6 : decide (1 ≤ en ∧ en ≤ 3652059) = false) (w : World) (hL : FactsT w) (hE : ErrT a0 a1 a2 a3 w) : Calls Tryz.prog 39 #[.agg #[.int .i64 mo, .int .i64 ra, .int .i64 ki, .int .i64 co, .int .i64 st, .int .i64 en, .int .i64 ms, .bool bk, .bool lg, .bool eo, .int .i64 ro]] w fun e w' => (∃ s, e = .returned (.iface 83 (.agg #[.string s, .iface 210 (.pointer (some a1))]))) ∧ Below w.heap.size w w' := by
  have H := ((Held.start w).add (f := factsTF) hL).add (f := errTF a0 a1 a2 a3) hE
  clear hL hE
  replace hs1 := Lib.hid hs1
  replace hs2 := Lib.hid hs2
  replace hs3 := Lib.hid hs3
  replace hs4 := Lib.hid hs4
  replace hs5 := Lib.hid hs5
  replace hs6 := Lib.hid hs6
  go_enter Tryz.func39, Tryz.ntmps39
  go_wp2_with fail
  replace H := H.box_11 (w.heap.size) (.int .i64 mo) (.int .i64 ra) (.int .i64 ki) (.int .i64 co) (.int .i64 st) (.int .i64 en) (.int .i64 ms) (.bool bk) (.bool lg) (.bool eo) (.int .i64 ro) 23 rfl
  (with_reducible refine (tname15 ki S1 _ (H.factsT (by repeat (first | with_reducible exact List.mem_cons_self | with_reducible apply List.mem_cons_of_mem))) hs1.out).mono ?_)
  rintro e w1 ⟨rfl, hb⟩
  replace H := H.below hb
  clear hb
  have ct0 := H.cell (w.heap.size) 0 (.int .i64 mo) (by repeat (first | with_reducible exact List.mem_cons_self | with_reducible apply List.mem_cons_of_mem))
  have ct1 := H.cell (w.heap.size) 1 (.int .i64 ra) (by repeat (first | with_reducible exact List.mem_cons_self | with_reducible apply List.mem_cons_of_mem))
  have ct2 := H.cell (w.heap.size) 2 (.int .i64 ki) (by repeat (first | with_reducible exact List.mem_cons_self | with_reducible apply List.mem_cons_of_mem))
  have ct3 := H.cell (w.heap.size) 3 (.int .i64 co) (by repeat (first | with_reducible exact List.mem_cons_self | with_reducible apply List.mem_cons_of_mem))
  have ct4 := H.cell (w.heap.size) 4 (.int .i64 st) (by repeat (first | with_reducible exact List.mem_cons_self | with_reducible apply List.mem_cons_of_mem))
  have ct5 := H.cell (w.heap.size) 5 (.int .i64 en) (by repeat (first | with_reducible exact List.mem_cons_self | with_reducible apply List.mem_cons_of_mem))
  have ct6 := H.cell (w.heap.size) 6 (.int .i64 ms) (by repeat (first | with_reducible exact List.mem_cons_self | with_reducible apply List.mem_cons_of_mem))
  have ct7 := H.cell (w.heap.size) 7 (.bool bk) (by repeat (first | with_reducible exact List.mem_cons_self | with_reducible apply List.mem_cons_of_mem))
  have ct8 := H.cell (w.heap.size) 8 (.bool lg) (by repeat (first | with_reducible exact List.mem_cons_self | with_reducible apply List.mem_cons_of_mem))
  have ct9 := H.cell (w.heap.size) 9 (.bool eo) (by repeat (first | with_reducible exact List.mem_cons_self | with_reducible apply List.mem_cons_of_mem))
  have ct10 := H.cell (w.heap.size) 10 (.int .i64 ro) (by repeat (first | with_reducible exact List.mem_cons_self | with_reducible apply List.mem_cons_of_mem))
  have lt := cell_lt ct0
  go_wp2_with fail
  clear ct0 ct1 ct2 ct3 ct4 ct5 ct6 ct7 ct8 ct9 ct10 lt
  (with_reducible refine (cname_is co S2 _ hs2.out).mono ?_)
  rintro e w2 ⟨rfl, hb⟩
  replace H := H.below hb
  clear hb
  have ct0 := H.cell (w.heap.size) 0 (.int .i64 mo) (by repeat (first | with_reducible exact List.mem_cons_self | with_reducible apply List.mem_cons_of_mem))
  have ct1 := H.cell (w.heap.size) 1 (.int .i64 ra) (by repeat (first | with_reducible exact List.mem_cons_self | with_reducible apply List.mem_cons_of_mem))
  have ct2 := H.cell (w.heap.size) 2 (.int .i64 ki) (by repeat (first | with_reducible exact List.mem_cons_self | with_reducible apply List.mem_cons_of_mem))
  have ct3 := H.cell (w.heap.size) 3 (.int .i64 co) (by repeat (first | with_reducible exact List.mem_cons_self | with_reducible apply List.mem_cons_of_mem))
  have ct4 := H.cell (w.heap.size) 4 (.int .i64 st) (by repeat (first | with_reducible exact List.mem_cons_self | with_reducible apply List.mem_cons_of_mem))
  have ct5 := H.cell (w.heap.size) 5 (.int .i64 en) (by repeat (first | with_reducible exact List.mem_cons_self | with_reducible apply List.mem_cons_of_mem))
  have ct6 := H.cell (w.heap.size) 6 (.int .i64 ms) (by repeat (first | with_reducible exact List.mem_cons_self | with_reducible apply List.mem_cons_of_mem))
  have ct7 := H.cell (w.heap.size) 7 (.bool bk) (by repeat (first | with_reducible exact List.mem_cons_self | with_reducible apply List.mem_cons_of_mem))
  have ct8 := H.cell (w.heap.size) 8 (.bool lg) (by repeat (first | with_reducible exact List.mem_cons_self | with_reducible apply List.mem_cons_of_mem))
  have ct9 := H.cell (w.heap.size) 9 (.bool eo) (by repeat (first | with_reducible exact List.mem_cons_self | with_reducible apply List.mem_cons_of_mem))
  have ct10 := H.cell (w.heap.size) 10 (.int .i64 ro) (by repeat (first | with_reducible exact List.mem_cons_self | with_reducible apply List.mem_cons_of_mem))
  have lt := cell_lt ct0
  go_wp2_with fail
  clear ct0 ct1 ct2 ct3 ct4 ct5 ct6 ct7 ct8 ct9 ct10 lt
  (with_reducible refine (rlname15 ro S3 _ (H.factsT (by repeat (first | with_reducible exact List.mem_cons_self | with_reducible apply List.mem_cons_of_mem))) hs3.out).mono ?_)
  rintro e w3 ⟨rfl, hb⟩
  replace H := H.below hb
  clear hb
  have ct0 := H.cell (w.heap.size) 0 (.int .i64 mo) (by repeat (first | with_reducible exact List.mem_cons_self | with_reducible apply List.mem_cons_of_mem))
  have ct1 := H.cell (w.heap.size) 1 (.int .i64 ra) (by repeat (first | with_reducible exact List.mem_cons_self | with_reducible apply List.mem_cons_of_mem))
  have ct2 := H.cell (w.heap.size) 2 (.int .i64 ki) (by repeat (first | with_reducible exact List.mem_cons_self | with_reducible apply List.mem_cons_of_mem))
  have ct3 := H.cell (w.heap.size) 3 (.int .i64 co) (by repeat (first | with_reducible exact List.mem_cons_self | with_reducible apply List.mem_cons_of_mem))
  have ct4 := H.cell (w.heap.size) 4 (.int .i64 st) (by repeat (first | with_reducible exact List.mem_cons_self | with_reducible apply List.mem_cons_of_mem))
  have ct5 := H.cell (w.heap.size) 5 (.int .i64 en) (by repeat (first | with_reducible exact List.mem_cons_self | with_reducible apply List.mem_cons_of_mem))
  have ct6 := H.cell (w.heap.size) 6 (.int .i64 ms) (by repeat (first | with_reducible exact List.mem_cons_self | with_reducible apply List.mem_cons_of_mem))
  have ct7 := H.cell (w.heap.size) 7 (.bool bk) (by repeat (first | with_reducible exact List.mem_cons_self | with_reducible apply List.mem_cons_of_mem))
  have ct8 := H.cell (w.heap.size) 8 (.bool lg) (by repeat (first | with_reducible exact List.mem_cons_self | with_reducible apply List.mem_cons_of_mem))
  have ct9 := H.cell (w.heap.size) 9 (.bool eo) (by repeat (first | with_reducible exact List.mem_cons_self | with_reducible apply List.mem_cons_of_mem))
  have ct10 := H.cell (w.heap.size) 10 (.int .i64 ro) (by repeat (first | with_reducible exact List.mem_cons_self | with_reducible apply List.mem_cons_of_mem))
  have lt := cell_lt ct0
  go_wp2_with fail
  clear ct0 ct1 ct2 ct3 ct4 ct5 ct6 ct7 ct8 ct9 ct10 lt
  (with_reducible refine (tfreq15 ms r4 _ hs4.out).mono ?_)
  rintro e w4 ⟨rfl, hb⟩
  replace H := H.below hb
  clear hb
  have ct0 := H.cell (w.heap.size) 0 (.int .i64 mo) (by repeat (first | with_reducible exact List.mem_cons_self | with_reducible apply List.mem_cons_of_mem))
  have ct1 := H.cell (w.heap.size) 1 (.int .i64 ra) (by repeat (first | with_reducible exact List.mem_cons_self | with_reducible apply List.mem_cons_of_mem))
  have ct2 := H.cell (w.heap.size) 2 (.int .i64 ki) (by repeat (first | with_reducible exact List.mem_cons_self | with_reducible apply List.mem_cons_of_mem))
  have ct3 := H.cell (w.heap.size) 3 (.int .i64 co) (by repeat (first | with_reducible exact List.mem_cons_self | with_reducible apply List.mem_cons_of_mem))
  have ct4 := H.cell (w.heap.size) 4 (.int .i64 st) (by repeat (first | with_reducible exact List.mem_cons_self | with_reducible apply List.mem_cons_of_mem))
  have ct5 := H.cell (w.heap.size) 5 (.int .i64 en) (by repeat (first | with_reducible exact List.mem_cons_self | with_reducible apply List.mem_cons_of_mem))
  have ct6 := H.cell (w.heap.size) 6 (.int .i64 ms) (by repeat (first | with_reducible exact List.mem_cons_self | with_reducible apply List.mem_cons_of_mem))
  have ct7 := H.cell (w.heap.size) 7 (.bool bk) (by repeat (first | with_reducible exact List.mem_cons_self | with_reducible apply List.mem_cons_of_mem))
  have ct8 := H.cell (w.heap.size) 8 (.bool lg) (by repeat (first | with_reducible exact List.mem_cons_self | with_reducible apply List.mem_cons_of_mem))
  have ct9 := H.cell (w.heap.size) 9 (.bool eo) (by repeat (first | with_reducible exact List.mem_cons_self | with_reducible apply List.mem_cons_of_mem))
  have ct10 := H.cell (w.heap.size) 10 (.int .i64 ro) (by repeat (first | with_reducible exact List.mem_cons_self | with_reducible apply List.mem_cons_of_mem))
  have lt := cell_lt ct0
  go_wp2_with fail
  clear ct0 ct1 ct2 ct3 ct4 ct5 ct6 ct7 ct8 ct9 ct10 lt
  (with_reducible refine (isday15 st true _ (H.factsT (by repeat (first | with_reducible exact List.mem_cons_self | with_reducible apply List.mem_cons_of_mem))) hs5.out).mono ?_)
  rintro e w5 ⟨rfl, hb⟩
  replace H := H.below hb
  clear hb
  have ct0 := H.cell (w.heap.size) 0 (.int .i64 mo) (by repeat (first | with_reducible exact List.mem_cons_self | with_reducible apply List.mem_cons_of_mem))
  have ct1 := H.cell (w.heap.size) 1 (.int .i64 ra) (by repeat (first | with_reducible exact List.mem_cons_self | with_reducible apply List.mem_cons_of_mem))
  have ct2 := H.cell (w.heap.size) 2 (.int .i64 ki) (by repeat (first | with_reducible exact List.mem_cons_self | with_reducible apply List.mem_cons_of_mem))
  have ct3 := H.cell (w.heap.size) 3 (.int .i64 co) (by repeat (first | with_reducible exact List.mem_cons_self | with_reducible apply List.mem_cons_of_mem))
  have ct4 := H.cell (w.heap.size) 4 (.int .i64 st) (by repeat (first | with_reducible exact List.mem_cons_self | with_reducible apply List.mem_cons_of_mem))
  have ct5 := H.cell (w.heap.size) 5 (.int .i64 en) (by repeat (first | with_reducible exact List.mem_cons_self | with_reducible apply List.mem_cons_of_mem))
  have ct6 := H.cell (w.heap.size) 6 (.int .i64 ms) (by repeat (first | with_reducible exact List.mem_cons_self | with_reducible apply List.mem_cons_of_mem))
  have ct7 := H.cell (w.heap.size) 7 (.bool bk) (by repeat (first | with_reducible exact List.mem_cons_self | with_reducible apply List.mem_cons_of_mem))
  have ct8 := H.cell (w.heap.size) 8 (.bool lg) (by repeat (first | with_reducible exact List.mem_cons_self | with_reducible apply List.mem_cons_of_mem))
  have ct9 := H.cell (w.heap.size) 9 (.bool eo) (by repeat (first | with_reducible exact List.mem_cons_self | with_reducible apply List.mem_cons_of_mem))
  have ct10 := H.cell (w.heap.size) 10 (.int .i64 ro) (by repeat (first | with_reducible exact List.mem_cons_self | with_reducible apply List.mem_cons_of_mem))
  have lt := cell_lt ct0
  go_wp2_with fail
  clear ct0 ct1 ct2 ct3 ct4 ct5 ct6 ct7 ct8 ct9 ct10 lt
  (with_reducible refine (isday15 en false _ (H.factsT (by repeat (first | with_reducible exact List.mem_cons_self | with_reducible apply List.mem_cons_of_mem))) hs6.out).mono ?_)
  rintro e w6 ⟨rfl, hb⟩
  replace H := H.below hb
  clear hb
  obtain ⟨hg, b0, b1, b2, b3, s0, s1, s2, s3, ⟨h0, h1, h2, h3⟩, ⟨n01, n02, n03, n12, n13, n23⟩, r0, r1, r2, r3⟩ := H.errT (by repeat (first | with_reducible exact List.mem_cons_self | with_reducible apply List.mem_cons_of_mem))
  have l0 := cell_lt h0
  have l1 := cell_lt h1
  have l2 := cell_lt h2
  have l3 := cell_lt h3
  have ct0 := H.cell (w.heap.size) 0 (.int .i64 mo) (by repeat (first | with_reducible exact List.mem_cons_self | with_reducible apply List.mem_cons_of_mem))
  have ct1 := H.cell (w.heap.size) 1 (.int .i64 ra) (by repeat (first | with_reducible exact List.mem_cons_self | with_reducible apply List.mem_cons_of_mem))
  have ct2 := H.cell (w.heap.size) 2 (.int .i64 ki) (by repeat (first | with_reducible exact List.mem_cons_self | with_reducible apply List.mem_cons_of_mem))
  have ct3 := H.cell (w.heap.size) 3 (.int .i64 co) (by repeat (first | with_reducible exact List.mem_cons_self | with_reducible apply List.mem_cons_of_mem))
  have ct4 := H.cell (w.heap.size) 4 (.int .i64 st) (by repeat (first | with_reducible exact List.mem_cons_self | with_reducible apply List.mem_cons_of_mem))
  have ct5 := H.cell (w.heap.size) 5 (.int .i64 en) (by repeat (first | with_reducible exact List.mem_cons_self | with_reducible apply List.mem_cons_of_mem))
  have ct6 := H.cell (w.heap.size) 6 (.int .i64 ms) (by repeat (first | with_reducible exact List.mem_cons_self | with_reducible apply List.mem_cons_of_mem))
  have ct7 := H.cell (w.heap.size) 7 (.bool bk) (by repeat (first | with_reducible exact List.mem_cons_self | with_reducible apply List.mem_cons_of_mem))
  have ct8 := H.cell (w.heap.size) 8 (.bool lg) (by repeat (first | with_reducible exact List.mem_cons_self | with_reducible apply List.mem_cons_of_mem))
  have ct9 := H.cell (w.heap.size) 9 (.bool eo) (by repeat (first | with_reducible exact List.mem_cons_self | with_reducible apply List.mem_cons_of_mem))
  have ct10 := H.cell (w.heap.size) 10 (.int .i64 ro) (by repeat (first | with_reducible exact List.mem_cons_self | with_reducible apply List.mem_cons_of_mem))
  have lt := cell_lt ct0
  go_wp2_with fail
  clear ct0 ct1 ct2 ct3 ct4 ct5 ct6 ct7 ct8 ct9 ct10 lt
  go_ret
  exact ⟨⟨_, rfl⟩, H.old⟩

set_option maxHeartbeats 1000000 in
theorem fault_order (mo ra ki co st en ms : Int) (bk lg eo : Bool) (ro : Int) (a0 a1 a2 a3 : Addr) (S1 : ByteArray) (hs1 : tn ki = S1) (e1 : S1.toList.isEmpty = false) (S2 : ByteArray) (hs2 : nm co = S2) (e2 : S2.toList.isEmpty = false) (S3 : ByteArray) (hs3 : rn ro = S3) (e3 : S3.toList.isEmpty = false) (r4 : Int) (hs4 : fr ms = r4) (e4 : (r4 == 0) = false) (hs5 : decide (1 ≤ st ∧ st ≤ 3652059) = true) (hs6 : decide (1 ≤ en ∧ en ≤ 3652059) = true) (e7 : decide (st ≥ en) = true) (w : World) (hL : FactsT w) (hE : ErrT a0 a1 a2 a3 w) : Calls Tryz.prog 39 #[.agg #[.int .i64 mo, .int .i64 ra, .int .i64 ki, .int .i64 co, .int .i64 st, .int .i64 en, .int .i64 ms, .bool bk, .bool lg, .bool eo, .int .i64 ro]] w fun e w' => (∃ s, e = .returned (.iface 83 (.agg #[.string s, .iface 210 (.pointer (some a2))]))) ∧ Below w.heap.size w w' := by
  have H := ((Held.start w).add (f := factsTF) hL).add (f := errTF a0 a1 a2 a3) hE
  clear hL hE
  replace hs1 := Lib.hid hs1
  replace hs2 := Lib.hid hs2
  replace hs3 := Lib.hid hs3
  replace hs4 := Lib.hid hs4
  replace hs5 := Lib.hid hs5
  replace hs6 := Lib.hid hs6
  go_enter Tryz.func39, Tryz.ntmps39
  go_wp2_with fail
  replace H := H.box_11 (w.heap.size) (.int .i64 mo) (.int .i64 ra) (.int .i64 ki) (.int .i64 co) (.int .i64 st) (.int .i64 en) (.int .i64 ms) (.bool bk) (.bool lg) (.bool eo) (.int .i64 ro) 23 rfl
  (with_reducible refine (tname15 ki S1 _ (H.factsT (by repeat (first | with_reducible exact List.mem_cons_self | with_reducible apply List.mem_cons_of_mem))) hs1.out).mono ?_)
  rintro e w1 ⟨rfl, hb⟩
  replace H := H.below hb
  clear hb
  have ct0 := H.cell (w.heap.size) 0 (.int .i64 mo) (by repeat (first | with_reducible exact List.mem_cons_self | with_reducible apply List.mem_cons_of_mem))
  have ct1 := H.cell (w.heap.size) 1 (.int .i64 ra) (by repeat (first | with_reducible exact List.mem_cons_self | with_reducible apply List.mem_cons_of_mem))
  have ct2 := H.cell (w.heap.size) 2 (.int .i64 ki) (by repeat (first | with_reducible exact List.mem_cons_self | with_reducible apply List.mem_cons_of_mem))
  have ct3 := H.cell (w.heap.size) 3 (.int .i64 co) (by repeat (first | with_reducible exact List.mem_cons_self | with_reducible apply List.mem_cons_of_mem))
  have ct4 := H.cell (w.heap.size) 4 (.int .i64 st) (by repeat (first | with_reducible exact List.mem_cons_self | with_reducible apply List.mem_cons_of_mem))
  have ct5 := H.cell (w.heap.size) 5 (.int .i64 en) (by repeat (first | with_reducible exact List.mem_cons_self | with_reducible apply List.mem_cons_of_mem))
  have ct6 := H.cell (w.heap.size) 6 (.int .i64 ms) (by repeat (first | with_reducible exact List.mem_cons_self | with_reducible apply List.mem_cons_of_mem))
  have ct7 := H.cell (w.heap.size) 7 (.bool bk) (by repeat (first | with_reducible exact List.mem_cons_self | with_reducible apply List.mem_cons_of_mem))
  have ct8 := H.cell (w.heap.size) 8 (.bool lg) (by repeat (first | with_reducible exact List.mem_cons_self | with_reducible apply List.mem_cons_of_mem))
  have ct9 := H.cell (w.heap.size) 9 (.bool eo) (by repeat (first | with_reducible exact List.mem_cons_self | with_reducible apply List.mem_cons_of_mem))
  have ct10 := H.cell (w.heap.size) 10 (.int .i64 ro) (by repeat (first | with_reducible exact List.mem_cons_self | with_reducible apply List.mem_cons_of_mem))
  have lt := cell_lt ct0
  go_wp2_with fail
  clear ct0 ct1 ct2 ct3 ct4 ct5 ct6 ct7 ct8 ct9 ct10 lt
  (with_reducible refine (cname_is co S2 _ hs2.out).mono ?_)
  rintro e w2 ⟨rfl, hb⟩
  replace H := H.below hb
  clear hb
  have ct0 := H.cell (w.heap.size) 0 (.int .i64 mo) (by repeat (first | with_reducible exact List.mem_cons_self | with_reducible apply List.mem_cons_of_mem))
  have ct1 := H.cell (w.heap.size) 1 (.int .i64 ra) (by repeat (first | with_reducible exact List.mem_cons_self | with_reducible apply List.mem_cons_of_mem))
  have ct2 := H.cell (w.heap.size) 2 (.int .i64 ki) (by repeat (first | with_reducible exact List.mem_cons_self | with_reducible apply List.mem_cons_of_mem))
  have ct3 := H.cell (w.heap.size) 3 (.int .i64 co) (by repeat (first | with_reducible exact List.mem_cons_self | with_reducible apply List.mem_cons_of_mem))
  have ct4 := H.cell (w.heap.size) 4 (.int .i64 st) (by repeat (first | with_reducible exact List.mem_cons_self | with_reducible apply List.mem_cons_of_mem))
  have ct5 := H.cell (w.heap.size) 5 (.int .i64 en) (by repeat (first | with_reducible exact List.mem_cons_self | with_reducible apply List.mem_cons_of_mem))
  have ct6 := H.cell (w.heap.size) 6 (.int .i64 ms) (by repeat (first | with_reducible exact List.mem_cons_self | with_reducible apply List.mem_cons_of_mem))
  have ct7 := H.cell (w.heap.size) 7 (.bool bk) (by repeat (first | with_reducible exact List.mem_cons_self | with_reducible apply List.mem_cons_of_mem))
  have ct8 := H.cell (w.heap.size) 8 (.bool lg) (by repeat (first | with_reducible exact List.mem_cons_self | with_reducible apply List.mem_cons_of_mem))
  have ct9 := H.cell (w.heap.size) 9 (.bool eo) (by repeat (first | with_reducible exact List.mem_cons_self | with_reducible apply List.mem_cons_of_mem))
  have ct10 := H.cell (w.heap.size) 10 (.int .i64 ro) (by repeat (first | with_reducible exact List.mem_cons_self | with_reducible apply List.mem_cons_of_mem))
  have lt := cell_lt ct0
  go_wp2_with fail
  clear ct0 ct1 ct2 ct3 ct4 ct5 ct6 ct7 ct8 ct9 ct10 lt
  (with_reducible refine (rlname15 ro S3 _ (H.factsT (by repeat (first | with_reducible exact List.mem_cons_self | with_reducible apply List.mem_cons_of_mem))) hs3.out).mono ?_)
  rintro e w3 ⟨rfl, hb⟩
  replace H := H.below hb
  clear hb
  have ct0 := H.cell (w.heap.size) 0 (.int .i64 mo) (by repeat (first | with_reducible exact List.mem_cons_self | with_reducible apply List.mem_cons_of_mem))
  have ct1 := H.cell (w.heap.size) 1 (.int .i64 ra) (by repeat (first | with_reducible exact List.mem_cons_self | with_reducible apply List.mem_cons_of_mem))
  have ct2 := H.cell (w.heap.size) 2 (.int .i64 ki) (by repeat (first | with_reducible exact List.mem_cons_self | with_reducible apply List.mem_cons_of_mem))
  have ct3 := H.cell (w.heap.size) 3 (.int .i64 co) (by repeat (first | with_reducible exact List.mem_cons_self | with_reducible apply List.mem_cons_of_mem))
  have ct4 := H.cell (w.heap.size) 4 (.int .i64 st) (by repeat (first | with_reducible exact List.mem_cons_self | with_reducible apply List.mem_cons_of_mem))
  have ct5 := H.cell (w.heap.size) 5 (.int .i64 en) (by repeat (first | with_reducible exact List.mem_cons_self | with_reducible apply List.mem_cons_of_mem))
  have ct6 := H.cell (w.heap.size) 6 (.int .i64 ms) (by repeat (first | with_reducible exact List.mem_cons_self | with_reducible apply List.mem_cons_of_mem))
  have ct7 := H.cell (w.heap.size) 7 (.bool bk) (by repeat (first | with_reducible exact List.mem_cons_self | with_reducible apply List.mem_cons_of_mem))
  have ct8 := H.cell (w.heap.size) 8 (.bool lg) (by repeat (first | with_reducible exact List.mem_cons_self | with_reducible apply List.mem_cons_of_mem))
  have ct9 := H.cell (w.heap.size) 9 (.bool eo) (by repeat (first | with_reducible exact List.mem_cons_self | with_reducible apply List.mem_cons_of_mem))
  have ct10 := H.cell (w.heap.size) 10 (.int .i64 ro) (by repeat (first | with_reducible exact List.mem_cons_self | with_reducible apply List.mem_cons_of_mem))
  have lt := cell_lt ct0
  go_wp2_with fail
  clear ct0 ct1 ct2 ct3 ct4 ct5 ct6 ct7 ct8 ct9 ct10 lt
  (with_reducible refine (tfreq15 ms r4 _ hs4.out).mono ?_)
  rintro e w4 ⟨rfl, hb⟩
  replace H := H.below hb
  clear hb
  have ct0 := H.cell (w.heap.size) 0 (.int .i64 mo) (by repeat (first | with_reducible exact List.mem_cons_self | with_reducible apply List.mem_cons_of_mem))
  have ct1 := H.cell (w.heap.size) 1 (.int .i64 ra) (by repeat (first | with_reducible exact List.mem_cons_self | with_reducible apply List.mem_cons_of_mem))
  have ct2 := H.cell (w.heap.size) 2 (.int .i64 ki) (by repeat (first | with_reducible exact List.mem_cons_self | with_reducible apply List.mem_cons_of_mem))
  have ct3 := H.cell (w.heap.size) 3 (.int .i64 co) (by repeat (first | with_reducible exact List.mem_cons_self | with_reducible apply List.mem_cons_of_mem))
  have ct4 := H.cell (w.heap.size) 4 (.int .i64 st) (by repeat (first | with_reducible exact List.mem_cons_self | with_reducible apply List.mem_cons_of_mem))
  have ct5 := H.cell (w.heap.size) 5 (.int .i64 en) (by repeat (first | with_reducible exact List.mem_cons_self | with_reducible apply List.mem_cons_of_mem))
  have ct6 := H.cell (w.heap.size) 6 (.int .i64 ms) (by repeat (first | with_reducible exact List.mem_cons_self | with_reducible apply List.mem_cons_of_mem))
  have ct7 := H.cell (w.heap.size) 7 (.bool bk) (by repeat (first | with_reducible exact List.mem_cons_self | with_reducible apply List.mem_cons_of_mem))
  have ct8 := H.cell (w.heap.size) 8 (.bool lg) (by repeat (first | with_reducible exact List.mem_cons_self | with_reducible apply List.mem_cons_of_mem))
  have ct9 := H.cell (w.heap.size) 9 (.bool eo) (by repeat (first | with_reducible exact List.mem_cons_self | with_reducible apply List.mem_cons_of_mem))
  have ct10 := H.cell (w.heap.size) 10 (.int .i64 ro) (by repeat (first | with_reducible exact List.mem_cons_self | with_reducible apply List.mem_cons_of_mem))
  have lt := cell_lt ct0
  go_wp2_with fail
  clear ct0 ct1 ct2 ct3 ct4 ct5 ct6 ct7 ct8 ct9 ct10 lt
  (with_reducible refine (isday15 st true _ (H.factsT (by repeat (first | with_reducible exact List.mem_cons_self | with_reducible apply List.mem_cons_of_mem))) hs5.out).mono ?_)
  rintro e w5 ⟨rfl, hb⟩
  replace H := H.below hb
  clear hb
  have ct0 := H.cell (w.heap.size) 0 (.int .i64 mo) (by repeat (first | with_reducible exact List.mem_cons_self | with_reducible apply List.mem_cons_of_mem))
  have ct1 := H.cell (w.heap.size) 1 (.int .i64 ra) (by repeat (first | with_reducible exact List.mem_cons_self | with_reducible apply List.mem_cons_of_mem))
  have ct2 := H.cell (w.heap.size) 2 (.int .i64 ki) (by repeat (first | with_reducible exact List.mem_cons_self | with_reducible apply List.mem_cons_of_mem))
  have ct3 := H.cell (w.heap.size) 3 (.int .i64 co) (by repeat (first | with_reducible exact List.mem_cons_self | with_reducible apply List.mem_cons_of_mem))
  have ct4 := H.cell (w.heap.size) 4 (.int .i64 st) (by repeat (first | with_reducible exact List.mem_cons_self | with_reducible apply List.mem_cons_of_mem))
  have ct5 := H.cell (w.heap.size) 5 (.int .i64 en) (by repeat (first | with_reducible exact List.mem_cons_self | with_reducible apply List.mem_cons_of_mem))
  have ct6 := H.cell (w.heap.size) 6 (.int .i64 ms) (by repeat (first | with_reducible exact List.mem_cons_self | with_reducible apply List.mem_cons_of_mem))
  have ct7 := H.cell (w.heap.size) 7 (.bool bk) (by repeat (first | with_reducible exact List.mem_cons_self | with_reducible apply List.mem_cons_of_mem))
  have ct8 := H.cell (w.heap.size) 8 (.bool lg) (by repeat (first | with_reducible exact List.mem_cons_self | with_reducible apply List.mem_cons_of_mem))
  have ct9 := H.cell (w.heap.size) 9 (.bool eo) (by repeat (first | with_reducible exact List.mem_cons_self | with_reducible apply List.mem_cons_of_mem))
  have ct10 := H.cell (w.heap.size) 10 (.int .i64 ro) (by repeat (first | with_reducible exact List.mem_cons_self | with_reducible apply List.mem_cons_of_mem))
  have lt := cell_lt ct0
  go_wp2_with fail
  clear ct0 ct1 ct2 ct3 ct4 ct5 ct6 ct7 ct8 ct9 ct10 lt
  (with_reducible refine (isday15 en true _ (H.factsT (by repeat (first | with_reducible exact List.mem_cons_self | with_reducible apply List.mem_cons_of_mem))) hs6.out).mono ?_)
  rintro e w6 ⟨rfl, hb⟩
  replace H := H.below hb
  clear hb
  obtain ⟨hg, b0, b1, b2, b3, s0, s1, s2, s3, ⟨h0, h1, h2, h3⟩, ⟨n01, n02, n03, n12, n13, n23⟩, r0, r1, r2, r3⟩ := H.errT (by repeat (first | with_reducible exact List.mem_cons_self | with_reducible apply List.mem_cons_of_mem))
  have l0 := cell_lt h0
  have l1 := cell_lt h1
  have l2 := cell_lt h2
  have l3 := cell_lt h3
  have ct0 := H.cell (w.heap.size) 0 (.int .i64 mo) (by repeat (first | with_reducible exact List.mem_cons_self | with_reducible apply List.mem_cons_of_mem))
  have ct1 := H.cell (w.heap.size) 1 (.int .i64 ra) (by repeat (first | with_reducible exact List.mem_cons_self | with_reducible apply List.mem_cons_of_mem))
  have ct2 := H.cell (w.heap.size) 2 (.int .i64 ki) (by repeat (first | with_reducible exact List.mem_cons_self | with_reducible apply List.mem_cons_of_mem))
  have ct3 := H.cell (w.heap.size) 3 (.int .i64 co) (by repeat (first | with_reducible exact List.mem_cons_self | with_reducible apply List.mem_cons_of_mem))
  have ct4 := H.cell (w.heap.size) 4 (.int .i64 st) (by repeat (first | with_reducible exact List.mem_cons_self | with_reducible apply List.mem_cons_of_mem))
  have ct5 := H.cell (w.heap.size) 5 (.int .i64 en) (by repeat (first | with_reducible exact List.mem_cons_self | with_reducible apply List.mem_cons_of_mem))
  have ct6 := H.cell (w.heap.size) 6 (.int .i64 ms) (by repeat (first | with_reducible exact List.mem_cons_self | with_reducible apply List.mem_cons_of_mem))
  have ct7 := H.cell (w.heap.size) 7 (.bool bk) (by repeat (first | with_reducible exact List.mem_cons_self | with_reducible apply List.mem_cons_of_mem))
  have ct8 := H.cell (w.heap.size) 8 (.bool lg) (by repeat (first | with_reducible exact List.mem_cons_self | with_reducible apply List.mem_cons_of_mem))
  have ct9 := H.cell (w.heap.size) 9 (.bool eo) (by repeat (first | with_reducible exact List.mem_cons_self | with_reducible apply List.mem_cons_of_mem))
  have ct10 := H.cell (w.heap.size) 10 (.int .i64 ro) (by repeat (first | with_reducible exact List.mem_cons_self | with_reducible apply List.mem_cons_of_mem))
  have lt := cell_lt ct0
  go_wp2_with fail
  clear ct0 ct1 ct2 ct3 ct4 ct5 ct6 ct7 ct8 ct9 ct10 lt
  go_ret
  exact ⟨⟨_, rfl⟩, H.old⟩

set_option maxHeartbeats 1000000 in
theorem fault_money (mo ra ki co st en ms : Int) (bk lg eo : Bool) (ro : Int) (a0 a1 a2 a3 : Addr) (S1 : ByteArray) (hs1 : tn ki = S1) (e1 : S1.toList.isEmpty = false) (S2 : ByteArray) (hs2 : nm co = S2) (e2 : S2.toList.isEmpty = false) (S3 : ByteArray) (hs3 : rn ro = S3) (e3 : S3.toList.isEmpty = false) (r4 : Int) (hs4 : fr ms = r4) (e4 : (r4 == 0) = false) (hs5 : decide (1 ≤ st ∧ st ≤ 3652059) = true) (hs6 : decide (1 ≤ en ∧ en ≤ 3652059) = true) (e7 : decide (st ≥ en) = false) (e8 : decide (mo < 1) = true) (w : World) (hL : FactsT w) (hE : ErrT a0 a1 a2 a3 w) : Calls Tryz.prog 39 #[.agg #[.int .i64 mo, .int .i64 ra, .int .i64 ki, .int .i64 co, .int .i64 st, .int .i64 en, .int .i64 ms, .bool bk, .bool lg, .bool eo, .int .i64 ro]] w fun e w' => (∃ s, e = .returned (.iface 83 (.agg #[.string s, .iface 210 (.pointer (some a3))]))) ∧ Below w.heap.size w w' := by
  have H := ((Held.start w).add (f := factsTF) hL).add (f := errTF a0 a1 a2 a3) hE
  clear hL hE
  replace hs1 := Lib.hid hs1
  replace hs2 := Lib.hid hs2
  replace hs3 := Lib.hid hs3
  replace hs4 := Lib.hid hs4
  replace hs5 := Lib.hid hs5
  replace hs6 := Lib.hid hs6
  go_enter Tryz.func39, Tryz.ntmps39
  go_wp2_with fail
  replace H := H.box_11 (w.heap.size) (.int .i64 mo) (.int .i64 ra) (.int .i64 ki) (.int .i64 co) (.int .i64 st) (.int .i64 en) (.int .i64 ms) (.bool bk) (.bool lg) (.bool eo) (.int .i64 ro) 23 rfl
  (with_reducible refine (tname15 ki S1 _ (H.factsT (by repeat (first | with_reducible exact List.mem_cons_self | with_reducible apply List.mem_cons_of_mem))) hs1.out).mono ?_)
  rintro e w1 ⟨rfl, hb⟩
  replace H := H.below hb
  clear hb
  have ct0 := H.cell (w.heap.size) 0 (.int .i64 mo) (by repeat (first | with_reducible exact List.mem_cons_self | with_reducible apply List.mem_cons_of_mem))
  have ct1 := H.cell (w.heap.size) 1 (.int .i64 ra) (by repeat (first | with_reducible exact List.mem_cons_self | with_reducible apply List.mem_cons_of_mem))
  have ct2 := H.cell (w.heap.size) 2 (.int .i64 ki) (by repeat (first | with_reducible exact List.mem_cons_self | with_reducible apply List.mem_cons_of_mem))
  have ct3 := H.cell (w.heap.size) 3 (.int .i64 co) (by repeat (first | with_reducible exact List.mem_cons_self | with_reducible apply List.mem_cons_of_mem))
  have ct4 := H.cell (w.heap.size) 4 (.int .i64 st) (by repeat (first | with_reducible exact List.mem_cons_self | with_reducible apply List.mem_cons_of_mem))
  have ct5 := H.cell (w.heap.size) 5 (.int .i64 en) (by repeat (first | with_reducible exact List.mem_cons_self | with_reducible apply List.mem_cons_of_mem))
  have ct6 := H.cell (w.heap.size) 6 (.int .i64 ms) (by repeat (first | with_reducible exact List.mem_cons_self | with_reducible apply List.mem_cons_of_mem))
  have ct7 := H.cell (w.heap.size) 7 (.bool bk) (by repeat (first | with_reducible exact List.mem_cons_self | with_reducible apply List.mem_cons_of_mem))
  have ct8 := H.cell (w.heap.size) 8 (.bool lg) (by repeat (first | with_reducible exact List.mem_cons_self | with_reducible apply List.mem_cons_of_mem))
  have ct9 := H.cell (w.heap.size) 9 (.bool eo) (by repeat (first | with_reducible exact List.mem_cons_self | with_reducible apply List.mem_cons_of_mem))
  have ct10 := H.cell (w.heap.size) 10 (.int .i64 ro) (by repeat (first | with_reducible exact List.mem_cons_self | with_reducible apply List.mem_cons_of_mem))
  have lt := cell_lt ct0
  go_wp2_with fail
  clear ct0 ct1 ct2 ct3 ct4 ct5 ct6 ct7 ct8 ct9 ct10 lt
  (with_reducible refine (cname_is co S2 _ hs2.out).mono ?_)
  rintro e w2 ⟨rfl, hb⟩
  replace H := H.below hb
  clear hb
  have ct0 := H.cell (w.heap.size) 0 (.int .i64 mo) (by repeat (first | with_reducible exact List.mem_cons_self | with_reducible apply List.mem_cons_of_mem))
  have ct1 := H.cell (w.heap.size) 1 (.int .i64 ra) (by repeat (first | with_reducible exact List.mem_cons_self | with_reducible apply List.mem_cons_of_mem))
  have ct2 := H.cell (w.heap.size) 2 (.int .i64 ki) (by repeat (first | with_reducible exact List.mem_cons_self | with_reducible apply List.mem_cons_of_mem))
  have ct3 := H.cell (w.heap.size) 3 (.int .i64 co) (by repeat (first | with_reducible exact List.mem_cons_self | with_reducible apply List.mem_cons_of_mem))
  have ct4 := H.cell (w.heap.size) 4 (.int .i64 st) (by repeat (first | with_reducible exact List.mem_cons_self | with_reducible apply List.mem_cons_of_mem))
  have ct5 := H.cell (w.heap.size) 5 (.int .i64 en) (by repeat (first | with_reducible exact List.mem_cons_self | with_reducible apply List.mem_cons_of_mem))
  have ct6 := H.cell (w.heap.size) 6 (.int .i64 ms) (by repeat (first | with_reducible exact List.mem_cons_self | with_reducible apply List.mem_cons_of_mem))
  have ct7 := H.cell (w.heap.size) 7 (.bool bk) (by repeat (first | with_reducible exact List.mem_cons_self | with_reducible apply List.mem_cons_of_mem))
  have ct8 := H.cell (w.heap.size) 8 (.bool lg) (by repeat (first | with_reducible exact List.mem_cons_self | with_reducible apply List.mem_cons_of_mem))
  have ct9 := H.cell (w.heap.size) 9 (.bool eo) (by repeat (first | with_reducible exact List.mem_cons_self | with_reducible apply List.mem_cons_of_mem))
  have ct10 := H.cell (w.heap.size) 10 (.int .i64 ro) (by repeat (first | with_reducible exact List.mem_cons_self | with_reducible apply List.mem_cons_of_mem))
  have lt := cell_lt ct0
  go_wp2_with fail
  clear ct0 ct1 ct2 ct3 ct4 ct5 ct6 ct7 ct8 ct9 ct10 lt
  (with_reducible refine (rlname15 ro S3 _ (H.factsT (by repeat (first | with_reducible exact List.mem_cons_self | with_reducible apply List.mem_cons_of_mem))) hs3.out).mono ?_)
  rintro e w3 ⟨rfl, hb⟩
  replace H := H.below hb
  clear hb
  have ct0 := H.cell (w.heap.size) 0 (.int .i64 mo) (by repeat (first | with_reducible exact List.mem_cons_self | with_reducible apply List.mem_cons_of_mem))
  have ct1 := H.cell (w.heap.size) 1 (.int .i64 ra) (by repeat (first | with_reducible exact List.mem_cons_self | with_reducible apply List.mem_cons_of_mem))
  have ct2 := H.cell (w.heap.size) 2 (.int .i64 ki) (by repeat (first | with_reducible exact List.mem_cons_self | with_reducible apply List.mem_cons_of_mem))
  have ct3 := H.cell (w.heap.size) 3 (.int .i64 co) (by repeat (first | with_reducible exact List.mem_cons_self | with_reducible apply List.mem_cons_of_mem))
  have ct4 := H.cell (w.heap.size) 4 (.int .i64 st) (by repeat (first | with_reducible exact List.mem_cons_self | with_reducible apply List.mem_cons_of_mem))
  have ct5 := H.cell (w.heap.size) 5 (.int .i64 en) (by repeat (first | with_reducible exact List.mem_cons_self | with_reducible apply List.mem_cons_of_mem))
  have ct6 := H.cell (w.heap.size) 6 (.int .i64 ms) (by repeat (first | with_reducible exact List.mem_cons_self | with_reducible apply List.mem_cons_of_mem))
  have ct7 := H.cell (w.heap.size) 7 (.bool bk) (by repeat (first | with_reducible exact List.mem_cons_self | with_reducible apply List.mem_cons_of_mem))
  have ct8 := H.cell (w.heap.size) 8 (.bool lg) (by repeat (first | with_reducible exact List.mem_cons_self | with_reducible apply List.mem_cons_of_mem))
  have ct9 := H.cell (w.heap.size) 9 (.bool eo) (by repeat (first | with_reducible exact List.mem_cons_self | with_reducible apply List.mem_cons_of_mem))
  have ct10 := H.cell (w.heap.size) 10 (.int .i64 ro) (by repeat (first | with_reducible exact List.mem_cons_self | with_reducible apply List.mem_cons_of_mem))
  have lt := cell_lt ct0
  go_wp2_with fail
  clear ct0 ct1 ct2 ct3 ct4 ct5 ct6 ct7 ct8 ct9 ct10 lt
  (with_reducible refine (tfreq15 ms r4 _ hs4.out).mono ?_)
  rintro e w4 ⟨rfl, hb⟩
  replace H := H.below hb
  clear hb
  have ct0 := H.cell (w.heap.size) 0 (.int .i64 mo) (by repeat (first | with_reducible exact List.mem_cons_self | with_reducible apply List.mem_cons_of_mem))
  have ct1 := H.cell (w.heap.size) 1 (.int .i64 ra) (by repeat (first | with_reducible exact List.mem_cons_self | with_reducible apply List.mem_cons_of_mem))
  have ct2 := H.cell (w.heap.size) 2 (.int .i64 ki) (by repeat (first | with_reducible exact List.mem_cons_self | with_reducible apply List.mem_cons_of_mem))
  have ct3 := H.cell (w.heap.size) 3 (.int .i64 co) (by repeat (first | with_reducible exact List.mem_cons_self | with_reducible apply List.mem_cons_of_mem))
  have ct4 := H.cell (w.heap.size) 4 (.int .i64 st) (by repeat (first | with_reducible exact List.mem_cons_self | with_reducible apply List.mem_cons_of_mem))
  have ct5 := H.cell (w.heap.size) 5 (.int .i64 en) (by repeat (first | with_reducible exact List.mem_cons_self | with_reducible apply List.mem_cons_of_mem))
  have ct6 := H.cell (w.heap.size) 6 (.int .i64 ms) (by repeat (first | with_reducible exact List.mem_cons_self | with_reducible apply List.mem_cons_of_mem))
  have ct7 := H.cell (w.heap.size) 7 (.bool bk) (by repeat (first | with_reducible exact List.mem_cons_self | with_reducible apply List.mem_cons_of_mem))
  have ct8 := H.cell (w.heap.size) 8 (.bool lg) (by repeat (first | with_reducible exact List.mem_cons_self | with_reducible apply List.mem_cons_of_mem))
  have ct9 := H.cell (w.heap.size) 9 (.bool eo) (by repeat (first | with_reducible exact List.mem_cons_self | with_reducible apply List.mem_cons_of_mem))
  have ct10 := H.cell (w.heap.size) 10 (.int .i64 ro) (by repeat (first | with_reducible exact List.mem_cons_self | with_reducible apply List.mem_cons_of_mem))
  have lt := cell_lt ct0
  go_wp2_with fail
  clear ct0 ct1 ct2 ct3 ct4 ct5 ct6 ct7 ct8 ct9 ct10 lt
  (with_reducible refine (isday15 st true _ (H.factsT (by repeat (first | with_reducible exact List.mem_cons_self | with_reducible apply List.mem_cons_of_mem))) hs5.out).mono ?_)
  rintro e w5 ⟨rfl, hb⟩
  replace H := H.below hb
  clear hb
  have ct0 := H.cell (w.heap.size) 0 (.int .i64 mo) (by repeat (first | with_reducible exact List.mem_cons_self | with_reducible apply List.mem_cons_of_mem))
  have ct1 := H.cell (w.heap.size) 1 (.int .i64 ra) (by repeat (first | with_reducible exact List.mem_cons_self | with_reducible apply List.mem_cons_of_mem))
  have ct2 := H.cell (w.heap.size) 2 (.int .i64 ki) (by repeat (first | with_reducible exact List.mem_cons_self | with_reducible apply List.mem_cons_of_mem))
  have ct3 := H.cell (w.heap.size) 3 (.int .i64 co) (by repeat (first | with_reducible exact List.mem_cons_self | with_reducible apply List.mem_cons_of_mem))
  have ct4 := H.cell (w.heap.size) 4 (.int .i64 st) (by repeat (first | with_reducible exact List.mem_cons_self | with_reducible apply List.mem_cons_of_mem))
  have ct5 := H.cell (w.heap.size) 5 (.int .i64 en) (by repeat (first | with_reducible exact List.mem_cons_self | with_reducible apply List.mem_cons_of_mem))
  have ct6 := H.cell (w.heap.size) 6 (.int .i64 ms) (by repeat (first | with_reducible exact List.mem_cons_self | with_reducible apply List.mem_cons_of_mem))
  have ct7 := H.cell (w.heap.size) 7 (.bool bk) (by repeat (first | with_reducible exact List.mem_cons_self | with_reducible apply List.mem_cons_of_mem))
  have ct8 := H.cell (w.heap.size) 8 (.bool lg) (by repeat (first | with_reducible exact List.mem_cons_self | with_reducible apply List.mem_cons_of_mem))
  have ct9 := H.cell (w.heap.size) 9 (.bool eo) (by repeat (first | with_reducible exact List.mem_cons_self | with_reducible apply List.mem_cons_of_mem))
  have ct10 := H.cell (w.heap.size) 10 (.int .i64 ro) (by repeat (first | with_reducible exact List.mem_cons_self | with_reducible apply List.mem_cons_of_mem))
  have lt := cell_lt ct0
  go_wp2_with fail
  clear ct0 ct1 ct2 ct3 ct4 ct5 ct6 ct7 ct8 ct9 ct10 lt
  (with_reducible refine (isday15 en true _ (H.factsT (by repeat (first | with_reducible exact List.mem_cons_self | with_reducible apply List.mem_cons_of_mem))) hs6.out).mono ?_)
  rintro e w6 ⟨rfl, hb⟩
  replace H := H.below hb
  clear hb
  obtain ⟨hg, b0, b1, b2, b3, s0, s1, s2, s3, ⟨h0, h1, h2, h3⟩, ⟨n01, n02, n03, n12, n13, n23⟩, r0, r1, r2, r3⟩ := H.errT (by repeat (first | with_reducible exact List.mem_cons_self | with_reducible apply List.mem_cons_of_mem))
  have l0 := cell_lt h0
  have l1 := cell_lt h1
  have l2 := cell_lt h2
  have l3 := cell_lt h3
  have ct0 := H.cell (w.heap.size) 0 (.int .i64 mo) (by repeat (first | with_reducible exact List.mem_cons_self | with_reducible apply List.mem_cons_of_mem))
  have ct1 := H.cell (w.heap.size) 1 (.int .i64 ra) (by repeat (first | with_reducible exact List.mem_cons_self | with_reducible apply List.mem_cons_of_mem))
  have ct2 := H.cell (w.heap.size) 2 (.int .i64 ki) (by repeat (first | with_reducible exact List.mem_cons_self | with_reducible apply List.mem_cons_of_mem))
  have ct3 := H.cell (w.heap.size) 3 (.int .i64 co) (by repeat (first | with_reducible exact List.mem_cons_self | with_reducible apply List.mem_cons_of_mem))
  have ct4 := H.cell (w.heap.size) 4 (.int .i64 st) (by repeat (first | with_reducible exact List.mem_cons_self | with_reducible apply List.mem_cons_of_mem))
  have ct5 := H.cell (w.heap.size) 5 (.int .i64 en) (by repeat (first | with_reducible exact List.mem_cons_self | with_reducible apply List.mem_cons_of_mem))
  have ct6 := H.cell (w.heap.size) 6 (.int .i64 ms) (by repeat (first | with_reducible exact List.mem_cons_self | with_reducible apply List.mem_cons_of_mem))
  have ct7 := H.cell (w.heap.size) 7 (.bool bk) (by repeat (first | with_reducible exact List.mem_cons_self | with_reducible apply List.mem_cons_of_mem))
  have ct8 := H.cell (w.heap.size) 8 (.bool lg) (by repeat (first | with_reducible exact List.mem_cons_self | with_reducible apply List.mem_cons_of_mem))
  have ct9 := H.cell (w.heap.size) 9 (.bool eo) (by repeat (first | with_reducible exact List.mem_cons_self | with_reducible apply List.mem_cons_of_mem))
  have ct10 := H.cell (w.heap.size) 10 (.int .i64 ro) (by repeat (first | with_reducible exact List.mem_cons_self | with_reducible apply List.mem_cons_of_mem))
  have lt := cell_lt ct0
  go_wp2_with fail
  clear ct0 ct1 ct2 ct3 ct4 ct5 ct6 ct7 ct8 ct9 ct10 lt
  go_ret
  exact ⟨⟨_, rfl⟩, H.old⟩

set_option maxHeartbeats 1000000 in
theorem fault_money2 (mo ra ki co st en ms : Int) (bk lg eo : Bool) (ro : Int) (a0 a1 a2 a3 : Addr) (S1 : ByteArray) (hs1 : tn ki = S1) (e1 : S1.toList.isEmpty = false) (S2 : ByteArray) (hs2 : nm co = S2) (e2 : S2.toList.isEmpty = false) (S3 : ByteArray) (hs3 : rn ro = S3) (e3 : S3.toList.isEmpty = false) (r4 : Int) (hs4 : fr ms = r4) (e4 : (r4 == 0) = false) (hs5 : decide (1 ≤ st ∧ st ≤ 3652059) = true) (hs6 : decide (1 ≤ en ∧ en ≤ 3652059) = true) (e7 : decide (st ≥ en) = false) (e8 : decide (mo < 1) = false) (e9 : decide (mo > 1000000000000000) = true) (w : World) (hL : FactsT w) (hE : ErrT a0 a1 a2 a3 w) : Calls Tryz.prog 39 #[.agg #[.int .i64 mo, .int .i64 ra, .int .i64 ki, .int .i64 co, .int .i64 st, .int .i64 en, .int .i64 ms, .bool bk, .bool lg, .bool eo, .int .i64 ro]] w fun e w' => (∃ s, e = .returned (.iface 83 (.agg #[.string s, .iface 210 (.pointer (some a3))]))) ∧ Below w.heap.size w w' := by
  have H := ((Held.start w).add (f := factsTF) hL).add (f := errTF a0 a1 a2 a3) hE
  clear hL hE
  replace hs1 := Lib.hid hs1
  replace hs2 := Lib.hid hs2
  replace hs3 := Lib.hid hs3
  replace hs4 := Lib.hid hs4
  replace hs5 := Lib.hid hs5
  replace hs6 := Lib.hid hs6
  go_enter Tryz.func39, Tryz.ntmps39
  go_wp2_with fail
  replace H := H.box_11 (w.heap.size) (.int .i64 mo) (.int .i64 ra) (.int .i64 ki) (.int .i64 co) (.int .i64 st) (.int .i64 en) (.int .i64 ms) (.bool bk) (.bool lg) (.bool eo) (.int .i64 ro) 23 rfl
  (with_reducible refine (tname15 ki S1 _ (H.factsT (by repeat (first | with_reducible exact List.mem_cons_self | with_reducible apply List.mem_cons_of_mem))) hs1.out).mono ?_)
  rintro e w1 ⟨rfl, hb⟩
  replace H := H.below hb
  clear hb
  have ct0 := H.cell (w.heap.size) 0 (.int .i64 mo) (by repeat (first | with_reducible exact List.mem_cons_self | with_reducible apply List.mem_cons_of_mem))
  have ct1 := H.cell (w.heap.size) 1 (.int .i64 ra) (by repeat (first | with_reducible exact List.mem_cons_self | with_reducible apply List.mem_cons_of_mem))
  have ct2 := H.cell (w.heap.size) 2 (.int .i64 ki) (by repeat (first | with_reducible exact List.mem_cons_self | with_reducible apply List.mem_cons_of_mem))
  have ct3 := H.cell (w.heap.size) 3 (.int .i64 co) (by repeat (first | with_reducible exact List.mem_cons_self | with_reducible apply List.mem_cons_of_mem))
  have ct4 := H.cell (w.heap.size) 4 (.int .i64 st) (by repeat (first | with_reducible exact List.mem_cons_self | with_reducible apply List.mem_cons_of_mem))
  have ct5 := H.cell (w.heap.size) 5 (.int .i64 en) (by repeat (first | with_reducible exact List.mem_cons_self | with_reducible apply List.mem_cons_of_mem))
  have ct6 := H.cell (w.heap.size) 6 (.int .i64 ms) (by repeat (first | with_reducible exact List.mem_cons_self | with_reducible apply List.mem_cons_of_mem))
  have ct7 := H.cell (w.heap.size) 7 (.bool bk) (by repeat (first | with_reducible exact List.mem_cons_self | with_reducible apply List.mem_cons_of_mem))
  have ct8 := H.cell (w.heap.size) 8 (.bool lg) (by repeat (first | with_reducible exact List.mem_cons_self | with_reducible apply List.mem_cons_of_mem))
  have ct9 := H.cell (w.heap.size) 9 (.bool eo) (by repeat (first | with_reducible exact List.mem_cons_self | with_reducible apply List.mem_cons_of_mem))
  have ct10 := H.cell (w.heap.size) 10 (.int .i64 ro) (by repeat (first | with_reducible exact List.mem_cons_self | with_reducible apply List.mem_cons_of_mem))
  have lt := cell_lt ct0
  go_wp2_with fail
  clear ct0 ct1 ct2 ct3 ct4 ct5 ct6 ct7 ct8 ct9 ct10 lt
  (with_reducible refine (cname_is co S2 _ hs2.out).mono ?_)
  rintro e w2 ⟨rfl, hb⟩
  replace H := H.below hb
  clear hb
  have ct0 := H.cell (w.heap.size) 0 (.int .i64 mo) (by repeat (first | with_reducible exact List.mem_cons_self | with_reducible apply List.mem_cons_of_mem))
  have ct1 := H.cell (w.heap.size) 1 (.int .i64 ra) (by repeat (first | with_reducible exact List.mem_cons_self | with_reducible apply List.mem_cons_of_mem))
  have ct2 := H.cell (w.heap.size) 2 (.int .i64 ki) (by repeat (first | with_reducible exact List.mem_cons_self | with_reducible apply List.mem_cons_of_mem))
  have ct3 := H.cell (w.heap.size) 3 (.int .i64 co) (by repeat (first | with_reducible exact List.mem_cons_self | with_reducible apply List.mem_cons_of_mem))
  have ct4 := H.cell (w.heap.size) 4 (.int .i64 st) (by repeat (first | with_reducible exact List.mem_cons_self | with_reducible apply List.mem_cons_of_mem))
  have ct5 := H.cell (w.heap.size) 5 (.int .i64 en) (by repeat (first | with_reducible exact List.mem_cons_self | with_reducible apply List.mem_cons_of_mem))
  have ct6 := H.cell (w.heap.size) 6 (.int .i64 ms) (by repeat (first | with_reducible exact List.mem_cons_self | with_reducible apply List.mem_cons_of_mem))
  have ct7 := H.cell (w.heap.size) 7 (.bool bk) (by repeat (first | with_reducible exact List.mem_cons_self | with_reducible apply List.mem_cons_of_mem))
  have ct8 := H.cell (w.heap.size) 8 (.bool lg) (by repeat (first | with_reducible exact List.mem_cons_self | with_reducible apply List.mem_cons_of_mem))
  have ct9 := H.cell (w.heap.size) 9 (.bool eo) (by repeat (first | with_reducible exact List.mem_cons_self | with_reducible apply List.mem_cons_of_mem))
  have ct10 := H.cell (w.heap.size) 10 (.int .i64 ro) (by repeat (first | with_reducible exact List.mem_cons_self | with_reducible apply List.mem_cons_of_mem))
  have lt := cell_lt ct0
  go_wp2_with fail
  clear ct0 ct1 ct2 ct3 ct4 ct5 ct6 ct7 ct8 ct9 ct10 lt
  (with_reducible refine (rlname15 ro S3 _ (H.factsT (by repeat (first | with_reducible exact List.mem_cons_self | with_reducible apply List.mem_cons_of_mem))) hs3.out).mono ?_)
  rintro e w3 ⟨rfl, hb⟩
  replace H := H.below hb
  clear hb
  have ct0 := H.cell (w.heap.size) 0 (.int .i64 mo) (by repeat (first | with_reducible exact List.mem_cons_self | with_reducible apply List.mem_cons_of_mem))
  have ct1 := H.cell (w.heap.size) 1 (.int .i64 ra) (by repeat (first | with_reducible exact List.mem_cons_self | with_reducible apply List.mem_cons_of_mem))
  have ct2 := H.cell (w.heap.size) 2 (.int .i64 ki) (by repeat (first | with_reducible exact List.mem_cons_self | with_reducible apply List.mem_cons_of_mem))
  have ct3 := H.cell (w.heap.size) 3 (.int .i64 co) (by repeat (first | with_reducible exact List.mem_cons_self | with_reducible apply List.mem_cons_of_mem))
  have ct4 := H.cell (w.heap.size) 4 (.int .i64 st) (by repeat (first | with_reducible exact List.mem_cons_self | with_reducible apply List.mem_cons_of_mem))
  have ct5 := H.cell (w.heap.size) 5 (.int .i64 en) (by repeat (first | with_reducible exact List.mem_cons_self | with_reducible apply List.mem_cons_of_mem))
  have ct6 := H.cell (w.heap.size) 6 (.int .i64 ms) (by repeat (first | with_reducible exact List.mem_cons_self | with_reducible apply List.mem_cons_of_mem))
  have ct7 := H.cell (w.heap.size) 7 (.bool bk) (by repeat (first | with_reducible exact List.mem_cons_self | with_reducible apply List.mem_cons_of_mem))
  have ct8 := H.cell (w.heap.size) 8 (.bool lg) (by repeat (first | with_reducible exact List.mem_cons_self | with_reducible apply List.mem_cons_of_mem))
  have ct9 := H.cell (w.heap.size) 9 (.bool eo) (by repeat (first | with_reducible exact List.mem_cons_self | with_reducible apply List.mem_cons_of_mem))
  have ct10 := H.cell (w.heap.size) 10 (.int .i64 ro) (by repeat (first | with_reducible exact List.mem_cons_self | with_reducible apply List.mem_cons_of_mem))
  have lt := cell_lt ct0
  go_wp2_with fail
  clear ct0 ct1 ct2 ct3 ct4 ct5 ct6 ct7 ct8 ct9 ct10 lt
  (with_reducible refine (tfreq15 ms r4 _ hs4.out).mono ?_)
  rintro e w4 ⟨rfl, hb⟩
  replace H := H.below hb
  clear hb
  have ct0 := H.cell (w.heap.size) 0 (.int .i64 mo) (by repeat (first | with_reducible exact List.mem_cons_self | with_reducible apply List.mem_cons_of_mem))
  have ct1 := H.cell (w.heap.size) 1 (.int .i64 ra) (by repeat (first | with_reducible exact List.mem_cons_self | with_reducible apply List.mem_cons_of_mem))
  have ct2 := H.cell (w.heap.size) 2 (.int .i64 ki) (by repeat (first | with_reducible exact List.mem_cons_self | with_reducible apply List.mem_cons_of_mem))
  have ct3 := H.cell (w.heap.size) 3 (.int .i64 co) (by repeat (first | with_reducible exact List.mem_cons_self | with_reducible apply List.mem_cons_of_mem))
  have ct4 := H.cell (w.heap.size) 4 (.int .i64 st) (by repeat (first | with_reducible exact List.mem_cons_self | with_reducible apply List.mem_cons_of_mem))
  have ct5 := H.cell (w.heap.size) 5 (.int .i64 en) (by repeat (first | with_reducible exact List.mem_cons_self | with_reducible apply List.mem_cons_of_mem))
  have ct6 := H.cell (w.heap.size) 6 (.int .i64 ms) (by repeat (first | with_reducible exact List.mem_cons_self | with_reducible apply List.mem_cons_of_mem))
  have ct7 := H.cell (w.heap.size) 7 (.bool bk) (by repeat (first | with_reducible exact List.mem_cons_self | with_reducible apply List.mem_cons_of_mem))
  have ct8 := H.cell (w.heap.size) 8 (.bool lg) (by repeat (first | with_reducible exact List.mem_cons_self | with_reducible apply List.mem_cons_of_mem))
  have ct9 := H.cell (w.heap.size) 9 (.bool eo) (by repeat (first | with_reducible exact List.mem_cons_self | with_reducible apply List.mem_cons_of_mem))
  have ct10 := H.cell (w.heap.size) 10 (.int .i64 ro) (by repeat (first | with_reducible exact List.mem_cons_self | with_reducible apply List.mem_cons_of_mem))
  have lt := cell_lt ct0
  go_wp2_with fail
  clear ct0 ct1 ct2 ct3 ct4 ct5 ct6 ct7 ct8 ct9 ct10 lt
  (with_reducible refine (isday15 st true _ (H.factsT (by repeat (first | with_reducible exact List.mem_cons_self | with_reducible apply List.mem_cons_of_mem))) hs5.out).mono ?_)
  rintro e w5 ⟨rfl, hb⟩
  replace H := H.below hb
  clear hb
  have ct0 := H.cell (w.heap.size) 0 (.int .i64 mo) (by repeat (first | with_reducible exact List.mem_cons_self | with_reducible apply List.mem_cons_of_mem))
  have ct1 := H.cell (w.heap.size) 1 (.int .i64 ra) (by repeat (first | with_reducible exact List.mem_cons_self | with_reducible apply List.mem_cons_of_mem))
  have ct2 := H.cell (w.heap.size) 2 (.int .i64 ki) (by repeat (first | with_reducible exact List.mem_cons_self | with_reducible apply List.mem_cons_of_mem))
  have ct3 := H.cell (w.heap.size) 3 (.int .i64 co) (by repeat (first | with_reducible exact List.mem_cons_self | with_reducible apply List.mem_cons_of_mem))
  have ct4 := H.cell (w.heap.size) 4 (.int .i64 st) (by repeat (first | with_reducible exact List.mem_cons_self | with_reducible apply List.mem_cons_of_mem))
  have ct5 := H.cell (w.heap.size) 5 (.int .i64 en) (by repeat (first | with_reducible exact List.mem_cons_self | with_reducible apply List.mem_cons_of_mem))
  have ct6 := H.cell (w.heap.size) 6 (.int .i64 ms) (by repeat (first | with_reducible exact List.mem_cons_self | with_reducible apply List.mem_cons_of_mem))
  have ct7 := H.cell (w.heap.size) 7 (.bool bk) (by repeat (first | with_reducible exact List.mem_cons_self | with_reducible apply List.mem_cons_of_mem))
  have ct8 := H.cell (w.heap.size) 8 (.bool lg) (by repeat (first | with_reducible exact List.mem_cons_self | with_reducible apply List.mem_cons_of_mem))
  have ct9 := H.cell (w.heap.size) 9 (.bool eo) (by repeat (first | with_reducible exact List.mem_cons_self | with_reducible apply List.mem_cons_of_mem))
  have ct10 := H.cell (w.heap.size) 10 (.int .i64 ro) (by repeat (first | with_reducible exact List.mem_cons_self | with_reducible apply List.mem_cons_of_mem))
  have lt := cell_lt ct0
  go_wp2_with fail
  clear ct0 ct1 ct2 ct3 ct4 ct5 ct6 ct7 ct8 ct9 ct10 lt
  (with_reducible refine (isday15 en true _ (H.factsT (by repeat (first | with_reducible exact List.mem_cons_self | with_reducible apply List.mem_cons_of_mem))) hs6.out).mono ?_)
  rintro e w6 ⟨rfl, hb⟩
  replace H := H.below hb
  clear hb
  obtain ⟨hg, b0, b1, b2, b3, s0, s1, s2, s3, ⟨h0, h1, h2, h3⟩, ⟨n01, n02, n03, n12, n13, n23⟩, r0, r1, r2, r3⟩ := H.errT (by repeat (first | with_reducible exact List.mem_cons_self | with_reducible apply List.mem_cons_of_mem))
  have l0 := cell_lt h0
  have l1 := cell_lt h1
  have l2 := cell_lt h2
  have l3 := cell_lt h3
  have ct0 := H.cell (w.heap.size) 0 (.int .i64 mo) (by repeat (first | with_reducible exact List.mem_cons_self | with_reducible apply List.mem_cons_of_mem))
  have ct1 := H.cell (w.heap.size) 1 (.int .i64 ra) (by repeat (first | with_reducible exact List.mem_cons_self | with_reducible apply List.mem_cons_of_mem))
  have ct2 := H.cell (w.heap.size) 2 (.int .i64 ki) (by repeat (first | with_reducible exact List.mem_cons_self | with_reducible apply List.mem_cons_of_mem))
  have ct3 := H.cell (w.heap.size) 3 (.int .i64 co) (by repeat (first | with_reducible exact List.mem_cons_self | with_reducible apply List.mem_cons_of_mem))
  have ct4 := H.cell (w.heap.size) 4 (.int .i64 st) (by repeat (first | with_reducible exact List.mem_cons_self | with_reducible apply List.mem_cons_of_mem))
  have ct5 := H.cell (w.heap.size) 5 (.int .i64 en) (by repeat (first | with_reducible exact List.mem_cons_self | with_reducible apply List.mem_cons_of_mem))
  have ct6 := H.cell (w.heap.size) 6 (.int .i64 ms) (by repeat (first | with_reducible exact List.mem_cons_self | with_reducible apply List.mem_cons_of_mem))
  have ct7 := H.cell (w.heap.size) 7 (.bool bk) (by repeat (first | with_reducible exact List.mem_cons_self | with_reducible apply List.mem_cons_of_mem))
  have ct8 := H.cell (w.heap.size) 8 (.bool lg) (by repeat (first | with_reducible exact List.mem_cons_self | with_reducible apply List.mem_cons_of_mem))
  have ct9 := H.cell (w.heap.size) 9 (.bool eo) (by repeat (first | with_reducible exact List.mem_cons_self | with_reducible apply List.mem_cons_of_mem))
  have ct10 := H.cell (w.heap.size) 10 (.int .i64 ro) (by repeat (first | with_reducible exact List.mem_cons_self | with_reducible apply List.mem_cons_of_mem))
  have lt := cell_lt ct0
  go_wp2_with fail
  clear ct0 ct1 ct2 ct3 ct4 ct5 ct6 ct7 ct8 ct9 ct10 lt
  go_ret
  exact ⟨⟨_, rfl⟩, H.old⟩

set_option maxHeartbeats 1000000 in
theorem fault_rate (mo ra ki co st en ms : Int) (bk lg eo : Bool) (ro : Int) (a0 a1 a2 a3 : Addr) (S1 : ByteArray) (hs1 : tn ki = S1) (e1 : S1.toList.isEmpty = false) (S2 : ByteArray) (hs2 : nm co = S2) (e2 : S2.toList.isEmpty = false) (S3 : ByteArray) (hs3 : rn ro = S3) (e3 : S3.toList.isEmpty = false) (r4 : Int) (hs4 : fr ms = r4) (e4 : (r4 == 0) = false) (hs5 : decide (1 ≤ st ∧ st ≤ 3652059) = true) (hs6 : decide (1 ≤ en ∧ en ≤ 3652059) = true) (e7 : decide (st ≥ en) = false) (e8 : decide (mo < 1) = false) (e9 : decide (mo > 1000000000000000) = false) (e10 : decide (ra < 0) = true) (w : World) (hL : FactsT w) (hE : ErrT a0 a1 a2 a3 w) : Calls Tryz.prog 39 #[.agg #[.int .i64 mo, .int .i64 ra, .int .i64 ki, .int .i64 co, .int .i64 st, .int .i64 en, .int .i64 ms, .bool bk, .bool lg, .bool eo, .int .i64 ro]] w fun e w' => (∃ s, e = .returned (.iface 83 (.agg #[.string s, .iface 210 (.pointer (some a3))]))) ∧ Below w.heap.size w w' := by
  have H := ((Held.start w).add (f := factsTF) hL).add (f := errTF a0 a1 a2 a3) hE
  clear hL hE
  replace hs1 := Lib.hid hs1
  replace hs2 := Lib.hid hs2
  replace hs3 := Lib.hid hs3
  replace hs4 := Lib.hid hs4
  replace hs5 := Lib.hid hs5
  replace hs6 := Lib.hid hs6
  go_enter Tryz.func39, Tryz.ntmps39
  go_wp2_with fail
  replace H := H.box_11 (w.heap.size) (.int .i64 mo) (.int .i64 ra) (.int .i64 ki) (.int .i64 co) (.int .i64 st) (.int .i64 en) (.int .i64 ms) (.bool bk) (.bool lg) (.bool eo) (.int .i64 ro) 23 rfl
  (with_reducible refine (tname15 ki S1 _ (H.factsT (by repeat (first | with_reducible exact List.mem_cons_self | with_reducible apply List.mem_cons_of_mem))) hs1.out).mono ?_)
  rintro e w1 ⟨rfl, hb⟩
  replace H := H.below hb
  clear hb
  have ct0 := H.cell (w.heap.size) 0 (.int .i64 mo) (by repeat (first | with_reducible exact List.mem_cons_self | with_reducible apply List.mem_cons_of_mem))
  have ct1 := H.cell (w.heap.size) 1 (.int .i64 ra) (by repeat (first | with_reducible exact List.mem_cons_self | with_reducible apply List.mem_cons_of_mem))
  have ct2 := H.cell (w.heap.size) 2 (.int .i64 ki) (by repeat (first | with_reducible exact List.mem_cons_self | with_reducible apply List.mem_cons_of_mem))
  have ct3 := H.cell (w.heap.size) 3 (.int .i64 co) (by repeat (first | with_reducible exact List.mem_cons_self | with_reducible apply List.mem_cons_of_mem))
  have ct4 := H.cell (w.heap.size) 4 (.int .i64 st) (by repeat (first | with_reducible exact List.mem_cons_self | with_reducible apply List.mem_cons_of_mem))
  have ct5 := H.cell (w.heap.size) 5 (.int .i64 en) (by repeat (first | with_reducible exact List.mem_cons_self | with_reducible apply List.mem_cons_of_mem))
  have ct6 := H.cell (w.heap.size) 6 (.int .i64 ms) (by repeat (first | with_reducible exact List.mem_cons_self | with_reducible apply List.mem_cons_of_mem))
  have ct7 := H.cell (w.heap.size) 7 (.bool bk) (by repeat (first | with_reducible exact List.mem_cons_self | with_reducible apply List.mem_cons_of_mem))
  have ct8 := H.cell (w.heap.size) 8 (.bool lg) (by repeat (first | with_reducible exact List.mem_cons_self | with_reducible apply List.mem_cons_of_mem))
  have ct9 := H.cell (w.heap.size) 9 (.bool eo) (by repeat (first | with_reducible exact List.mem_cons_self | with_reducible apply List.mem_cons_of_mem))
  have ct10 := H.cell (w.heap.size) 10 (.int .i64 ro) (by repeat (first | with_reducible exact List.mem_cons_self | with_reducible apply List.mem_cons_of_mem))
  have lt := cell_lt ct0
  go_wp2_with fail
  clear ct0 ct1 ct2 ct3 ct4 ct5 ct6 ct7 ct8 ct9 ct10 lt
  (with_reducible refine (cname_is co S2 _ hs2.out).mono ?_)
  rintro e w2 ⟨rfl, hb⟩
  replace H := H.below hb
  clear hb
  have ct0 := H.cell (w.heap.size) 0 (.int .i64 mo) (by repeat (first | with_reducible exact List.mem_cons_self | with_reducible apply List.mem_cons_of_mem))
  have ct1 := H.cell (w.heap.size) 1 (.int .i64 ra) (by repeat (first | with_reducible exact List.mem_cons_self | with_reducible apply List.mem_cons_of_mem))
  have ct2 := H.cell (w.heap.size) 2 (.int .i64 ki) (by repeat (first | with_reducible exact List.mem_cons_self | with_reducible apply List.mem_cons_of_mem))
  have ct3 := H.cell (w.heap.size) 3 (.int .i64 co) (by repeat (first | with_reducible exact List.mem_cons_self | with_reducible apply List.mem_cons_of_mem))
  have ct4 := H.cell (w.heap.size) 4 (.int .i64 st) (by repeat (first | with_reducible exact List.mem_cons_self | with_reducible apply List.mem_cons_of_mem))
  have ct5 := H.cell (w.heap.size) 5 (.int .i64 en) (by repeat (first | with_reducible exact List.mem_cons_self | with_reducible apply List.mem_cons_of_mem))
  have ct6 := H.cell (w.heap.size) 6 (.int .i64 ms) (by repeat (first | with_reducible exact List.mem_cons_self | with_reducible apply List.mem_cons_of_mem))
  have ct7 := H.cell (w.heap.size) 7 (.bool bk) (by repeat (first | with_reducible exact List.mem_cons_self | with_reducible apply List.mem_cons_of_mem))
  have ct8 := H.cell (w.heap.size) 8 (.bool lg) (by repeat (first | with_reducible exact List.mem_cons_self | with_reducible apply List.mem_cons_of_mem))
  have ct9 := H.cell (w.heap.size) 9 (.bool eo) (by repeat (first | with_reducible exact List.mem_cons_self | with_reducible apply List.mem_cons_of_mem))
  have ct10 := H.cell (w.heap.size) 10 (.int .i64 ro) (by repeat (first | with_reducible exact List.mem_cons_self | with_reducible apply List.mem_cons_of_mem))
  have lt := cell_lt ct0
  go_wp2_with fail
  clear ct0 ct1 ct2 ct3 ct4 ct5 ct6 ct7 ct8 ct9 ct10 lt
  (with_reducible refine (rlname15 ro S3 _ (H.factsT (by repeat (first | with_reducible exact List.mem_cons_self | with_reducible apply List.mem_cons_of_mem))) hs3.out).mono ?_)
  rintro e w3 ⟨rfl, hb⟩
  replace H := H.below hb
  clear hb
  have ct0 := H.cell (w.heap.size) 0 (.int .i64 mo) (by repeat (first | with_reducible exact List.mem_cons_self | with_reducible apply List.mem_cons_of_mem))
  have ct1 := H.cell (w.heap.size) 1 (.int .i64 ra) (by repeat (first | with_reducible exact List.mem_cons_self | with_reducible apply List.mem_cons_of_mem))
  have ct2 := H.cell (w.heap.size) 2 (.int .i64 ki) (by repeat (first | with_reducible exact List.mem_cons_self | with_reducible apply List.mem_cons_of_mem))
  have ct3 := H.cell (w.heap.size) 3 (.int .i64 co) (by repeat (first | with_reducible exact List.mem_cons_self | with_reducible apply List.mem_cons_of_mem))
  have ct4 := H.cell (w.heap.size) 4 (.int .i64 st) (by repeat (first | with_reducible exact List.mem_cons_self | with_reducible apply List.mem_cons_of_mem))
  have ct5 := H.cell (w.heap.size) 5 (.int .i64 en) (by repeat (first | with_reducible exact List.mem_cons_self | with_reducible apply List.mem_cons_of_mem))
  have ct6 := H.cell (w.heap.size) 6 (.int .i64 ms) (by repeat (first | with_reducible exact List.mem_cons_self | with_reducible apply List.mem_cons_of_mem))
  have ct7 := H.cell (w.heap.size) 7 (.bool bk) (by repeat (first | with_reducible exact List.mem_cons_self | with_reducible apply List.mem_cons_of_mem))
  have ct8 := H.cell (w.heap.size) 8 (.bool lg) (by repeat (first | with_reducible exact List.mem_cons_self | with_reducible apply List.mem_cons_of_mem))
  have ct9 := H.cell (w.heap.size) 9 (.bool eo) (by repeat (first | with_reducible exact List.mem_cons_self | with_reducible apply List.mem_cons_of_mem))
  have ct10 := H.cell (w.heap.size) 10 (.int .i64 ro) (by repeat (first | with_reducible exact List.mem_cons_self | with_reducible apply List.mem_cons_of_mem))
  have lt := cell_lt ct0
  go_wp2_with fail
  clear ct0 ct1 ct2 ct3 ct4 ct5 ct6 ct7 ct8 ct9 ct10 lt
  (with_reducible refine (tfreq15 ms r4 _ hs4.out).mono ?_)
  rintro e w4 ⟨rfl, hb⟩
  replace H := H.below hb
  clear hb
  have ct0 := H.cell (w.heap.size) 0 (.int .i64 mo) (by repeat (first | with_reducible exact List.mem_cons_self | with_reducible apply List.mem_cons_of_mem))
  have ct1 := H.cell (w.heap.size) 1 (.int .i64 ra) (by repeat (first | with_reducible exact List.mem_cons_self | with_reducible apply List.mem_cons_of_mem))
  have ct2 := H.cell (w.heap.size) 2 (.int .i64 ki) (by repeat (first | with_reducible exact List.mem_cons_self | with_reducible apply List.mem_cons_of_mem))
  have ct3 := H.cell (w.heap.size) 3 (.int .i64 co) (by repeat (first | with_reducible exact List.mem_cons_self | with_reducible apply List.mem_cons_of_mem))
  have ct4 := H.cell (w.heap.size) 4 (.int .i64 st) (by repeat (first | with_reducible exact List.mem_cons_self | with_reducible apply List.mem_cons_of_mem))
  have ct5 := H.cell (w.heap.size) 5 (.int .i64 en) (by repeat (first | with_reducible exact List.mem_cons_self | with_reducible apply List.mem_cons_of_mem))
  have ct6 := H.cell (w.heap.size) 6 (.int .i64 ms) (by repeat (first | with_reducible exact List.mem_cons_self | with_reducible apply List.mem_cons_of_mem))
  have ct7 := H.cell (w.heap.size) 7 (.bool bk) (by repeat (first | with_reducible exact List.mem_cons_self | with_reducible apply List.mem_cons_of_mem))
  have ct8 := H.cell (w.heap.size) 8 (.bool lg) (by repeat (first | with_reducible exact List.mem_cons_self | with_reducible apply List.mem_cons_of_mem))
  have ct9 := H.cell (w.heap.size) 9 (.bool eo) (by repeat (first | with_reducible exact List.mem_cons_self | with_reducible apply List.mem_cons_of_mem))
  have ct10 := H.cell (w.heap.size) 10 (.int .i64 ro) (by repeat (first | with_reducible exact List.mem_cons_self | with_reducible apply List.mem_cons_of_mem))
  have lt := cell_lt ct0
  go_wp2_with fail
  clear ct0 ct1 ct2 ct3 ct4 ct5 ct6 ct7 ct8 ct9 ct10 lt
  (with_reducible refine (isday15 st true _ (H.factsT (by repeat (first | with_reducible exact List.mem_cons_self | with_reducible apply List.mem_cons_of_mem))) hs5.out).mono ?_)
  rintro e w5 ⟨rfl, hb⟩
  replace H := H.below hb
  clear hb
  have ct0 := H.cell (w.heap.size) 0 (.int .i64 mo) (by repeat (first | with_reducible exact List.mem_cons_self | with_reducible apply List.mem_cons_of_mem))
  have ct1 := H.cell (w.heap.size) 1 (.int .i64 ra) (by repeat (first | with_reducible exact List.mem_cons_self | with_reducible apply List.mem_cons_of_mem))
  have ct2 := H.cell (w.heap.size) 2 (.int .i64 ki) (by repeat (first | with_reducible exact List.mem_cons_self | with_reducible apply List.mem_cons_of_mem))
  have ct3 := H.cell (w.heap.size) 3 (.int .i64 co) (by repeat (first | with_reducible exact List.mem_cons_self | with_reducible apply List.mem_cons_of_mem))
  have ct4 := H.cell (w.heap.size) 4 (.int .i64 st) (by repeat (first | with_reducible exact List.mem_cons_self | with_reducible apply List.mem_cons_of_mem))
  have ct5 := H.cell (w.heap.size) 5 (.int .i64 en) (by repeat (first | with_reducible exact List.mem_cons_self | with_reducible apply List.mem_cons_of_mem))
  have ct6 := H.cell (w.heap.size) 6 (.int .i64 ms) (by repeat (first | with_reducible exact List.mem_cons_self | with_reducible apply List.mem_cons_of_mem))
  have ct7 := H.cell (w.heap.size) 7 (.bool bk) (by repeat (first | with_reducible exact List.mem_cons_self | with_reducible apply List.mem_cons_of_mem))
  have ct8 := H.cell (w.heap.size) 8 (.bool lg) (by repeat (first | with_reducible exact List.mem_cons_self | with_reducible apply List.mem_cons_of_mem))
  have ct9 := H.cell (w.heap.size) 9 (.bool eo) (by repeat (first | with_reducible exact List.mem_cons_self | with_reducible apply List.mem_cons_of_mem))
  have ct10 := H.cell (w.heap.size) 10 (.int .i64 ro) (by repeat (first | with_reducible exact List.mem_cons_self | with_reducible apply List.mem_cons_of_mem))
  have lt := cell_lt ct0
  go_wp2_with fail
  clear ct0 ct1 ct2 ct3 ct4 ct5 ct6 ct7 ct8 ct9 ct10 lt
  (with_reducible refine (isday15 en true _ (H.factsT (by repeat (first | with_reducible exact List.mem_cons_self | with_reducible apply List.mem_cons_of_mem))) hs6.out).mono ?_)
  rintro e w6 ⟨rfl, hb⟩
  replace H := H.below hb
  clear hb
  obtain ⟨hg, b0, b1, b2, b3, s0, s1, s2, s3, ⟨h0, h1, h2, h3⟩, ⟨n01, n02, n03, n12, n13, n23⟩, r0, r1, r2, r3⟩ := H.errT (by repeat (first | with_reducible exact List.mem_cons_self | with_reducible apply List.mem_cons_of_mem))
  have l0 := cell_lt h0
  have l1 := cell_lt h1
  have l2 := cell_lt h2
  have l3 := cell_lt h3
  have ct0 := H.cell (w.heap.size) 0 (.int .i64 mo) (by repeat (first | with_reducible exact List.mem_cons_self | with_reducible apply List.mem_cons_of_mem))
  have ct1 := H.cell (w.heap.size) 1 (.int .i64 ra) (by repeat (first | with_reducible exact List.mem_cons_self | with_reducible apply List.mem_cons_of_mem))
  have ct2 := H.cell (w.heap.size) 2 (.int .i64 ki) (by repeat (first | with_reducible exact List.mem_cons_self | with_reducible apply List.mem_cons_of_mem))
  have ct3 := H.cell (w.heap.size) 3 (.int .i64 co) (by repeat (first | with_reducible exact List.mem_cons_self | with_reducible apply List.mem_cons_of_mem))
  have ct4 := H.cell (w.heap.size) 4 (.int .i64 st) (by repeat (first | with_reducible exact List.mem_cons_self | with_reducible apply List.mem_cons_of_mem))
  have ct5 := H.cell (w.heap.size) 5 (.int .i64 en) (by repeat (first | with_reducible exact List.mem_cons_self | with_reducible apply List.mem_cons_of_mem))
  have ct6 := H.cell (w.heap.size) 6 (.int .i64 ms) (by repeat (first | with_reducible exact List.mem_cons_self | with_reducible apply List.mem_cons_of_mem))
  have ct7 := H.cell (w.heap.size) 7 (.bool bk) (by repeat (first | with_reducible exact List.mem_cons_self | with_reducible apply List.mem_cons_of_mem))
  have ct8 := H.cell (w.heap.size) 8 (.bool lg) (by repeat (first | with_reducible exact List.mem_cons_self | with_reducible apply List.mem_cons_of_mem))
  have ct9 := H.cell (w.heap.size) 9 (.bool eo) (by repeat (first | with_reducible exact List.mem_cons_self | with_reducible apply List.mem_cons_of_mem))
  have ct10 := H.cell (w.heap.size) 10 (.int .i64 ro) (by repeat (first | with_reducible exact List.mem_cons_self | with_reducible apply List.mem_cons_of_mem))
  have lt := cell_lt ct0
  go_wp2_with fail
  clear ct0 ct1 ct2 ct3 ct4 ct5 ct6 ct7 ct8 ct9 ct10 lt
  go_ret
  exact ⟨⟨_, rfl⟩, H.old⟩

set_option maxHeartbeats 1000000 in
theorem fault_rate2 (mo ra ki co st en ms : Int) (bk lg eo : Bool) (ro : Int) (a0 a1 a2 a3 : Addr) (S1 : ByteArray) (hs1 : tn ki = S1) (e1 : S1.toList.isEmpty = false) (S2 : ByteArray) (hs2 : nm co = S2) (e2 : S2.toList.isEmpty = false) (S3 : ByteArray) (hs3 : rn ro = S3) (e3 : S3.toList.isEmpty = false) (r4 : Int) (hs4 : fr ms = r4) (e4 : (r4 == 0) = false) (hs5 : decide (1 ≤ st ∧ st ≤ 3652059) = true) (hs6 : decide (1 ≤ en ∧ en ≤ 3652059) = true) (e7 : decide (st ≥ en) = false) (e8 : decide (mo < 1) = false) (e9 : decide (mo > 1000000000000000) = false) (e10 : decide (ra < 0) = false) (e11 : decide (ra > 1000000) = true) (w : World) (hL : FactsT w) (hE : ErrT a0 a1 a2 a3 w) : Calls Tryz.prog 39 #[.agg #[.int .i64 mo, .int .i64 ra, .int .i64 ki, .int .i64 co, .int .i64 st, .int .i64 en, .int .i64 ms, .bool bk, .bool lg, .bool eo, .int .i64 ro]] w fun e w' => (∃ s, e = .returned (.iface 83 (.agg #[.string s, .iface 210 (.pointer (some a3))]))) ∧ Below w.heap.size w w' := by
  have H := ((Held.start w).add (f := factsTF) hL).add (f := errTF a0 a1 a2 a3) hE
  clear hL hE
  replace hs1 := Lib.hid hs1
  replace hs2 := Lib.hid hs2
  replace hs3 := Lib.hid hs3
  replace hs4 := Lib.hid hs4
  replace hs5 := Lib.hid hs5
  replace hs6 := Lib.hid hs6
  go_enter Tryz.func39, Tryz.ntmps39
  go_wp2_with fail
  replace H := H.box_11 (w.heap.size) (.int .i64 mo) (.int .i64 ra) (.int .i64 ki) (.int .i64 co) (.int .i64 st) (.int .i64 en) (.int .i64 ms) (.bool bk) (.bool lg) (.bool eo) (.int .i64 ro) 23 rfl
  (with_reducible refine (tname15 ki S1 _ (H.factsT (by repeat (first | with_reducible exact List.mem_cons_self | with_reducible apply List.mem_cons_of_mem))) hs1.out).mono ?_)
  rintro e w1 ⟨rfl, hb⟩
  replace H := H.below hb
  clear hb
  have ct0 := H.cell (w.heap.size) 0 (.int .i64 mo) (by repeat (first | with_reducible exact List.mem_cons_self | with_reducible apply List.mem_cons_of_mem))
  have ct1 := H.cell (w.heap.size) 1 (.int .i64 ra) (by repeat (first | with_reducible exact List.mem_cons_self | with_reducible apply List.mem_cons_of_mem))
  have ct2 := H.cell (w.heap.size) 2 (.int .i64 ki) (by repeat (first | with_reducible exact List.mem_cons_self | with_reducible apply List.mem_cons_of_mem))
  have ct3 := H.cell (w.heap.size) 3 (.int .i64 co) (by repeat (first | with_reducible exact List.mem_cons_self | with_reducible apply List.mem_cons_of_mem))
  have ct4 := H.cell (w.heap.size) 4 (.int .i64 st) (by repeat (first | with_reducible exact List.mem_cons_self | with_reducible apply List.mem_cons_of_mem))
  have ct5 := H.cell (w.heap.size) 5 (.int .i64 en) (by repeat (first | with_reducible exact List.mem_cons_self | with_reducible apply List.mem_cons_of_mem))
  have ct6 := H.cell (w.heap.size) 6 (.int .i64 ms) (by repeat (first | with_reducible exact List.mem_cons_self | with_reducible apply List.mem_cons_of_mem))
  have ct7 := H.cell (w.heap.size) 7 (.bool bk) (by repeat (first | with_reducible exact List.mem_cons_self | with_reducible apply List.mem_cons_of_mem))
  have ct8 := H.cell (w.heap.size) 8 (.bool lg) (by repeat (first | with_reducible exact List.mem_cons_self | with_reducible apply List.mem_cons_of_mem))
  have ct9 := H.cell (w.heap.size) 9 (.bool eo) (by repeat (first | with_reducible exact List.mem_cons_self | with_reducible apply List.mem_cons_of_mem))
  have ct10 := H.cell (w.heap.size) 10 (.int .i64 ro) (by repeat (first | with_reducible exact List.mem_cons_self | with_reducible apply List.mem_cons_of_mem))
  have lt := cell_lt ct0
  go_wp2_with fail
  clear ct0 ct1 ct2 ct3 ct4 ct5 ct6 ct7 ct8 ct9 ct10 lt
  (with_reducible refine (cname_is co S2 _ hs2.out).mono ?_)
  rintro e w2 ⟨rfl, hb⟩
  replace H := H.below hb
  clear hb
  have ct0 := H.cell (w.heap.size) 0 (.int .i64 mo) (by repeat (first | with_reducible exact List.mem_cons_self | with_reducible apply List.mem_cons_of_mem))
  have ct1 := H.cell (w.heap.size) 1 (.int .i64 ra) (by repeat (first | with_reducible exact List.mem_cons_self | with_reducible apply List.mem_cons_of_mem))
  have ct2 := H.cell (w.heap.size) 2 (.int .i64 ki) (by repeat (first | with_reducible exact List.mem_cons_self | with_reducible apply List.mem_cons_of_mem))
  have ct3 := H.cell (w.heap.size) 3 (.int .i64 co) (by repeat (first | with_reducible exact List.mem_cons_self | with_reducible apply List.mem_cons_of_mem))
  have ct4 := H.cell (w.heap.size) 4 (.int .i64 st) (by repeat (first | with_reducible exact List.mem_cons_self | with_reducible apply List.mem_cons_of_mem))
  have ct5 := H.cell (w.heap.size) 5 (.int .i64 en) (by repeat (first | with_reducible exact List.mem_cons_self | with_reducible apply List.mem_cons_of_mem))
  have ct6 := H.cell (w.heap.size) 6 (.int .i64 ms) (by repeat (first | with_reducible exact List.mem_cons_self | with_reducible apply List.mem_cons_of_mem))
  have ct7 := H.cell (w.heap.size) 7 (.bool bk) (by repeat (first | with_reducible exact List.mem_cons_self | with_reducible apply List.mem_cons_of_mem))
  have ct8 := H.cell (w.heap.size) 8 (.bool lg) (by repeat (first | with_reducible exact List.mem_cons_self | with_reducible apply List.mem_cons_of_mem))
  have ct9 := H.cell (w.heap.size) 9 (.bool eo) (by repeat (first | with_reducible exact List.mem_cons_self | with_reducible apply List.mem_cons_of_mem))
  have ct10 := H.cell (w.heap.size) 10 (.int .i64 ro) (by repeat (first | with_reducible exact List.mem_cons_self | with_reducible apply List.mem_cons_of_mem))
  have lt := cell_lt ct0
  go_wp2_with fail
  clear ct0 ct1 ct2 ct3 ct4 ct5 ct6 ct7 ct8 ct9 ct10 lt
  (with_reducible refine (rlname15 ro S3 _ (H.factsT (by repeat (first | with_reducible exact List.mem_cons_self | with_reducible apply List.mem_cons_of_mem))) hs3.out).mono ?_)
  rintro e w3 ⟨rfl, hb⟩
  replace H := H.below hb
  clear hb
  have ct0 := H.cell (w.heap.size) 0 (.int .i64 mo) (by repeat (first | with_reducible exact List.mem_cons_self | with_reducible apply List.mem_cons_of_mem))
  have ct1 := H.cell (w.heap.size) 1 (.int .i64 ra) (by repeat (first | with_reducible exact List.mem_cons_self | with_reducible apply List.mem_cons_of_mem))
  have ct2 := H.cell (w.heap.size) 2 (.int .i64 ki) (by repeat (first | with_reducible exact List.mem_cons_self | with_reducible apply List.mem_cons_of_mem))
  have ct3 := H.cell (w.heap.size) 3 (.int .i64 co) (by repeat (first | with_reducible exact List.mem_cons_self | with_reducible apply List.mem_cons_of_mem))
  have ct4 := H.cell (w.heap.size) 4 (.int .i64 st) (by repeat (first | with_reducible exact List.mem_cons_self | with_reducible apply List.mem_cons_of_mem))
  have ct5 := H.cell (w.heap.size) 5 (.int .i64 en) (by repeat (first | with_reducible exact List.mem_cons_self | with_reducible apply List.mem_cons_of_mem))
  have ct6 := H.cell (w.heap.size) 6 (.int .i64 ms) (by repeat (first | with_reducible exact List.mem_cons_self | with_reducible apply List.mem_cons_of_mem))
  have ct7 := H.cell (w.heap.size) 7 (.bool bk) (by repeat (first | with_reducible exact List.mem_cons_self | with_reducible apply List.mem_cons_of_mem))
  have ct8 := H.cell (w.heap.size) 8 (.bool lg) (by repeat (first | with_reducible exact List.mem_cons_self | with_reducible apply List.mem_cons_of_mem))
  have ct9 := H.cell (w.heap.size) 9 (.bool eo) (by repeat (first | with_reducible exact List.mem_cons_self | with_reducible apply List.mem_cons_of_mem))
  have ct10 := H.cell (w.heap.size) 10 (.int .i64 ro) (by repeat (first | with_reducible exact List.mem_cons_self | with_reducible apply List.mem_cons_of_mem))
  have lt := cell_lt ct0
  go_wp2_with fail
  clear ct0 ct1 ct2 ct3 ct4 ct5 ct6 ct7 ct8 ct9 ct10 lt
  (with_reducible refine (tfreq15 ms r4 _ hs4.out).mono ?_)
  rintro e w4 ⟨rfl, hb⟩
  replace H := H.below hb
  clear hb
  have ct0 := H.cell (w.heap.size) 0 (.int .i64 mo) (by repeat (first | with_reducible exact List.mem_cons_self | with_reducible apply List.mem_cons_of_mem))
  have ct1 := H.cell (w.heap.size) 1 (.int .i64 ra) (by repeat (first | with_reducible exact List.mem_cons_self | with_reducible apply List.mem_cons_of_mem))
  have ct2 := H.cell (w.heap.size) 2 (.int .i64 ki) (by repeat (first | with_reducible exact List.mem_cons_self | with_reducible apply List.mem_cons_of_mem))
  have ct3 := H.cell (w.heap.size) 3 (.int .i64 co) (by repeat (first | with_reducible exact List.mem_cons_self | with_reducible apply List.mem_cons_of_mem))
  have ct4 := H.cell (w.heap.size) 4 (.int .i64 st) (by repeat (first | with_reducible exact List.mem_cons_self | with_reducible apply List.mem_cons_of_mem))
  have ct5 := H.cell (w.heap.size) 5 (.int .i64 en) (by repeat (first | with_reducible exact List.mem_cons_self | with_reducible apply List.mem_cons_of_mem))
  have ct6 := H.cell (w.heap.size) 6 (.int .i64 ms) (by repeat (first | with_reducible exact List.mem_cons_self | with_reducible apply List.mem_cons_of_mem))
  have ct7 := H.cell (w.heap.size) 7 (.bool bk) (by repeat (first | with_reducible exact List.mem_cons_self | with_reducible apply List.mem_cons_of_mem))
  have ct8 := H.cell (w.heap.size) 8 (.bool lg) (by repeat (first | with_reducible exact List.mem_cons_self | with_reducible apply List.mem_cons_of_mem))
  have ct9 := H.cell (w.heap.size) 9 (.bool eo) (by repeat (first | with_reducible exact List.mem_cons_self | with_reducible apply List.mem_cons_of_mem))
  have ct10 := H.cell (w.heap.size) 10 (.int .i64 ro) (by repeat (first | with_reducible exact List.mem_cons_self | with_reducible apply List.mem_cons_of_mem))
  have lt := cell_lt ct0
  go_wp2_with fail
  clear ct0 ct1 ct2 ct3 ct4 ct5 ct6 ct7 ct8 ct9 ct10 lt
  (with_reducible refine (isday15 st true _ (H.factsT (by repeat (first | with_reducible exact List.mem_cons_self | with_reducible apply List.mem_cons_of_mem))) hs5.out).mono ?_)
  rintro e w5 ⟨rfl, hb⟩
  replace H := H.below hb
  clear hb
  have ct0 := H.cell (w.heap.size) 0 (.int .i64 mo) (by repeat (first | with_reducible exact List.mem_cons_self | with_reducible apply List.mem_cons_of_mem))
  have ct1 := H.cell (w.heap.size) 1 (.int .i64 ra) (by repeat (first | with_reducible exact List.mem_cons_self | with_reducible apply List.mem_cons_of_mem))
  have ct2 := H.cell (w.heap.size) 2 (.int .i64 ki) (by repeat (first | with_reducible exact List.mem_cons_self | with_reducible apply List.mem_cons_of_mem))
  have ct3 := H.cell (w.heap.size) 3 (.int .i64 co) (by repeat (first | with_reducible exact List.mem_cons_self | with_reducible apply List.mem_cons_of_mem))
  have ct4 := H.cell (w.heap.size) 4 (.int .i64 st) (by repeat (first | with_reducible exact List.mem_cons_self | with_reducible apply List.mem_cons_of_mem))
  have ct5 := H.cell (w.heap.size) 5 (.int .i64 en) (by repeat (first | with_reducible exact List.mem_cons_self | with_reducible apply List.mem_cons_of_mem))
  have ct6 := H.cell (w.heap.size) 6 (.int .i64 ms) (by repeat (first | with_reducible exact List.mem_cons_self | with_reducible apply List.mem_cons_of_mem))
  have ct7 := H.cell (w.heap.size) 7 (.bool bk) (by repeat (first | with_reducible exact List.mem_cons_self | with_reducible apply List.mem_cons_of_mem))
  have ct8 := H.cell (w.heap.size) 8 (.bool lg) (by repeat (first | with_reducible exact List.mem_cons_self | with_reducible apply List.mem_cons_of_mem))
  have ct9 := H.cell (w.heap.size) 9 (.bool eo) (by repeat (first | with_reducible exact List.mem_cons_self | with_reducible apply List.mem_cons_of_mem))
  have ct10 := H.cell (w.heap.size) 10 (.int .i64 ro) (by repeat (first | with_reducible exact List.mem_cons_self | with_reducible apply List.mem_cons_of_mem))
  have lt := cell_lt ct0
  go_wp2_with fail
  clear ct0 ct1 ct2 ct3 ct4 ct5 ct6 ct7 ct8 ct9 ct10 lt
  (with_reducible refine (isday15 en true _ (H.factsT (by repeat (first | with_reducible exact List.mem_cons_self | with_reducible apply List.mem_cons_of_mem))) hs6.out).mono ?_)
  rintro e w6 ⟨rfl, hb⟩
  replace H := H.below hb
  clear hb
  obtain ⟨hg, b0, b1, b2, b3, s0, s1, s2, s3, ⟨h0, h1, h2, h3⟩, ⟨n01, n02, n03, n12, n13, n23⟩, r0, r1, r2, r3⟩ := H.errT (by repeat (first | with_reducible exact List.mem_cons_self | with_reducible apply List.mem_cons_of_mem))
  have l0 := cell_lt h0
  have l1 := cell_lt h1
  have l2 := cell_lt h2
  have l3 := cell_lt h3
  have ct0 := H.cell (w.heap.size) 0 (.int .i64 mo) (by repeat (first | with_reducible exact List.mem_cons_self | with_reducible apply List.mem_cons_of_mem))
  have ct1 := H.cell (w.heap.size) 1 (.int .i64 ra) (by repeat (first | with_reducible exact List.mem_cons_self | with_reducible apply List.mem_cons_of_mem))
  have ct2 := H.cell (w.heap.size) 2 (.int .i64 ki) (by repeat (first | with_reducible exact List.mem_cons_self | with_reducible apply List.mem_cons_of_mem))
  have ct3 := H.cell (w.heap.size) 3 (.int .i64 co) (by repeat (first | with_reducible exact List.mem_cons_self | with_reducible apply List.mem_cons_of_mem))
  have ct4 := H.cell (w.heap.size) 4 (.int .i64 st) (by repeat (first | with_reducible exact List.mem_cons_self | with_reducible apply List.mem_cons_of_mem))
  have ct5 := H.cell (w.heap.size) 5 (.int .i64 en) (by repeat (first | with_reducible exact List.mem_cons_self | with_reducible apply List.mem_cons_of_mem))
  have ct6 := H.cell (w.heap.size) 6 (.int .i64 ms) (by repeat (first | with_reducible exact List.mem_cons_self | with_reducible apply List.mem_cons_of_mem))
  have ct7 := H.cell (w.heap.size) 7 (.bool bk) (by repeat (first | with_reducible exact List.mem_cons_self | with_reducible apply List.mem_cons_of_mem))
  have ct8 := H.cell (w.heap.size) 8 (.bool lg) (by repeat (first | with_reducible exact List.mem_cons_self | with_reducible apply List.mem_cons_of_mem))
  have ct9 := H.cell (w.heap.size) 9 (.bool eo) (by repeat (first | with_reducible exact List.mem_cons_self | with_reducible apply List.mem_cons_of_mem))
  have ct10 := H.cell (w.heap.size) 10 (.int .i64 ro) (by repeat (first | with_reducible exact List.mem_cons_self | with_reducible apply List.mem_cons_of_mem))
  have lt := cell_lt ct0
  go_wp2_with fail
  clear ct0 ct1 ct2 ct3 ct4 ct5 ct6 ct7 ct8 ct9 ct10 lt
  go_ret
  exact ⟨⟨_, rfl⟩, H.old⟩

set_option maxHeartbeats 1000000 in
theorem fault_both (mo ra ki co st en ms : Int) (bk lg eo : Bool) (ro : Int) (a0 a1 a2 a3 : Addr) (S1 : ByteArray) (hs1 : tn ki = S1) (e1 : S1.toList.isEmpty = false) (S2 : ByteArray) (hs2 : nm co = S2) (e2 : S2.toList.isEmpty = false) (S3 : ByteArray) (hs3 : rn ro = S3) (e3 : S3.toList.isEmpty = false) (r4 : Int) (hs4 : fr ms = r4) (e4 : (r4 == 0) = false) (hs5 : decide (1 ≤ st ∧ st ≤ 3652059) = true) (hs6 : decide (1 ≤ en ∧ en ≤ 3652059) = true) (e7 : decide (st ≥ en) = false) (e8 : decide (mo < 1) = false) (e9 : decide (mo > 1000000000000000) = false) (e10 : decide (ra < 0) = false) (e11 : decide (ra > 1000000) = false) (hm : 1 ≤ mo ∧ mo ≤ 1000000000000000) (hr : 0 ≤ ra ∧ ra ≤ 1000000) (hs12 : decide (9000000000000000000 < mo * ra) = true) (w : World) (hL : FactsT w) (hE : ErrT a0 a1 a2 a3 w) : Calls Tryz.prog 39 #[.agg #[.int .i64 mo, .int .i64 ra, .int .i64 ki, .int .i64 co, .int .i64 st, .int .i64 en, .int .i64 ms, .bool bk, .bool lg, .bool eo, .int .i64 ro]] w fun e w' => (∃ s, e = .returned (.iface 83 (.agg #[.string s, .iface 210 (.pointer (some a3))]))) ∧ Below w.heap.size w w' := by
  have H := ((Held.start w).add (f := factsTF) hL).add (f := errTF a0 a1 a2 a3) hE
  clear hL hE
  replace hs1 := Lib.hid hs1
  replace hs2 := Lib.hid hs2
  replace hs3 := Lib.hid hs3
  replace hs4 := Lib.hid hs4
  replace hs5 := Lib.hid hs5
  replace hs6 := Lib.hid hs6
  replace hm := Lib.hid hm
  replace hr := Lib.hid hr
  replace hs12 := Lib.hid hs12
  go_enter Tryz.func39, Tryz.ntmps39
  go_wp2_with fail
  replace H := H.box_11 (w.heap.size) (.int .i64 mo) (.int .i64 ra) (.int .i64 ki) (.int .i64 co) (.int .i64 st) (.int .i64 en) (.int .i64 ms) (.bool bk) (.bool lg) (.bool eo) (.int .i64 ro) 23 rfl
  (with_reducible refine (tname15 ki S1 _ (H.factsT (by repeat (first | with_reducible exact List.mem_cons_self | with_reducible apply List.mem_cons_of_mem))) hs1.out).mono ?_)
  rintro e w1 ⟨rfl, hb⟩
  replace H := H.below hb
  clear hb
  have ct0 := H.cell (w.heap.size) 0 (.int .i64 mo) (by repeat (first | with_reducible exact List.mem_cons_self | with_reducible apply List.mem_cons_of_mem))
  have ct1 := H.cell (w.heap.size) 1 (.int .i64 ra) (by repeat (first | with_reducible exact List.mem_cons_self | with_reducible apply List.mem_cons_of_mem))
  have ct2 := H.cell (w.heap.size) 2 (.int .i64 ki) (by repeat (first | with_reducible exact List.mem_cons_self | with_reducible apply List.mem_cons_of_mem))
  have ct3 := H.cell (w.heap.size) 3 (.int .i64 co) (by repeat (first | with_reducible exact List.mem_cons_self | with_reducible apply List.mem_cons_of_mem))
  have ct4 := H.cell (w.heap.size) 4 (.int .i64 st) (by repeat (first | with_reducible exact List.mem_cons_self | with_reducible apply List.mem_cons_of_mem))
  have ct5 := H.cell (w.heap.size) 5 (.int .i64 en) (by repeat (first | with_reducible exact List.mem_cons_self | with_reducible apply List.mem_cons_of_mem))
  have ct6 := H.cell (w.heap.size) 6 (.int .i64 ms) (by repeat (first | with_reducible exact List.mem_cons_self | with_reducible apply List.mem_cons_of_mem))
  have ct7 := H.cell (w.heap.size) 7 (.bool bk) (by repeat (first | with_reducible exact List.mem_cons_self | with_reducible apply List.mem_cons_of_mem))
  have ct8 := H.cell (w.heap.size) 8 (.bool lg) (by repeat (first | with_reducible exact List.mem_cons_self | with_reducible apply List.mem_cons_of_mem))
  have ct9 := H.cell (w.heap.size) 9 (.bool eo) (by repeat (first | with_reducible exact List.mem_cons_self | with_reducible apply List.mem_cons_of_mem))
  have ct10 := H.cell (w.heap.size) 10 (.int .i64 ro) (by repeat (first | with_reducible exact List.mem_cons_self | with_reducible apply List.mem_cons_of_mem))
  have lt := cell_lt ct0
  go_wp2_with fail
  clear ct0 ct1 ct2 ct3 ct4 ct5 ct6 ct7 ct8 ct9 ct10 lt
  (with_reducible refine (cname_is co S2 _ hs2.out).mono ?_)
  rintro e w2 ⟨rfl, hb⟩
  replace H := H.below hb
  clear hb
  have ct0 := H.cell (w.heap.size) 0 (.int .i64 mo) (by repeat (first | with_reducible exact List.mem_cons_self | with_reducible apply List.mem_cons_of_mem))
  have ct1 := H.cell (w.heap.size) 1 (.int .i64 ra) (by repeat (first | with_reducible exact List.mem_cons_self | with_reducible apply List.mem_cons_of_mem))
  have ct2 := H.cell (w.heap.size) 2 (.int .i64 ki) (by repeat (first | with_reducible exact List.mem_cons_self | with_reducible apply List.mem_cons_of_mem))
  have ct3 := H.cell (w.heap.size) 3 (.int .i64 co) (by repeat (first | with_reducible exact List.mem_cons_self | with_reducible apply List.mem_cons_of_mem))
  have ct4 := H.cell (w.heap.size) 4 (.int .i64 st) (by repeat (first | with_reducible exact List.mem_cons_self | with_reducible apply List.mem_cons_of_mem))
  have ct5 := H.cell (w.heap.size) 5 (.int .i64 en) (by repeat (first | with_reducible exact List.mem_cons_self | with_reducible apply List.mem_cons_of_mem))
  have ct6 := H.cell (w.heap.size) 6 (.int .i64 ms) (by repeat (first | with_reducible exact List.mem_cons_self | with_reducible apply List.mem_cons_of_mem))
  have ct7 := H.cell (w.heap.size) 7 (.bool bk) (by repeat (first | with_reducible exact List.mem_cons_self | with_reducible apply List.mem_cons_of_mem))
  have ct8 := H.cell (w.heap.size) 8 (.bool lg) (by repeat (first | with_reducible exact List.mem_cons_self | with_reducible apply List.mem_cons_of_mem))
  have ct9 := H.cell (w.heap.size) 9 (.bool eo) (by repeat (first | with_reducible exact List.mem_cons_self | with_reducible apply List.mem_cons_of_mem))
  have ct10 := H.cell (w.heap.size) 10 (.int .i64 ro) (by repeat (first | with_reducible exact List.mem_cons_self | with_reducible apply List.mem_cons_of_mem))
  have lt := cell_lt ct0
  go_wp2_with fail
  clear ct0 ct1 ct2 ct3 ct4 ct5 ct6 ct7 ct8 ct9 ct10 lt
  (with_reducible refine (rlname15 ro S3 _ (H.factsT (by repeat (first | with_reducible exact List.mem_cons_self | with_reducible apply List.mem_cons_of_mem))) hs3.out).mono ?_)
  rintro e w3 ⟨rfl, hb⟩
  replace H := H.below hb
  clear hb
  have ct0 := H.cell (w.heap.size) 0 (.int .i64 mo) (by repeat (first | with_reducible exact List.mem_cons_self | with_reducible apply List.mem_cons_of_mem))
  have ct1 := H.cell (w.heap.size) 1 (.int .i64 ra) (by repeat (first | with_reducible exact List.mem_cons_self | with_reducible apply List.mem_cons_of_mem))
  have ct2 := H.cell (w.heap.size) 2 (.int .i64 ki) (by repeat (first | with_reducible exact List.mem_cons_self | with_reducible apply List.mem_cons_of_mem))
  have ct3 := H.cell (w.heap.size) 3 (.int .i64 co) (by repeat (first | with_reducible exact List.mem_cons_self | with_reducible apply List.mem_cons_of_mem))
  have ct4 := H.cell (w.heap.size) 4 (.int .i64 st) (by repeat (first | with_reducible exact List.mem_cons_self | with_reducible apply List.mem_cons_of_mem))
  have ct5 := H.cell (w.heap.size) 5 (.int .i64 en) (by repeat (first | with_reducible exact List.mem_cons_self | with_reducible apply List.mem_cons_of_mem))
  have ct6 := H.cell (w.heap.size) 6 (.int .i64 ms) (by repeat (first | with_reducible exact List.mem_cons_self | with_reducible apply List.mem_cons_of_mem))
  have ct7 := H.cell (w.heap.size) 7 (.bool bk) (by repeat (first | with_reducible exact List.mem_cons_self | with_reducible apply List.mem_cons_of_mem))
  have ct8 := H.cell (w.heap.size) 8 (.bool lg) (by repeat (first | with_reducible exact List.mem_cons_self | with_reducible apply List.mem_cons_of_mem))
  have ct9 := H.cell (w.heap.size) 9 (.bool eo) (by repeat (first | with_reducible exact List.mem_cons_self | with_reducible apply List.mem_cons_of_mem))
  have ct10 := H.cell (w.heap.size) 10 (.int .i64 ro) (by repeat (first | with_reducible exact List.mem_cons_self | with_reducible apply List.mem_cons_of_mem))
  have lt := cell_lt ct0
  go_wp2_with fail
  clear ct0 ct1 ct2 ct3 ct4 ct5 ct6 ct7 ct8 ct9 ct10 lt
  (with_reducible refine (tfreq15 ms r4 _ hs4.out).mono ?_)
  rintro e w4 ⟨rfl, hb⟩
  replace H := H.below hb
  clear hb
  have ct0 := H.cell (w.heap.size) 0 (.int .i64 mo) (by repeat (first | with_reducible exact List.mem_cons_self | with_reducible apply List.mem_cons_of_mem))
  have ct1 := H.cell (w.heap.size) 1 (.int .i64 ra) (by repeat (first | with_reducible exact List.mem_cons_self | with_reducible apply List.mem_cons_of_mem))
  have ct2 := H.cell (w.heap.size) 2 (.int .i64 ki) (by repeat (first | with_reducible exact List.mem_cons_self | with_reducible apply List.mem_cons_of_mem))
  have ct3 := H.cell (w.heap.size) 3 (.int .i64 co) (by repeat (first | with_reducible exact List.mem_cons_self | with_reducible apply List.mem_cons_of_mem))
  have ct4 := H.cell (w.heap.size) 4 (.int .i64 st) (by repeat (first | with_reducible exact List.mem_cons_self | with_reducible apply List.mem_cons_of_mem))
  have ct5 := H.cell (w.heap.size) 5 (.int .i64 en) (by repeat (first | with_reducible exact List.mem_cons_self | with_reducible apply List.mem_cons_of_mem))
  have ct6 := H.cell (w.heap.size) 6 (.int .i64 ms) (by repeat (first | with_reducible exact List.mem_cons_self | with_reducible apply List.mem_cons_of_mem))
  have ct7 := H.cell (w.heap.size) 7 (.bool bk) (by repeat (first | with_reducible exact List.mem_cons_self | with_reducible apply List.mem_cons_of_mem))
  have ct8 := H.cell (w.heap.size) 8 (.bool lg) (by repeat (first | with_reducible exact List.mem_cons_self | with_reducible apply List.mem_cons_of_mem))
  have ct9 := H.cell (w.heap.size) 9 (.bool eo) (by repeat (first | with_reducible exact List.mem_cons_self | with_reducible apply List.mem_cons_of_mem))
  have ct10 := H.cell (w.heap.size) 10 (.int .i64 ro) (by repeat (first | with_reducible exact List.mem_cons_self | with_reducible apply List.mem_cons_of_mem))
  have lt := cell_lt ct0
  go_wp2_with fail
  clear ct0 ct1 ct2 ct3 ct4 ct5 ct6 ct7 ct8 ct9 ct10 lt
  (with_reducible refine (isday15 st true _ (H.factsT (by repeat (first | with_reducible exact List.mem_cons_self | with_reducible apply List.mem_cons_of_mem))) hs5.out).mono ?_)
  rintro e w5 ⟨rfl, hb⟩
  replace H := H.below hb
  clear hb
  have ct0 := H.cell (w.heap.size) 0 (.int .i64 mo) (by repeat (first | with_reducible exact List.mem_cons_self | with_reducible apply List.mem_cons_of_mem))
  have ct1 := H.cell (w.heap.size) 1 (.int .i64 ra) (by repeat (first | with_reducible exact List.mem_cons_self | with_reducible apply List.mem_cons_of_mem))
  have ct2 := H.cell (w.heap.size) 2 (.int .i64 ki) (by repeat (first | with_reducible exact List.mem_cons_self | with_reducible apply List.mem_cons_of_mem))
  have ct3 := H.cell (w.heap.size) 3 (.int .i64 co) (by repeat (first | with_reducible exact List.mem_cons_self | with_reducible apply List.mem_cons_of_mem))
  have ct4 := H.cell (w.heap.size) 4 (.int .i64 st) (by repeat (first | with_reducible exact List.mem_cons_self | with_reducible apply List.mem_cons_of_mem))
  have ct5 := H.cell (w.heap.size) 5 (.int .i64 en) (by repeat (first | with_reducible exact List.mem_cons_self | with_reducible apply List.mem_cons_of_mem))
  have ct6 := H.cell (w.heap.size) 6 (.int .i64 ms) (by repeat (first | with_reducible exact List.mem_cons_self | with_reducible apply List.mem_cons_of_mem))
  have ct7 := H.cell (w.heap.size) 7 (.bool bk) (by repeat (first | with_reducible exact List.mem_cons_self | with_reducible apply List.mem_cons_of_mem))
  have ct8 := H.cell (w.heap.size) 8 (.bool lg) (by repeat (first | with_reducible exact List.mem_cons_self | with_reducible apply List.mem_cons_of_mem))
  have ct9 := H.cell (w.heap.size) 9 (.bool eo) (by repeat (first | with_reducible exact List.mem_cons_self | with_reducible apply List.mem_cons_of_mem))
  have ct10 := H.cell (w.heap.size) 10 (.int .i64 ro) (by repeat (first | with_reducible exact List.mem_cons_self | with_reducible apply List.mem_cons_of_mem))
  have lt := cell_lt ct0
  go_wp2_with fail
  clear ct0 ct1 ct2 ct3 ct4 ct5 ct6 ct7 ct8 ct9 ct10 lt
  (with_reducible refine (isday15 en true _ (H.factsT (by repeat (first | with_reducible exact List.mem_cons_self | with_reducible apply List.mem_cons_of_mem))) hs6.out).mono ?_)
  rintro e w6 ⟨rfl, hb⟩
  replace H := H.below hb
  clear hb
  have ct0 := H.cell (w.heap.size) 0 (.int .i64 mo) (by repeat (first | with_reducible exact List.mem_cons_self | with_reducible apply List.mem_cons_of_mem))
  have ct1 := H.cell (w.heap.size) 1 (.int .i64 ra) (by repeat (first | with_reducible exact List.mem_cons_self | with_reducible apply List.mem_cons_of_mem))
  have ct2 := H.cell (w.heap.size) 2 (.int .i64 ki) (by repeat (first | with_reducible exact List.mem_cons_self | with_reducible apply List.mem_cons_of_mem))
  have ct3 := H.cell (w.heap.size) 3 (.int .i64 co) (by repeat (first | with_reducible exact List.mem_cons_self | with_reducible apply List.mem_cons_of_mem))
  have ct4 := H.cell (w.heap.size) 4 (.int .i64 st) (by repeat (first | with_reducible exact List.mem_cons_self | with_reducible apply List.mem_cons_of_mem))
  have ct5 := H.cell (w.heap.size) 5 (.int .i64 en) (by repeat (first | with_reducible exact List.mem_cons_self | with_reducible apply List.mem_cons_of_mem))
  have ct6 := H.cell (w.heap.size) 6 (.int .i64 ms) (by repeat (first | with_reducible exact List.mem_cons_self | with_reducible apply List.mem_cons_of_mem))
  have ct7 := H.cell (w.heap.size) 7 (.bool bk) (by repeat (first | with_reducible exact List.mem_cons_self | with_reducible apply List.mem_cons_of_mem))
  have ct8 := H.cell (w.heap.size) 8 (.bool lg) (by repeat (first | with_reducible exact List.mem_cons_self | with_reducible apply List.mem_cons_of_mem))
  have ct9 := H.cell (w.heap.size) 9 (.bool eo) (by repeat (first | with_reducible exact List.mem_cons_self | with_reducible apply List.mem_cons_of_mem))
  have ct10 := H.cell (w.heap.size) 10 (.int .i64 ro) (by repeat (first | with_reducible exact List.mem_cons_self | with_reducible apply List.mem_cons_of_mem))
  have lt := cell_lt ct0
  go_wp2_with fail
  clear ct0 ct1 ct2 ct3 ct4 ct5 ct6 ct7 ct8 ct9 ct10 lt
  (with_reducible refine (beyond15 mo ra true _ hm.out hr.out hs12.out).mono ?_)
  rintro e w7 ⟨rfl, hb⟩
  replace H := H.below hb
  clear hb
  obtain ⟨hg, b0, b1, b2, b3, s0, s1, s2, s3, ⟨h0, h1, h2, h3⟩, ⟨n01, n02, n03, n12, n13, n23⟩, r0, r1, r2, r3⟩ := H.errT (by repeat (first | with_reducible exact List.mem_cons_self | with_reducible apply List.mem_cons_of_mem))
  have l0 := cell_lt h0
  have l1 := cell_lt h1
  have l2 := cell_lt h2
  have l3 := cell_lt h3
  have ct0 := H.cell (w.heap.size) 0 (.int .i64 mo) (by repeat (first | with_reducible exact List.mem_cons_self | with_reducible apply List.mem_cons_of_mem))
  have ct1 := H.cell (w.heap.size) 1 (.int .i64 ra) (by repeat (first | with_reducible exact List.mem_cons_self | with_reducible apply List.mem_cons_of_mem))
  have ct2 := H.cell (w.heap.size) 2 (.int .i64 ki) (by repeat (first | with_reducible exact List.mem_cons_self | with_reducible apply List.mem_cons_of_mem))
  have ct3 := H.cell (w.heap.size) 3 (.int .i64 co) (by repeat (first | with_reducible exact List.mem_cons_self | with_reducible apply List.mem_cons_of_mem))
  have ct4 := H.cell (w.heap.size) 4 (.int .i64 st) (by repeat (first | with_reducible exact List.mem_cons_self | with_reducible apply List.mem_cons_of_mem))
  have ct5 := H.cell (w.heap.size) 5 (.int .i64 en) (by repeat (first | with_reducible exact List.mem_cons_self | with_reducible apply List.mem_cons_of_mem))
  have ct6 := H.cell (w.heap.size) 6 (.int .i64 ms) (by repeat (first | with_reducible exact List.mem_cons_self | with_reducible apply List.mem_cons_of_mem))
  have ct7 := H.cell (w.heap.size) 7 (.bool bk) (by repeat (first | with_reducible exact List.mem_cons_self | with_reducible apply List.mem_cons_of_mem))
  have ct8 := H.cell (w.heap.size) 8 (.bool lg) (by repeat (first | with_reducible exact List.mem_cons_self | with_reducible apply List.mem_cons_of_mem))
  have ct9 := H.cell (w.heap.size) 9 (.bool eo) (by repeat (first | with_reducible exact List.mem_cons_self | with_reducible apply List.mem_cons_of_mem))
  have ct10 := H.cell (w.heap.size) 10 (.int .i64 ro) (by repeat (first | with_reducible exact List.mem_cons_self | with_reducible apply List.mem_cons_of_mem))
  have lt := cell_lt ct0
  go_wp2_with fail
  clear ct0 ct1 ct2 ct3 ct4 ct5 ct6 ct7 ct8 ct9 ct10 lt
  go_ret
  exact ⟨⟨_, rfl⟩, H.old⟩

set_option maxHeartbeats 1000000 in
theorem fault_none (mo ra ki co st en ms : Int) (bk lg eo : Bool) (ro : Int) (a0 a1 a2 a3 : Addr) (S1 : ByteArray) (hs1 : tn ki = S1) (e1 : S1.toList.isEmpty = false) (S2 : ByteArray) (hs2 : nm co = S2) (e2 : S2.toList.isEmpty = false) (S3 : ByteArray) (hs3 : rn ro = S3) (e3 : S3.toList.isEmpty = false) (r4 : Int) (hs4 : fr ms = r4) (e4 : (r4 == 0) = false) (hs5 : decide (1 ≤ st ∧ st ≤ 3652059) = true) (hs6 : decide (1 ≤ en ∧ en ≤ 3652059) = true) (e7 : decide (st ≥ en) = false) (e8 : decide (mo < 1) = false) (e9 : decide (mo > 1000000000000000) = false) (e10 : decide (ra < 0) = false) (e11 : decide (ra > 1000000) = false) (hm : 1 ≤ mo ∧ mo ≤ 1000000000000000) (hr : 0 ≤ ra ∧ ra ≤ 1000000) (hs12 : decide (9000000000000000000 < mo * ra) = false) (w : World) (hL : FactsT w) (hE : ErrT a0 a1 a2 a3 w) : Calls Tryz.prog 39 #[.agg #[.int .i64 mo, .int .i64 ra, .int .i64 ki, .int .i64 co, .int .i64 st, .int .i64 en, .int .i64 ms, .bool bk, .bool lg, .bool eo, .int .i64 ro]] w fun e w' => e = .returned .nilIface ∧ Below w.heap.size w w' := by
  have H := ((Held.start w).add (f := factsTF) hL).add (f := errTF a0 a1 a2 a3) hE
  clear hL hE
  replace hs1 := Lib.hid hs1
  replace hs2 := Lib.hid hs2
  replace hs3 := Lib.hid hs3
  replace hs4 := Lib.hid hs4
  replace hs5 := Lib.hid hs5
  replace hs6 := Lib.hid hs6
  replace hm := Lib.hid hm
  replace hr := Lib.hid hr
  replace hs12 := Lib.hid hs12
  go_enter Tryz.func39, Tryz.ntmps39
  go_wp2_with fail
  replace H := H.box_11 (w.heap.size) (.int .i64 mo) (.int .i64 ra) (.int .i64 ki) (.int .i64 co) (.int .i64 st) (.int .i64 en) (.int .i64 ms) (.bool bk) (.bool lg) (.bool eo) (.int .i64 ro) 23 rfl
  (with_reducible refine (tname15 ki S1 _ (H.factsT (by repeat (first | with_reducible exact List.mem_cons_self | with_reducible apply List.mem_cons_of_mem))) hs1.out).mono ?_)
  rintro e w1 ⟨rfl, hb⟩
  replace H := H.below hb
  clear hb
  have ct0 := H.cell (w.heap.size) 0 (.int .i64 mo) (by repeat (first | with_reducible exact List.mem_cons_self | with_reducible apply List.mem_cons_of_mem))
  have ct1 := H.cell (w.heap.size) 1 (.int .i64 ra) (by repeat (first | with_reducible exact List.mem_cons_self | with_reducible apply List.mem_cons_of_mem))
  have ct2 := H.cell (w.heap.size) 2 (.int .i64 ki) (by repeat (first | with_reducible exact List.mem_cons_self | with_reducible apply List.mem_cons_of_mem))
  have ct3 := H.cell (w.heap.size) 3 (.int .i64 co) (by repeat (first | with_reducible exact List.mem_cons_self | with_reducible apply List.mem_cons_of_mem))
  have ct4 := H.cell (w.heap.size) 4 (.int .i64 st) (by repeat (first | with_reducible exact List.mem_cons_self | with_reducible apply List.mem_cons_of_mem))
  have ct5 := H.cell (w.heap.size) 5 (.int .i64 en) (by repeat (first | with_reducible exact List.mem_cons_self | with_reducible apply List.mem_cons_of_mem))
  have ct6 := H.cell (w.heap.size) 6 (.int .i64 ms) (by repeat (first | with_reducible exact List.mem_cons_self | with_reducible apply List.mem_cons_of_mem))
  have ct7 := H.cell (w.heap.size) 7 (.bool bk) (by repeat (first | with_reducible exact List.mem_cons_self | with_reducible apply List.mem_cons_of_mem))
  have ct8 := H.cell (w.heap.size) 8 (.bool lg) (by repeat (first | with_reducible exact List.mem_cons_self | with_reducible apply List.mem_cons_of_mem))
  have ct9 := H.cell (w.heap.size) 9 (.bool eo) (by repeat (first | with_reducible exact List.mem_cons_self | with_reducible apply List.mem_cons_of_mem))
  have ct10 := H.cell (w.heap.size) 10 (.int .i64 ro) (by repeat (first | with_reducible exact List.mem_cons_self | with_reducible apply List.mem_cons_of_mem))
  have lt := cell_lt ct0
  go_wp2_with fail
  clear ct0 ct1 ct2 ct3 ct4 ct5 ct6 ct7 ct8 ct9 ct10 lt
  (with_reducible refine (cname_is co S2 _ hs2.out).mono ?_)
  rintro e w2 ⟨rfl, hb⟩
  replace H := H.below hb
  clear hb
  have ct0 := H.cell (w.heap.size) 0 (.int .i64 mo) (by repeat (first | with_reducible exact List.mem_cons_self | with_reducible apply List.mem_cons_of_mem))
  have ct1 := H.cell (w.heap.size) 1 (.int .i64 ra) (by repeat (first | with_reducible exact List.mem_cons_self | with_reducible apply List.mem_cons_of_mem))
  have ct2 := H.cell (w.heap.size) 2 (.int .i64 ki) (by repeat (first | with_reducible exact List.mem_cons_self | with_reducible apply List.mem_cons_of_mem))
  have ct3 := H.cell (w.heap.size) 3 (.int .i64 co) (by repeat (first | with_reducible exact List.mem_cons_self | with_reducible apply List.mem_cons_of_mem))
  have ct4 := H.cell (w.heap.size) 4 (.int .i64 st) (by repeat (first | with_reducible exact List.mem_cons_self | with_reducible apply List.mem_cons_of_mem))
  have ct5 := H.cell (w.heap.size) 5 (.int .i64 en) (by repeat (first | with_reducible exact List.mem_cons_self | with_reducible apply List.mem_cons_of_mem))
  have ct6 := H.cell (w.heap.size) 6 (.int .i64 ms) (by repeat (first | with_reducible exact List.mem_cons_self | with_reducible apply List.mem_cons_of_mem))
  have ct7 := H.cell (w.heap.size) 7 (.bool bk) (by repeat (first | with_reducible exact List.mem_cons_self | with_reducible apply List.mem_cons_of_mem))
  have ct8 := H.cell (w.heap.size) 8 (.bool lg) (by repeat (first | with_reducible exact List.mem_cons_self | with_reducible apply List.mem_cons_of_mem))
  have ct9 := H.cell (w.heap.size) 9 (.bool eo) (by repeat (first | with_reducible exact List.mem_cons_self | with_reducible apply List.mem_cons_of_mem))
  have ct10 := H.cell (w.heap.size) 10 (.int .i64 ro) (by repeat (first | with_reducible exact List.mem_cons_self | with_reducible apply List.mem_cons_of_mem))
  have lt := cell_lt ct0
  go_wp2_with fail
  clear ct0 ct1 ct2 ct3 ct4 ct5 ct6 ct7 ct8 ct9 ct10 lt
  (with_reducible refine (rlname15 ro S3 _ (H.factsT (by repeat (first | with_reducible exact List.mem_cons_self | with_reducible apply List.mem_cons_of_mem))) hs3.out).mono ?_)
  rintro e w3 ⟨rfl, hb⟩
  replace H := H.below hb
  clear hb
  have ct0 := H.cell (w.heap.size) 0 (.int .i64 mo) (by repeat (first | with_reducible exact List.mem_cons_self | with_reducible apply List.mem_cons_of_mem))
  have ct1 := H.cell (w.heap.size) 1 (.int .i64 ra) (by repeat (first | with_reducible exact List.mem_cons_self | with_reducible apply List.mem_cons_of_mem))
  have ct2 := H.cell (w.heap.size) 2 (.int .i64 ki) (by repeat (first | with_reducible exact List.mem_cons_self | with_reducible apply List.mem_cons_of_mem))
  have ct3 := H.cell (w.heap.size) 3 (.int .i64 co) (by repeat (first | with_reducible exact List.mem_cons_self | with_reducible apply List.mem_cons_of_mem))
  have ct4 := H.cell (w.heap.size) 4 (.int .i64 st) (by repeat (first | with_reducible exact List.mem_cons_self | with_reducible apply List.mem_cons_of_mem))
  have ct5 := H.cell (w.heap.size) 5 (.int .i64 en) (by repeat (first | with_reducible exact List.mem_cons_self | with_reducible apply List.mem_cons_of_mem))
  have ct6 := H.cell (w.heap.size) 6 (.int .i64 ms) (by repeat (first | with_reducible exact List.mem_cons_self | with_reducible apply List.mem_cons_of_mem))
  have ct7 := H.cell (w.heap.size) 7 (.bool bk) (by repeat (first | with_reducible exact List.mem_cons_self | with_reducible apply List.mem_cons_of_mem))
  have ct8 := H.cell (w.heap.size) 8 (.bool lg) (by repeat (first | with_reducible exact List.mem_cons_self | with_reducible apply List.mem_cons_of_mem))
  have ct9 := H.cell (w.heap.size) 9 (.bool eo) (by repeat (first | with_reducible exact List.mem_cons_self | with_reducible apply List.mem_cons_of_mem))
  have ct10 := H.cell (w.heap.size) 10 (.int .i64 ro) (by repeat (first | with_reducible exact List.mem_cons_self | with_reducible apply List.mem_cons_of_mem))
  have lt := cell_lt ct0
  go_wp2_with fail
  clear ct0 ct1 ct2 ct3 ct4 ct5 ct6 ct7 ct8 ct9 ct10 lt
  (with_reducible refine (tfreq15 ms r4 _ hs4.out).mono ?_)
  rintro e w4 ⟨rfl, hb⟩
  replace H := H.below hb
  clear hb
  have ct0 := H.cell (w.heap.size) 0 (.int .i64 mo) (by repeat (first | with_reducible exact List.mem_cons_self | with_reducible apply List.mem_cons_of_mem))
  have ct1 := H.cell (w.heap.size) 1 (.int .i64 ra) (by repeat (first | with_reducible exact List.mem_cons_self | with_reducible apply List.mem_cons_of_mem))
  have ct2 := H.cell (w.heap.size) 2 (.int .i64 ki) (by repeat (first | with_reducible exact List.mem_cons_self | with_reducible apply List.mem_cons_of_mem))
  have ct3 := H.cell (w.heap.size) 3 (.int .i64 co) (by repeat (first | with_reducible exact List.mem_cons_self | with_reducible apply List.mem_cons_of_mem))
  have ct4 := H.cell (w.heap.size) 4 (.int .i64 st) (by repeat (first | with_reducible exact List.mem_cons_self | with_reducible apply List.mem_cons_of_mem))
  have ct5 := H.cell (w.heap.size) 5 (.int .i64 en) (by repeat (first | with_reducible exact List.mem_cons_self | with_reducible apply List.mem_cons_of_mem))
  have ct6 := H.cell (w.heap.size) 6 (.int .i64 ms) (by repeat (first | with_reducible exact List.mem_cons_self | with_reducible apply List.mem_cons_of_mem))
  have ct7 := H.cell (w.heap.size) 7 (.bool bk) (by repeat (first | with_reducible exact List.mem_cons_self | with_reducible apply List.mem_cons_of_mem))
  have ct8 := H.cell (w.heap.size) 8 (.bool lg) (by repeat (first | with_reducible exact List.mem_cons_self | with_reducible apply List.mem_cons_of_mem))
  have ct9 := H.cell (w.heap.size) 9 (.bool eo) (by repeat (first | with_reducible exact List.mem_cons_self | with_reducible apply List.mem_cons_of_mem))
  have ct10 := H.cell (w.heap.size) 10 (.int .i64 ro) (by repeat (first | with_reducible exact List.mem_cons_self | with_reducible apply List.mem_cons_of_mem))
  have lt := cell_lt ct0
  go_wp2_with fail
  clear ct0 ct1 ct2 ct3 ct4 ct5 ct6 ct7 ct8 ct9 ct10 lt
  (with_reducible refine (isday15 st true _ (H.factsT (by repeat (first | with_reducible exact List.mem_cons_self | with_reducible apply List.mem_cons_of_mem))) hs5.out).mono ?_)
  rintro e w5 ⟨rfl, hb⟩
  replace H := H.below hb
  clear hb
  have ct0 := H.cell (w.heap.size) 0 (.int .i64 mo) (by repeat (first | with_reducible exact List.mem_cons_self | with_reducible apply List.mem_cons_of_mem))
  have ct1 := H.cell (w.heap.size) 1 (.int .i64 ra) (by repeat (first | with_reducible exact List.mem_cons_self | with_reducible apply List.mem_cons_of_mem))
  have ct2 := H.cell (w.heap.size) 2 (.int .i64 ki) (by repeat (first | with_reducible exact List.mem_cons_self | with_reducible apply List.mem_cons_of_mem))
  have ct3 := H.cell (w.heap.size) 3 (.int .i64 co) (by repeat (first | with_reducible exact List.mem_cons_self | with_reducible apply List.mem_cons_of_mem))
  have ct4 := H.cell (w.heap.size) 4 (.int .i64 st) (by repeat (first | with_reducible exact List.mem_cons_self | with_reducible apply List.mem_cons_of_mem))
  have ct5 := H.cell (w.heap.size) 5 (.int .i64 en) (by repeat (first | with_reducible exact List.mem_cons_self | with_reducible apply List.mem_cons_of_mem))
  have ct6 := H.cell (w.heap.size) 6 (.int .i64 ms) (by repeat (first | with_reducible exact List.mem_cons_self | with_reducible apply List.mem_cons_of_mem))
  have ct7 := H.cell (w.heap.size) 7 (.bool bk) (by repeat (first | with_reducible exact List.mem_cons_self | with_reducible apply List.mem_cons_of_mem))
  have ct8 := H.cell (w.heap.size) 8 (.bool lg) (by repeat (first | with_reducible exact List.mem_cons_self | with_reducible apply List.mem_cons_of_mem))
  have ct9 := H.cell (w.heap.size) 9 (.bool eo) (by repeat (first | with_reducible exact List.mem_cons_self | with_reducible apply List.mem_cons_of_mem))
  have ct10 := H.cell (w.heap.size) 10 (.int .i64 ro) (by repeat (first | with_reducible exact List.mem_cons_self | with_reducible apply List.mem_cons_of_mem))
  have lt := cell_lt ct0
  go_wp2_with fail
  clear ct0 ct1 ct2 ct3 ct4 ct5 ct6 ct7 ct8 ct9 ct10 lt
  (with_reducible refine (isday15 en true _ (H.factsT (by repeat (first | with_reducible exact List.mem_cons_self | with_reducible apply List.mem_cons_of_mem))) hs6.out).mono ?_)
  rintro e w6 ⟨rfl, hb⟩
  replace H := H.below hb
  clear hb
  have ct0 := H.cell (w.heap.size) 0 (.int .i64 mo) (by repeat (first | with_reducible exact List.mem_cons_self | with_reducible apply List.mem_cons_of_mem))
  have ct1 := H.cell (w.heap.size) 1 (.int .i64 ra) (by repeat (first | with_reducible exact List.mem_cons_self | with_reducible apply List.mem_cons_of_mem))
  have ct2 := H.cell (w.heap.size) 2 (.int .i64 ki) (by repeat (first | with_reducible exact List.mem_cons_self | with_reducible apply List.mem_cons_of_mem))
  have ct3 := H.cell (w.heap.size) 3 (.int .i64 co) (by repeat (first | with_reducible exact List.mem_cons_self | with_reducible apply List.mem_cons_of_mem))
  have ct4 := H.cell (w.heap.size) 4 (.int .i64 st) (by repeat (first | with_reducible exact List.mem_cons_self | with_reducible apply List.mem_cons_of_mem))
  have ct5 := H.cell (w.heap.size) 5 (.int .i64 en) (by repeat (first | with_reducible exact List.mem_cons_self | with_reducible apply List.mem_cons_of_mem))
  have ct6 := H.cell (w.heap.size) 6 (.int .i64 ms) (by repeat (first | with_reducible exact List.mem_cons_self | with_reducible apply List.mem_cons_of_mem))
  have ct7 := H.cell (w.heap.size) 7 (.bool bk) (by repeat (first | with_reducible exact List.mem_cons_self | with_reducible apply List.mem_cons_of_mem))
  have ct8 := H.cell (w.heap.size) 8 (.bool lg) (by repeat (first | with_reducible exact List.mem_cons_self | with_reducible apply List.mem_cons_of_mem))
  have ct9 := H.cell (w.heap.size) 9 (.bool eo) (by repeat (first | with_reducible exact List.mem_cons_self | with_reducible apply List.mem_cons_of_mem))
  have ct10 := H.cell (w.heap.size) 10 (.int .i64 ro) (by repeat (first | with_reducible exact List.mem_cons_self | with_reducible apply List.mem_cons_of_mem))
  have lt := cell_lt ct0
  go_wp2_with fail
  clear ct0 ct1 ct2 ct3 ct4 ct5 ct6 ct7 ct8 ct9 ct10 lt
  (with_reducible refine (beyond15 mo ra false _ hm.out hr.out hs12.out).mono ?_)
  rintro e w7 ⟨rfl, hb⟩
  replace H := H.below hb
  clear hb
  have ct0 := H.cell (w.heap.size) 0 (.int .i64 mo) (by repeat (first | with_reducible exact List.mem_cons_self | with_reducible apply List.mem_cons_of_mem))
  have ct1 := H.cell (w.heap.size) 1 (.int .i64 ra) (by repeat (first | with_reducible exact List.mem_cons_self | with_reducible apply List.mem_cons_of_mem))
  have ct2 := H.cell (w.heap.size) 2 (.int .i64 ki) (by repeat (first | with_reducible exact List.mem_cons_self | with_reducible apply List.mem_cons_of_mem))
  have ct3 := H.cell (w.heap.size) 3 (.int .i64 co) (by repeat (first | with_reducible exact List.mem_cons_self | with_reducible apply List.mem_cons_of_mem))
  have ct4 := H.cell (w.heap.size) 4 (.int .i64 st) (by repeat (first | with_reducible exact List.mem_cons_self | with_reducible apply List.mem_cons_of_mem))
  have ct5 := H.cell (w.heap.size) 5 (.int .i64 en) (by repeat (first | with_reducible exact List.mem_cons_self | with_reducible apply List.mem_cons_of_mem))
  have ct6 := H.cell (w.heap.size) 6 (.int .i64 ms) (by repeat (first | with_reducible exact List.mem_cons_self | with_reducible apply List.mem_cons_of_mem))
  have ct7 := H.cell (w.heap.size) 7 (.bool bk) (by repeat (first | with_reducible exact List.mem_cons_self | with_reducible apply List.mem_cons_of_mem))
  have ct8 := H.cell (w.heap.size) 8 (.bool lg) (by repeat (first | with_reducible exact List.mem_cons_self | with_reducible apply List.mem_cons_of_mem))
  have ct9 := H.cell (w.heap.size) 9 (.bool eo) (by repeat (first | with_reducible exact List.mem_cons_self | with_reducible apply List.mem_cons_of_mem))
  have ct10 := H.cell (w.heap.size) 10 (.int .i64 ro) (by repeat (first | with_reducible exact List.mem_cons_self | with_reducible apply List.mem_cons_of_mem))
  have lt := cell_lt ct0
  go_wp2_with fail
  clear ct0 ct1 ct2 ct3 ct4 ct5 ct6 ct7 ct8 ct9 ct10 lt
  go_ret
  exact ⟨rfl, H.old⟩

theorem check_0 (mo ra ki co st en ms : Int) (bk lg eo : Bool) (ro : Int) (a0 a1 a2 a3 : Addr) (w : World) (hE : ErrT a0 a1 a2 a3 w) (hF : ∀ v, Below w.heap.size w v → Calls Tryz.prog 39 #[.agg #[.int .i64 mo, .int .i64 ra, .int .i64 ki, .int .i64 co, .int .i64 st, .int .i64 en, .int .i64 ms, .bool bk, .bool lg, .bool eo, .int .i64 ro]] v fun e w' => (∃ s, e = .returned (.iface 83 (.agg #[.string s, .iface 210 (.pointer (some a0))]))) ∧ Below v.heap.size v w') : Calls Tryz.prog 27 #[.agg #[.int .i64 mo, .int .i64 ra, .int .i64 ki, .int .i64 co, .int .i64 st, .int .i64 en, .int .i64 ms, .bool bk, .bool lg, .bool eo, .int .i64 ro]] w fun e w' => e = .returned (.int .i64 1) ∧ Below w.heap.size w w' := by
  have H := (Held.start w).add (f := errTF a0 a1 a2 a3) hE
  replace hF := Lib.hid hF
  clear hE
  go_enter Tryz.func27, Tryz.ntmps27
  go_wp2_with fail
  replace H := H.box_11 (w.heap.size) (.int .i64 mo) (.int .i64 ra) (.int .i64 ki) (.int .i64 co) (.int .i64 st) (.int .i64 en) (.int .i64 ms) (.bool bk) (.bool lg) (.bool eo) (.int .i64 ro) 23 rfl
  (with_reducible refine (hF.out _ H.old).mono ?_)
  rintro e w1 ⟨⟨s, rfl⟩, hb⟩
  replace H := H.below hb
  clear hb
  go_wp2_with fail
  (with_reducible refine (tcode_0 s a0 a1 a2 a3 _ (H.errT (by repeat (first | with_reducible exact List.mem_cons_self | with_reducible apply List.mem_cons_of_mem)))).mono ?_)
  rintro e w2 ⟨rfl, hb⟩
  replace H := H.below hb
  clear hb
  go_wp2_with fail
  go_ret
  exact ⟨rfl, H.old⟩

theorem check_1 (mo ra ki co st en ms : Int) (bk lg eo : Bool) (ro : Int) (a0 a1 a2 a3 : Addr) (w : World) (hE : ErrT a0 a1 a2 a3 w) (hF : ∀ v, Below w.heap.size w v → Calls Tryz.prog 39 #[.agg #[.int .i64 mo, .int .i64 ra, .int .i64 ki, .int .i64 co, .int .i64 st, .int .i64 en, .int .i64 ms, .bool bk, .bool lg, .bool eo, .int .i64 ro]] v fun e w' => (∃ s, e = .returned (.iface 83 (.agg #[.string s, .iface 210 (.pointer (some a1))]))) ∧ Below v.heap.size v w') : Calls Tryz.prog 27 #[.agg #[.int .i64 mo, .int .i64 ra, .int .i64 ki, .int .i64 co, .int .i64 st, .int .i64 en, .int .i64 ms, .bool bk, .bool lg, .bool eo, .int .i64 ro]] w fun e w' => e = .returned (.int .i64 3) ∧ Below w.heap.size w w' := by
  have H := (Held.start w).add (f := errTF a0 a1 a2 a3) hE
  replace hF := Lib.hid hF
  clear hE
  go_enter Tryz.func27, Tryz.ntmps27
  go_wp2_with fail
  replace H := H.box_11 (w.heap.size) (.int .i64 mo) (.int .i64 ra) (.int .i64 ki) (.int .i64 co) (.int .i64 st) (.int .i64 en) (.int .i64 ms) (.bool bk) (.bool lg) (.bool eo) (.int .i64 ro) 23 rfl
  (with_reducible refine (hF.out _ H.old).mono ?_)
  rintro e w1 ⟨⟨s, rfl⟩, hb⟩
  replace H := H.below hb
  clear hb
  go_wp2_with fail
  (with_reducible refine (tcode_1 s a0 a1 a2 a3 _ (H.errT (by repeat (first | with_reducible exact List.mem_cons_self | with_reducible apply List.mem_cons_of_mem)))).mono ?_)
  rintro e w2 ⟨rfl, hb⟩
  replace H := H.below hb
  clear hb
  go_wp2_with fail
  go_ret
  exact ⟨rfl, H.old⟩

theorem check_2 (mo ra ki co st en ms : Int) (bk lg eo : Bool) (ro : Int) (a0 a1 a2 a3 : Addr) (w : World) (hE : ErrT a0 a1 a2 a3 w) (hF : ∀ v, Below w.heap.size w v → Calls Tryz.prog 39 #[.agg #[.int .i64 mo, .int .i64 ra, .int .i64 ki, .int .i64 co, .int .i64 st, .int .i64 en, .int .i64 ms, .bool bk, .bool lg, .bool eo, .int .i64 ro]] v fun e w' => (∃ s, e = .returned (.iface 83 (.agg #[.string s, .iface 210 (.pointer (some a2))]))) ∧ Below v.heap.size v w') : Calls Tryz.prog 27 #[.agg #[.int .i64 mo, .int .i64 ra, .int .i64 ki, .int .i64 co, .int .i64 st, .int .i64 en, .int .i64 ms, .bool bk, .bool lg, .bool eo, .int .i64 ro]] w fun e w' => e = .returned (.int .i64 4) ∧ Below w.heap.size w w' := by
  have H := (Held.start w).add (f := errTF a0 a1 a2 a3) hE
  replace hF := Lib.hid hF
  clear hE
  go_enter Tryz.func27, Tryz.ntmps27
  go_wp2_with fail
  replace H := H.box_11 (w.heap.size) (.int .i64 mo) (.int .i64 ra) (.int .i64 ki) (.int .i64 co) (.int .i64 st) (.int .i64 en) (.int .i64 ms) (.bool bk) (.bool lg) (.bool eo) (.int .i64 ro) 23 rfl
  (with_reducible refine (hF.out _ H.old).mono ?_)
  rintro e w1 ⟨⟨s, rfl⟩, hb⟩
  replace H := H.below hb
  clear hb
  go_wp2_with fail
  (with_reducible refine (tcode_2 s a0 a1 a2 a3 _ (H.errT (by repeat (first | with_reducible exact List.mem_cons_self | with_reducible apply List.mem_cons_of_mem)))).mono ?_)
  rintro e w2 ⟨rfl, hb⟩
  replace H := H.below hb
  clear hb
  go_wp2_with fail
  go_ret
  exact ⟨rfl, H.old⟩

theorem check_3 (mo ra ki co st en ms : Int) (bk lg eo : Bool) (ro : Int) (a0 a1 a2 a3 : Addr) (w : World) (hE : ErrT a0 a1 a2 a3 w) (hF : ∀ v, Below w.heap.size w v → Calls Tryz.prog 39 #[.agg #[.int .i64 mo, .int .i64 ra, .int .i64 ki, .int .i64 co, .int .i64 st, .int .i64 en, .int .i64 ms, .bool bk, .bool lg, .bool eo, .int .i64 ro]] v fun e w' => (∃ s, e = .returned (.iface 83 (.agg #[.string s, .iface 210 (.pointer (some a3))]))) ∧ Below v.heap.size v w') : Calls Tryz.prog 27 #[.agg #[.int .i64 mo, .int .i64 ra, .int .i64 ki, .int .i64 co, .int .i64 st, .int .i64 en, .int .i64 ms, .bool bk, .bool lg, .bool eo, .int .i64 ro]] w fun e w' => e = .returned (.int .i64 2) ∧ Below w.heap.size w w' := by
  have H := (Held.start w).add (f := errTF a0 a1 a2 a3) hE
  replace hF := Lib.hid hF
  clear hE
  go_enter Tryz.func27, Tryz.ntmps27
  go_wp2_with fail
  replace H := H.box_11 (w.heap.size) (.int .i64 mo) (.int .i64 ra) (.int .i64 ki) (.int .i64 co) (.int .i64 st) (.int .i64 en) (.int .i64 ms) (.bool bk) (.bool lg) (.bool eo) (.int .i64 ro) 23 rfl
  (with_reducible refine (hF.out _ H.old).mono ?_)
  rintro e w1 ⟨⟨s, rfl⟩, hb⟩
  replace H := H.below hb
  clear hb
  go_wp2_with fail
  (with_reducible refine (tcode_3 s a0 a1 a2 a3 _ (H.errT (by repeat (first | with_reducible exact List.mem_cons_self | with_reducible apply List.mem_cons_of_mem)))).mono ?_)
  rintro e w2 ⟨rfl, hb⟩
  replace H := H.below hb
  clear hb
  go_wp2_with fail
  go_ret
  exact ⟨rfl, H.old⟩

theorem check_none (mo ra ki co st en ms : Int) (bk lg eo : Bool) (ro : Int) (a0 a1 a2 a3 : Addr) (w : World) (hE : ErrT a0 a1 a2 a3 w) (hF : ∀ v, Below w.heap.size w v → Calls Tryz.prog 39 #[.agg #[.int .i64 mo, .int .i64 ra, .int .i64 ki, .int .i64 co, .int .i64 st, .int .i64 en, .int .i64 ms, .bool bk, .bool lg, .bool eo, .int .i64 ro]] v fun e w' => e = .returned .nilIface ∧ Below v.heap.size v w') : Calls Tryz.prog 27 #[.agg #[.int .i64 mo, .int .i64 ra, .int .i64 ki, .int .i64 co, .int .i64 st, .int .i64 en, .int .i64 ms, .bool bk, .bool lg, .bool eo, .int .i64 ro]] w fun e w' => e = .returned (.int .i64 0) ∧ Below w.heap.size w w' := by
  have H := (Held.start w).add (f := errTF a0 a1 a2 a3) hE
  replace hF := Lib.hid hF
  clear hE
  go_enter Tryz.func27, Tryz.ntmps27
  go_wp2_with fail
  replace H := H.box_11 (w.heap.size) (.int .i64 mo) (.int .i64 ra) (.int .i64 ki) (.int .i64 co) (.int .i64 st) (.int .i64 en) (.int .i64 ms) (.bool bk) (.bool lg) (.bool eo) (.int .i64 ro) 23 rfl
  (with_reducible refine (hF.out _ H.old).mono ?_)
  rintro e w1 ⟨rfl, hb⟩
  replace H := H.below hb
  clear hb
  go_wp2_with fail
  (with_reducible refine (tcode_nil _).mono ?_)
  rintro e w2 ⟨rfl, hb⟩
  replace H := H.below hb
  clear hb
  go_wp2_with fail
  go_ret
  exact ⟨rfl, H.old⟩

/-- Check answers the code of the terms. -/
theorem check15 (mo ra ki co st en ms : Int) (bk lg eo : Bool) (ro : Int) (c : Int) (w : World) (hL : FactsT w) (h : (Tm.mk mo ra ki co st en ms bk lg eo ro).code = c) : Calls Tryz.prog 27 #[.agg #[.int .i64 mo, .int .i64 ra, .int .i64 ki, .int .i64 co, .int .i64 st, .int .i64 en, .int .i64 ms, .bool bk, .bool lg, .bool eo, .int .i64 ro]] w fun e w' => e = .returned (.int .i64 c) ∧ Below w.heap.size w w' := by
  subst h
  obtain ⟨a0, a1, a2, a3, hE⟩ := hL.2.2.2
  have bE := fun v (hb : Below w.heap.size w v) => ErrT.below hE hb
  have bL := fun v (hb : Below w.heap.size w v) => FactsT.below hL hb
  by_cases hk : 0 ≤ ki ∧ ki ≤ 2
  rotate_left
  · rw [Tm.bad (fun g => hk g.1)]
    exact check_0 mo ra ki co st en ms bk lg eo ro a0 a1 a2 a3 w hE fun v hb => fault_kind mo ra ki co st en ms bk lg eo ro a0 a1 a2 a3 _ rfl (by rw [tn_none]; exact decide_eq_true (by omega)) v (bL v hb) (bE v hb)
  have e1 : (tn ki).toList.isEmpty = false := by rw [tn_none]; exact decide_eq_false (by omega)
  by_cases hc : 0 ≤ co ∧ co ≤ 6
  rotate_left
  · rw [Tm.bad (fun g => hc g.2.1)]
    exact check_0 mo ra ki co st en ms bk lg eo ro a0 a1 a2 a3 w hE fun v hb => fault_count mo ra ki co st en ms bk lg eo ro a0 a1 a2 a3 _ rfl e1 _ rfl (by rw [nm_none]; exact decide_eq_true (by omega)) v (bL v hb) (bE v hb)
  have e2 : (nm co).toList.isEmpty = false := by rw [nm_none]; exact decide_eq_false (by omega)
  by_cases hr : 0 ≤ ro ∧ ro ≤ 4
  rotate_left
  · rw [Tm.bad (fun g => hr g.2.2.1)]
    exact check_0 mo ra ki co st en ms bk lg eo ro a0 a1 a2 a3 w hE fun v hb => fault_roll mo ra ki co st en ms bk lg eo ro a0 a1 a2 a3 _ rfl e1 _ rfl e2 _ rfl (by rw [rn_none]; exact decide_eq_true (by omega)) v (bL v hb) (bE v hb)
  have e3 : (rn ro).toList.isEmpty = false := by rw [rn_none]; exact decide_eq_false (by omega)
  by_cases hm : Mo ms
  rotate_left
  · rw [Tm.bad (fun g => hm g.2.2.2)]
    exact check_0 mo ra ki co st en ms bk lg eo ro a0 a1 a2 a3 w hE fun v hb => fault_months mo ra ki co st en ms bk lg eo ro a0 a1 a2 a3 _ rfl e1 _ rfl e2 _ rfl e3 _ rfl (by rw [fr_zero]; exact decide_eq_true hm) v (bL v hb) (bE v hb)
  have e4 : (fr ms == 0) = false := by rw [fr_zero]; exact decide_eq_false (fun g => g hm)
  have hF : (Tm.mk mo ra ki co st en ms bk lg eo ro).Form := ⟨hk, hc, hr, hm⟩
  by_cases h5 : 1 ≤ st ∧ st ≤ 3652059
  rotate_left
  · rw [Tm.noDay hF (fun g => h5 g.1)]
    exact check_1 mo ra ki co st en ms bk lg eo ro a0 a1 a2 a3 w hE fun v hb => fault_start mo ra ki co st en ms bk lg eo ro a0 a1 a2 a3 _ rfl e1 _ rfl e2 _ rfl e3 _ rfl e4 (decide_eq_false h5) v (bL v hb) (bE v hb)
  by_cases h6 : 1 ≤ en ∧ en ≤ 3652059
  rotate_left
  · rw [Tm.noDay hF (fun g => h6 g.2)]
    exact check_1 mo ra ki co st en ms bk lg eo ro a0 a1 a2 a3 w hE fun v hb => fault_end mo ra ki co st en ms bk lg eo ro a0 a1 a2 a3 _ rfl e1 _ rfl e2 _ rfl e3 _ rfl e4 (decide_eq_true h5) (decide_eq_false h6) v (bL v hb) (bE v hb)
  have hD : (Tm.mk mo ra ki co st en ms bk lg eo ro).Days := ⟨h5, h6⟩
  by_cases h7 : st < en
  rotate_left
  · rw [Tm.turned hF hD h7]
    exact check_2 mo ra ki co st en ms bk lg eo ro a0 a1 a2 a3 w hE fun v hb => fault_order mo ra ki co st en ms bk lg eo ro a0 a1 a2 a3 _ rfl e1 _ rfl e2 _ rfl e3 _ rfl e4 (decide_eq_true h5) (decide_eq_true h6) (decide_eq_true (by omega)) v (bL v hb) (bE v hb)
  have e7 : decide (st ≥ en) = false := decide_eq_false (by omega)
  by_cases h8 : 1 ≤ mo
  rotate_left
  · rw [Tm.over hF hD h7 (fun g => h8 g.1.1)]
    exact check_3 mo ra ki co st en ms bk lg eo ro a0 a1 a2 a3 w hE fun v hb => fault_money mo ra ki co st en ms bk lg eo ro a0 a1 a2 a3 _ rfl e1 _ rfl e2 _ rfl e3 _ rfl e4 (decide_eq_true h5) (decide_eq_true h6) e7 (decide_eq_true (by omega)) v (bL v hb) (bE v hb)
  have e8 : decide (mo < 1) = false := decide_eq_false (by omega)
  by_cases h9 : mo ≤ 1000000000000000
  rotate_left
  · rw [Tm.over hF hD h7 (fun g => h9 g.1.2)]
    exact check_3 mo ra ki co st en ms bk lg eo ro a0 a1 a2 a3 w hE fun v hb => fault_money2 mo ra ki co st en ms bk lg eo ro a0 a1 a2 a3 _ rfl e1 _ rfl e2 _ rfl e3 _ rfl e4 (decide_eq_true h5) (decide_eq_true h6) e7 e8 (decide_eq_true (by omega)) v (bL v hb) (bE v hb)
  have e9 : decide (mo > 1000000000000000) = false := decide_eq_false (by omega)
  by_cases h10 : 0 ≤ ra
  rotate_left
  · rw [Tm.over hF hD h7 (fun g => h10 g.2.1)]
    exact check_3 mo ra ki co st en ms bk lg eo ro a0 a1 a2 a3 w hE fun v hb => fault_rate mo ra ki co st en ms bk lg eo ro a0 a1 a2 a3 _ rfl e1 _ rfl e2 _ rfl e3 _ rfl e4 (decide_eq_true h5) (decide_eq_true h6) e7 e8 e9 (decide_eq_true (by omega)) v (bL v hb) (bE v hb)
  have e10 : decide (ra < 0) = false := decide_eq_false (by omega)
  by_cases h11 : ra ≤ 1000000
  rotate_left
  · rw [Tm.over hF hD h7 (fun g => h11 g.2.2)]
    exact check_3 mo ra ki co st en ms bk lg eo ro a0 a1 a2 a3 w hE fun v hb => fault_rate2 mo ra ki co st en ms bk lg eo ro a0 a1 a2 a3 _ rfl e1 _ rfl e2 _ rfl e3 _ rfl e4 (decide_eq_true h5) (decide_eq_true h6) e7 e8 e9 e10 (decide_eq_true (by omega)) v (bL v hb) (bE v hb)
  have e11 : decide (ra > 1000000) = false := decide_eq_false (by omega)
  have hO : (Tm.mk mo ra ki co st en ms bk lg eo ro).Own := ⟨⟨h8, h9⟩, ⟨h10, h11⟩⟩
  by_cases h12 : 9000000000000000000 < mo * ra
  · rw [Tm.both hF hD h7 hO h12]
    exact check_3 mo ra ki co st en ms bk lg eo ro a0 a1 a2 a3 w hE fun v hb => fault_both mo ra ki co st en ms bk lg eo ro a0 a1 a2 a3 _ rfl e1 _ rfl e2 _ rfl e3 _ rfl e4 (decide_eq_true h5) (decide_eq_true h6) e7 e8 e9 e10 e11 ⟨h8, h9⟩ ⟨h10, h11⟩ (decide_eq_true h12) v (bL v hb) (bE v hb)
  · rw [Tm.may hF hD h7 hO (Int.not_lt.1 h12)]
    exact check_none mo ra ki co st en ms bk lg eo ro a0 a1 a2 a3 w hE fun v hb => fault_none mo ra ki co st en ms bk lg eo ro a0 a1 a2 a3 _ rfl e1 _ rfl e2 _ rfl e3 _ rfl e4 (decide_eq_true h5) (decide_eq_true h6) e7 e8 e9 e10 e11 ⟨h8, h9⟩ ⟨h10, h11⟩ (decide_eq_false h12) v (bL v hb) (bE v hb)
end Go.Proofs.YtjijgcgbnmobfaaGreatDoor
