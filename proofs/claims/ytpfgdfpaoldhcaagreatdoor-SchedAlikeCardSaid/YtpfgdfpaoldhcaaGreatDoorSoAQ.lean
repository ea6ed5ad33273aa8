/- Several texts in one: TeCheck. -/
import Derived.Test.YtpfgdfpaoldhcaaGreatDoorSoAP
set_option maxHeartbeats 8000000
set_option maxRecDepth 100000
set_option linter.unusedVariables false
set_option linter.unusedSimpArgs false
namespace Go.Proofs.YtpfgdfpaoldhcaaGreatDoor
open Go.RowKit
theorem zPp (k : Int) : (nm k).toList.isEmpty = decide (k < 0 ∨ 6 < k) := by
 by_cases h : k < 0 ∨ 6 < k
 ·rw [nm_out k h, decide_eq_true h]; decide +kernel
 ·rw [decide_eq_false h]
  rcases of7 k (by omega) with rfl | rfl | rfl | rfl | rfl | rfl | rfl <;> decide +kernel
theorem zAv (k : Int) (s : ByteArray) (w : World) (hs : nm k = s) : Calls Tryz.prog 120 #[.int .i64 k] w fun e w' => e = .returned (.string s) ∧ Below w.heap.size w w' := by
 subst hs; exact zOh k w
theorem rcode_0 (s : ByteArray) (a0 a1 a2 a3 : Addr) (w : World) (h : ErrT a0 a1 a2 a3 w) : Calls Tryz.prog 118 #[.agg #[.string s, .iface 270 (.pointer (some a0))]] w fun e w' => e = .returned (.int .i64 1) ∧ Below w.heap.size w w' := by
 have H := (Held.start w).add (f := zB9 a0 a1 a2 a3) h
 clear h
 go_enter Tryz.func118, Tryz.ntmps118
 obtain ⟨hg, b0, b1, b2, b3, s0, s1, s2, s3, ⟨h0, h1, h2, h3⟩, ⟨n01, n02, n03, n12, n13, n23⟩, r0, r1, r2, r3⟩ := H.errT
 have l0 := zA0 h0
 have l1 := zA0 h1
 have l2 := zA0 h2
 have l3 := zA0 h3
 go_wp2_with fail
 clear hg h0 h1 h2 h3 n01 n02 n03 n12 n13 n23 r0 r1 r2 r3 l0 l1 l2 l3
 replace H := H.pair (w.heap.size) (.string s) (.iface 270 (.pointer (some a0))) 152 rfl
 obtain ⟨hg, b0, b1, b2, b3, s0, s1, s2, s3, ⟨h0, h1, h2, h3⟩, ⟨n01, n02, n03, n12, n13, n23⟩, r0, r1, r2, r3⟩ := H.errT
 have l0 := zA0 h0
 have l1 := zA0 h1
 have l2 := zA0 h2
 have l3 := zA0 h3
 (with_reducible refine (zFd s a0 a0 _ rfl).mono ?_)
 rintro e w1 ⟨rfl, hb⟩
 replace H := H.below hb
 clear hb
 clear hg h0 h1 h2 h3 n01 n02 n03 n12 n13 n23 r0 r1 r2 r3 l0 l1 l2 l3
 go_wp2_with fail
 go_ret
 exact ⟨rfl, H.old⟩
theorem rcode_1 (s : ByteArray) (a0 a1 a2 a3 : Addr) (w : World) (h : ErrT a0 a1 a2 a3 w) : Calls Tryz.prog 118 #[.agg #[.string s, .iface 270 (.pointer (some a1))]] w fun e w' => e = .returned (.int .i64 3) ∧ Below w.heap.size w w' := by
 have H := (Held.start w).add (f := zB9 a0 a1 a2 a3) h
 clear h
 go_enter Tryz.func118, Tryz.ntmps118
 obtain ⟨hg, b0, b1, b2, b3, s0, s1, s2, s3, ⟨h0, h1, h2, h3⟩, ⟨n01, n02, n03, n12, n13, n23⟩, r0, r1, r2, r3⟩ := H.errT
 have l0 := zA0 h0
 have l1 := zA0 h1
 have l2 := zA0 h2
 have l3 := zA0 h3
 go_wp2_with fail
 clear hg h0 h1 h2 h3 n01 n02 n03 n12 n13 n23 r0 r1 r2 r3 l0 l1 l2 l3
 replace H := H.pair (w.heap.size) (.string s) (.iface 270 (.pointer (some a1))) 152 rfl
 obtain ⟨hg, b0, b1, b2, b3, s0, s1, s2, s3, ⟨h0, h1, h2, h3⟩, ⟨n01, n02, n03, n12, n13, n23⟩, r0, r1, r2, r3⟩ := H.errT
 have l0 := zA0 h0
 have l1 := zA0 h1
 have l2 := zA0 h2
 have l3 := zA0 h3
 (with_reducible refine (zD3 s a1 a0 _ b1 b0 s1 s0 (Ne.symm n01) r1 r0).mono ?_)
 rintro e w1 ⟨rfl, hb⟩
 replace H := H.below hb
 clear hb
 clear hg h0 h1 h2 h3 n01 n02 n03 n12 n13 n23 r0 r1 r2 r3 l0 l1 l2 l3
 obtain ⟨hg, b0, b1, b2, b3, s0, s1, s2, s3, ⟨h0, h1, h2, h3⟩, ⟨n01, n02, n03, n12, n13, n23⟩, r0, r1, r2, r3⟩ := H.errT
 have l0 := zA0 h0
 have l1 := zA0 h1
 have l2 := zA0 h2
 have l3 := zA0 h3
 have cr0 := H.cell (w.heap.size) 0 (.string s)
 have cr1 := H.cell (w.heap.size) 1 (.iface 270 (.pointer (some a1)))
 have lr := zA0 cr0
 go_wp2_with fail
 clear cr0 cr1 lr
 clear hg h0 h1 h2 h3 n01 n02 n03 n12 n13 n23 r0 r1 r2 r3 l0 l1 l2 l3
 obtain ⟨hg, b0, b1, b2, b3, s0, s1, s2, s3, ⟨h0, h1, h2, h3⟩, ⟨n01, n02, n03, n12, n13, n23⟩, r0, r1, r2, r3⟩ := H.errT
 have l0 := zA0 h0
 have l1 := zA0 h1
 have l2 := zA0 h2
 have l3 := zA0 h3
 (with_reducible refine (zFd s a1 a1 _ rfl).mono ?_)
 rintro e w2 ⟨rfl, hb⟩
 replace H := H.below hb
 clear hb
 clear hg h0 h1 h2 h3 n01 n02 n03 n12 n13 n23 r0 r1 r2 r3 l0 l1 l2 l3
 go_wp2_with fail
 go_ret
 exact ⟨rfl, H.old⟩
theorem rcode_2 (s : ByteArray) (a0 a1 a2 a3 : Addr) (w : World) (h : ErrT a0 a1 a2 a3 w) : Calls Tryz.prog 118 #[.agg #[.string s, .iface 270 (.pointer (some a2))]] w fun e w' => e = .returned (.int .i64 4) ∧ Below w.heap.size w w' := by
 have H := (Held.start w).add (f := zB9 a0 a1 a2 a3) h
 clear h
 go_enter Tryz.func118, Tryz.ntmps118
 obtain ⟨hg, b0, b1, b2, b3, s0, s1, s2, s3, ⟨h0, h1, h2, h3⟩, ⟨n01, n02, n03, n12, n13, n23⟩, r0, r1, r2, r3⟩ := H.errT
 have l0 := zA0 h0
 have l1 := zA0 h1
 have l2 := zA0 h2
 have l3 := zA0 h3
 go_wp2_with fail
 clear hg h0 h1 h2 h3 n01 n02 n03 n12 n13 n23 r0 r1 r2 r3 l0 l1 l2 l3
 replace H := H.pair (w.heap.size) (.string s) (.iface 270 (.pointer (some a2))) 152 rfl
 obtain ⟨hg, b0, b1, b2, b3, s0, s1, s2, s3, ⟨h0, h1, h2, h3⟩, ⟨n01, n02, n03, n12, n13, n23⟩, r0, r1, r2, r3⟩ := H.errT
 have l0 := zA0 h0
 have l1 := zA0 h1
 have l2 := zA0 h2
 have l3 := zA0 h3
 (with_reducible refine (zD3 s a2 a0 _ b2 b0 s2 s0 (Ne.symm n02) r2 r0).mono ?_)
 rintro e w1 ⟨rfl, hb⟩
 replace H := H.below hb
 clear hb
 clear hg h0 h1 h2 h3 n01 n02 n03 n12 n13 n23 r0 r1 r2 r3 l0 l1 l2 l3
 obtain ⟨hg, b0, b1, b2, b3, s0, s1, s2, s3, ⟨h0, h1, h2, h3⟩, ⟨n01, n02, n03, n12, n13, n23⟩, r0, r1, r2, r3⟩ := H.errT
 have l0 := zA0 h0
 have l1 := zA0 h1
 have l2 := zA0 h2
 have l3 := zA0 h3
 have cr0 := H.cell (w.heap.size) 0 (.string s)
 have cr1 := H.cell (w.heap.size) 1 (.iface 270 (.pointer (some a2)))
 have lr := zA0 cr0
 go_wp2_with fail
 clear cr0 cr1 lr
 clear hg h0 h1 h2 h3 n01 n02 n03 n12 n13 n23 r0 r1 r2 r3 l0 l1 l2 l3
 obtain ⟨hg, b0, b1, b2, b3, s0, s1, s2, s3, ⟨h0, h1, h2, h3⟩, ⟨n01, n02, n03, n12, n13, n23⟩, r0, r1, r2, r3⟩ := H.errT
 have l0 := zA0 h0
 have l1 := zA0 h1
 have l2 := zA0 h2
 have l3 := zA0 h3
 (with_reducible refine (zD3 s a2 a1 _ b2 b1 s2 s1 (Ne.symm n12) r2 r1).mono ?_)
 rintro e w2 ⟨rfl, hb⟩
 replace H := H.below hb
 clear hb
 clear hg h0 h1 h2 h3 n01 n02 n03 n12 n13 n23 r0 r1 r2 r3 l0 l1 l2 l3
 obtain ⟨hg, b0, b1, b2, b3, s0, s1, s2, s3, ⟨h0, h1, h2, h3⟩, ⟨n01, n02, n03, n12, n13, n23⟩, r0, r1, r2, r3⟩ := H.errT
 have l0 := zA0 h0
 have l1 := zA0 h1
 have l2 := zA0 h2
 have l3 := zA0 h3
 have cr0 := H.cell (w.heap.size) 0 (.string s)
 have cr1 := H.cell (w.heap.size) 1 (.iface 270 (.pointer (some a2)))
 have lr := zA0 cr0
 go_wp2_with fail
 clear cr0 cr1 lr
 clear hg h0 h1 h2 h3 n01 n02 n03 n12 n13 n23 r0 r1 r2 r3 l0 l1 l2 l3
 obtain ⟨hg, b0, b1, b2, b3, s0, s1, s2, s3, ⟨h0, h1, h2, h3⟩, ⟨n01, n02, n03, n12, n13, n23⟩, r0, r1, r2, r3⟩ := H.errT
 have l0 := zA0 h0
 have l1 := zA0 h1
 have l2 := zA0 h2
 have l3 := zA0 h3
 (with_reducible refine (zFd s a2 a2 _ rfl).mono ?_)
 rintro e w3 ⟨rfl, hb⟩
 replace H := H.below hb
 clear hb
 clear hg h0 h1 h2 h3 n01 n02 n03 n12 n13 n23 r0 r1 r2 r3 l0 l1 l2 l3
 go_wp2_with fail
 go_ret
 exact ⟨rfl, H.old⟩
theorem rcode_3 (s : ByteArray) (a0 a1 a2 a3 : Addr) (w : World) (h : ErrT a0 a1 a2 a3 w) : Calls Tryz.prog 118 #[.agg #[.string s, .iface 270 (.pointer (some a3))]] w fun e w' => e = .returned (.int .i64 2) ∧ Below w.heap.size w w' := by
 have H := (Held.start w).add (f := zB9 a0 a1 a2 a3) h
 clear h
 go_enter Tryz.func118, Tryz.ntmps118
 obtain ⟨hg, b0, b1, b2, b3, s0, s1, s2, s3, ⟨h0, h1, h2, h3⟩, ⟨n01, n02, n03, n12, n13, n23⟩, r0, r1, r2, r3⟩ := H.errT
 have l0 := zA0 h0
 have l1 := zA0 h1
 have l2 := zA0 h2
 have l3 := zA0 h3
 go_wp2_with fail
 clear hg h0 h1 h2 h3 n01 n02 n03 n12 n13 n23 r0 r1 r2 r3 l0 l1 l2 l3
 replace H := H.pair (w.heap.size) (.string s) (.iface 270 (.pointer (some a3))) 152 rfl
 obtain ⟨hg, b0, b1, b2, b3, s0, s1, s2, s3, ⟨h0, h1, h2, h3⟩, ⟨n01, n02, n03, n12, n13, n23⟩, r0, r1, r2, r3⟩ := H.errT
 have l0 := zA0 h0
 have l1 := zA0 h1
 have l2 := zA0 h2
 have l3 := zA0 h3
 (with_reducible refine (zD3 s a3 a0 _ b3 b0 s3 s0 (Ne.symm n03) r3 r0).mono ?_)
 rintro e w1 ⟨rfl, hb⟩
 replace H := H.below hb
 clear hb
 clear hg h0 h1 h2 h3 n01 n02 n03 n12 n13 n23 r0 r1 r2 r3 l0 l1 l2 l3
 obtain ⟨hg, b0, b1, b2, b3, s0, s1, s2, s3, ⟨h0, h1, h2, h3⟩, ⟨n01, n02, n03, n12, n13, n23⟩, r0, r1, r2, r3⟩ := H.errT
 have l0 := zA0 h0
 have l1 := zA0 h1
 have l2 := zA0 h2
 have l3 := zA0 h3
 have cr0 := H.cell (w.heap.size) 0 (.string s)
 have cr1 := H.cell (w.heap.size) 1 (.iface 270 (.pointer (some a3)))
 have lr := zA0 cr0
 go_wp2_with fail
 clear cr0 cr1 lr
 clear hg h0 h1 h2 h3 n01 n02 n03 n12 n13 n23 r0 r1 r2 r3 l0 l1 l2 l3
 obtain ⟨hg, b0, b1, b2, b3, s0, s1, s2, s3, ⟨h0, h1, h2, h3⟩, ⟨n01, n02, n03, n12, n13, n23⟩, r0, r1, r2, r3⟩ := H.errT
 have l0 := zA0 h0
 have l1 := zA0 h1
 have l2 := zA0 h2
 have l3 := zA0 h3
 (with_reducible refine (zD3 s a3 a1 _ b3 b1 s3 s1 (Ne.symm n13) r3 r1).mono ?_)
 rintro e w2 ⟨rfl, hb⟩
 replace H := H.below hb
 clear hb
 clear hg h0 h1 h2 h3 n01 n02 n03 n12 n13 n23 r0 r1 r2 r3 l0 l1 l2 l3
 obtain ⟨hg, b0, b1, b2, b3, s0, s1, s2, s3, ⟨h0, h1, h2, h3⟩, ⟨n01, n02, n03, n12, n13, n23⟩, r0, r1, r2, r3⟩ := H.errT
 have l0 := zA0 h0
 have l1 := zA0 h1
 have l2 := zA0 h2
 have l3 := zA0 h3
 have cr0 := H.cell (w.heap.size) 0 (.string s)
 have cr1 := H.cell (w.heap.size) 1 (.iface 270 (.pointer (some a3)))
 have lr := zA0 cr0
 go_wp2_with fail
 clear cr0 cr1 lr
 clear hg h0 h1 h2 h3 n01 n02 n03 n12 n13 n23 r0 r1 r2 r3 l0 l1 l2 l3
 obtain ⟨hg, b0, b1, b2, b3, s0, s1, s2, s3, ⟨h0, h1, h2, h3⟩, ⟨n01, n02, n03, n12, n13, n23⟩, r0, r1, r2, r3⟩ := H.errT
 have l0 := zA0 h0
 have l1 := zA0 h1
 have l2 := zA0 h2
 have l3 := zA0 h3
 (with_reducible refine (zD3 s a3 a2 _ b3 b2 s3 s2 (Ne.symm n23) r3 r2).mono ?_)
 rintro e w3 ⟨rfl, hb⟩
 replace H := H.below hb
 clear hb
 clear hg h0 h1 h2 h3 n01 n02 n03 n12 n13 n23 r0 r1 r2 r3 l0 l1 l2 l3
 go_wp2_with fail
 go_ret
 exact ⟨rfl, H.old⟩
theorem zR1 (w : World) : Calls Tryz.prog 107 #[.nilIface] w fun e w' => e = .returned (.int .i64 0) ∧ Below w.heap.size w w' := by
 have H := Held.start w
 go_enter Tryz.func107, Tryz.ntmps107
 go_wp2_with fail
 replace H := H.pair (w.heap.size) (.string ⟨#[]⟩) .nilIface 152 rfl
 (with_reducible refine (zNx _ _).mono ?_)
 rintro e w1 ⟨rfl, rfl⟩
 go_wp2_with fail
 go_ret
 exact ⟨rfl, H.old⟩
theorem tcode_0 (s : ByteArray) (a0 a1 a2 a3 : Addr) (w : World) (h : ErrT a0 a1 a2 a3 w) : Calls Tryz.prog 107 #[.iface 152 (.agg #[.string s, .iface 270 (.pointer (some a0))])] w fun e w' => e = .returned (.int .i64 1) ∧ Below w.heap.size w w' := by
 have HE := Lib.hid h
 have H := (Held.start w).add (f := .cell 4 0 _) h.1
 clear h
 go_enter Tryz.func107, Tryz.ntmps107
 go_wp2_with fail
 replace H := H.pair (w.heap.size) (.string ⟨#[]⟩) .nilIface 152 rfl
 (with_reducible refine (zDk s 270 (.pointer (some a0)) (.string ⟨#[]⟩) .nilIface w.heap.size _ (H.cell _ _ _) (H.cell _ _ _) (H.cell _ _ _) (H.frozen _ _) (H.frozen _ _)).mono ?_)
 rintro e w1 ⟨rfl, hw⟩
 have B0 := H.old
 have c0 := H.cell (w.heap.size) 0 _ i0_
 have c1 := H.cell (w.heap.size) 1 _ i1_
 obtain ⟨W0, hW0⟩ : ∃ W0, w.alloc (.cells #[.string ⟨#[]⟩, .nilIface] 152) = W0 := ⟨_, rfl⟩
 rw [hW0] at hw H c0 c1 B0
 have l0 := zA0 c0
 have B1 : Below w.heap.size w w1 := by
  rw [hw]
  repeat (first | exact B0 | refine Below.setCell ?_ (by simp) _ | refine Below.alloc ?_ (by first | omega | (simp; omega)) _)
 have d0 : w1.cell? ⟨w.heap.size, 0, none⟩ = some (.string s) := by
  rw [hw]
  rw [World.cell?_setCell_other _ _ _ _ (by simp)]
  refine World.cell?_setCell_same' _ _ _ ?_
  rw [World.cell?_alloc_lt _ _ _ (by simp; omega), World.cell?_alloc_lt _ _ _ (by simp; omega), World.cell?_alloc_lt _ _ _ (by simp; omega), World.cell?_alloc_lt _ _ _ l0, c0]
  rfl
 have d1 : w1.cell? ⟨w.heap.size, 1, none⟩ = some (.iface 270 (.pointer (some a0))) := by
  rw [hw]
  refine World.cell?_setCell_same' _ _ _ ?_
  rw [World.cell?_setCell_other _ _ _ _ (by simp)]
  rw [World.cell?_alloc_lt _ _ _ (by simp; omega), World.cell?_alloc_lt _ _ _ (by simp; omega), World.cell?_alloc_lt _ _ _ (by simp; omega), World.cell?_alloc_lt _ _ _ l0, c1]
  rfl
 clear hw H B0 c0 c1 l0 hW0
 have H := ((Held.start w).add (f := zB9 a0 a1 a2 a3) HE.out).below B1
 have ld := zA0 d0
 go_wp2_with fail
 (with_reducible refine (rcode_0 s a0 a1 a2 a3 _ (H.errT)).mono ?_)
 rintro e w2 ⟨rfl, hb⟩
 replace H := H.below hb
 clear hb d0 d1 ld
 go_wp2_with fail
 go_ret
 exact ⟨rfl, H.old⟩
theorem tcode_1 (s : ByteArray) (a0 a1 a2 a3 : Addr) (w : World) (h : ErrT a0 a1 a2 a3 w) : Calls Tryz.prog 107 #[.iface 152 (.agg #[.string s, .iface 270 (.pointer (some a1))])] w fun e w' => e = .returned (.int .i64 3) ∧ Below w.heap.size w w' := by
 have HE := Lib.hid h
 have H := (Held.start w).add (f := .cell 4 0 _) h.1
 clear h
 go_enter Tryz.func107, Tryz.ntmps107
 go_wp2_with fail
 replace H := H.pair (w.heap.size) (.string ⟨#[]⟩) .nilIface 152 rfl
 (with_reducible refine (zDk s 270 (.pointer (some a1)) (.string ⟨#[]⟩) .nilIface w.heap.size _ (H.cell _ _ _) (H.cell _ _ _) (H.cell _ _ _) (H.frozen _ _) (H.frozen _ _)).mono ?_)
 rintro e w1 ⟨rfl, hw⟩
 have B0 := H.old
 have c0 := H.cell (w.heap.size) 0 _ i0_
 have c1 := H.cell (w.heap.size) 1 _ i1_
 obtain ⟨W0, hW0⟩ : ∃ W0, w.alloc (.cells #[.string ⟨#[]⟩, .nilIface] 152) = W0 := ⟨_, rfl⟩
 rw [hW0] at hw H c0 c1 B0
 have l0 := zA0 c0
 have B1 : Below w.heap.size w w1 := by
  rw [hw]
  repeat (first | exact B0 | refine Below.setCell ?_ (by simp) _ | refine Below.alloc ?_ (by first | omega | (simp; omega)) _)
 have d0 : w1.cell? ⟨w.heap.size, 0, none⟩ = some (.string s) := by
  rw [hw]
  rw [World.cell?_setCell_other _ _ _ _ (by simp)]
  refine World.cell?_setCell_same' _ _ _ ?_
  rw [World.cell?_alloc_lt _ _ _ (by simp; omega), World.cell?_alloc_lt _ _ _ (by simp; omega), World.cell?_alloc_lt _ _ _ (by simp; omega), World.cell?_alloc_lt _ _ _ l0, c0]
  rfl
 have d1 : w1.cell? ⟨w.heap.size, 1, none⟩ = some (.iface 270 (.pointer (some a1))) := by
  rw [hw]
  refine World.cell?_setCell_same' _ _ _ ?_
  rw [World.cell?_setCell_other _ _ _ _ (by simp)]
  rw [World.cell?_alloc_lt _ _ _ (by simp; omega), World.cell?_alloc_lt _ _ _ (by simp; omega), World.cell?_alloc_lt _ _ _ (by simp; omega), World.cell?_alloc_lt _ _ _ l0, c1]
  rfl
 clear hw H B0 c0 c1 l0 hW0
 have H := ((Held.start w).add (f := zB9 a0 a1 a2 a3) HE.out).below B1
 have ld := zA0 d0
 go_wp2_with fail
 (with_reducible refine (rcode_1 s a0 a1 a2 a3 _ (H.errT)).mono ?_)
 rintro e w2 ⟨rfl, hb⟩
 replace H := H.below hb
 clear hb d0 d1 ld
 go_wp2_with fail
 go_ret
 exact ⟨rfl, H.old⟩
theorem tcode_2 (s : ByteArray) (a0 a1 a2 a3 : Addr) (w : World) (h : ErrT a0 a1 a2 a3 w) : Calls Tryz.prog 107 #[.iface 152 (.agg #[.string s, .iface 270 (.pointer (some a2))])] w fun e w' => e = .returned (.int .i64 4) ∧ Below w.heap.size w w' := by
 have HE := Lib.hid h
 have H := (Held.start w).add (f := .cell 4 0 _) h.1
 clear h
 go_enter Tryz.func107, Tryz.ntmps107
 go_wp2_with fail
 replace H := H.pair (w.heap.size) (.string ⟨#[]⟩) .nilIface 152 rfl
 (with_reducible refine (zDk s 270 (.pointer (some a2)) (.string ⟨#[]⟩) .nilIface w.heap.size _ (H.cell _ _ _) (H.cell _ _ _) (H.cell _ _ _) (H.frozen _ _) (H.frozen _ _)).mono ?_)
 rintro e w1 ⟨rfl, hw⟩
 have B0 := H.old
 have c0 := H.cell (w.heap.size) 0 _ i0_
 have c1 := H.cell (w.heap.size) 1 _ i1_
 obtain ⟨W0, hW0⟩ : ∃ W0, w.alloc (.cells #[.string ⟨#[]⟩, .nilIface] 152) = W0 := ⟨_, rfl⟩
 rw [hW0] at hw H c0 c1 B0
 have l0 := zA0 c0
 have B1 : Below w.heap.size w w1 := by
  rw [hw]
  repeat (first | exact B0 | refine Below.setCell ?_ (by simp) _ | refine Below.alloc ?_ (by first | omega | (simp; omega)) _)
 have d0 : w1.cell? ⟨w.heap.size, 0, none⟩ = some (.string s) := by
  rw [hw]
  rw [World.cell?_setCell_other _ _ _ _ (by simp)]
  refine World.cell?_setCell_same' _ _ _ ?_
  rw [World.cell?_alloc_lt _ _ _ (by simp; omega), World.cell?_alloc_lt _ _ _ (by simp; omega), World.cell?_alloc_lt _ _ _ (by simp; omega), World.cell?_alloc_lt _ _ _ l0, c0]
  rfl
 have d1 : w1.cell? ⟨w.heap.size, 1, none⟩ = some (.iface 270 (.pointer (some a2))) := by
  rw [hw]
  refine World.cell?_setCell_same' _ _ _ ?_
  rw [World.cell?_setCell_other _ _ _ _ (by simp)]
  rw [World.cell?_alloc_lt _ _ _ (by simp; omega), World.cell?_alloc_lt _ _ _ (by simp; omega), World.cell?_alloc_lt _ _ _ (by simp; omega), World.cell?_alloc_lt _ _ _ l0, c1]
  rfl
 clear hw H B0 c0 c1 l0 hW0
 have H := ((Held.start w).add (f := zB9 a0 a1 a2 a3) HE.out).below B1
 have ld := zA0 d0
 go_wp2_with fail
 (with_reducible refine (rcode_2 s a0 a1 a2 a3 _ (H.errT)).mono ?_)
 rintro e w2 ⟨rfl, hb⟩
 replace H := H.below hb
 clear hb d0 d1 ld
 go_wp2_with fail
 go_ret
 exact ⟨rfl, H.old⟩
theorem tcode_3 (s : ByteArray) (a0 a1 a2 a3 : Addr) (w : World) (h : ErrT a0 a1 a2 a3 w) : Calls Tryz.prog 107 #[.iface 152 (.agg #[.string s, .iface 270 (.pointer (some a3))])] w fun e w' => e = .returned (.int .i64 2) ∧ Below w.heap.size w w' := by
 have HE := Lib.hid h
 have H := (Held.start w).add (f := .cell 4 0 _) h.1
 clear h
 go_enter Tryz.func107, Tryz.ntmps107
 go_wp2_with fail
 replace H := H.pair (w.heap.size) (.string ⟨#[]⟩) .nilIface 152 rfl
 (with_reducible refine (zDk s 270 (.pointer (some a3)) (.string ⟨#[]⟩) .nilIface w.heap.size _ (H.cell _ _ _) (H.cell _ _ _) (H.cell _ _ _) (H.frozen _ _) (H.frozen _ _)).mono ?_)
 rintro e w1 ⟨rfl, hw⟩
 have B0 := H.old
 have c0 := H.cell (w.heap.size) 0 _ i0_
 have c1 := H.cell (w.heap.size) 1 _ i1_
 obtain ⟨W0, hW0⟩ : ∃ W0, w.alloc (.cells #[.string ⟨#[]⟩, .nilIface] 152) = W0 := ⟨_, rfl⟩
 rw [hW0] at hw H c0 c1 B0
 have l0 := zA0 c0
 have B1 : Below w.heap.size w w1 := by
  rw [hw]
  repeat (first | exact B0 | refine Below.setCell ?_ (by simp) _ | refine Below.alloc ?_ (by first | omega | (simp; omega)) _)
 have d0 : w1.cell? ⟨w.heap.size, 0, none⟩ = some (.string s) := by
  rw [hw]
  rw [World.cell?_setCell_other _ _ _ _ (by simp)]
  refine World.cell?_setCell_same' _ _ _ ?_
  rw [World.cell?_alloc_lt _ _ _ (by simp; omega), World.cell?_alloc_lt _ _ _ (by simp; omega), World.cell?_alloc_lt _ _ _ (by simp; omega), World.cell?_alloc_lt _ _ _ l0, c0]
  rfl
 have d1 : w1.cell? ⟨w.heap.size, 1, none⟩ = some (.iface 270 (.pointer (some a3))) := by
  rw [hw]
  refine World.cell?_setCell_same' _ _ _ ?_
  rw [World.cell?_setCell_other _ _ _ _ (by simp)]
  rw [World.cell?_alloc_lt _ _ _ (by simp; omega), World.cell?_alloc_lt _ _ _ (by simp; omega), World.cell?_alloc_lt _ _ _ (by simp; omega), World.cell?_alloc_lt _ _ _ l0, c1]
  rfl
 clear hw H B0 c0 c1 l0 hW0
 have H := ((Held.start w).add (f := zB9 a0 a1 a2 a3) HE.out).below B1
 have ld := zA0 d0
 go_wp2_with fail
 (with_reducible refine (rcode_3 s a0 a1 a2 a3 _ (H.errT)).mono ?_)
 rintro e w2 ⟨rfl, hb⟩
 replace H := H.below hb
 clear hb d0 d1 ld
 go_wp2_with fail
 go_ret
 exact ⟨rfl, H.old⟩
theorem zJm (n y m d e : Int) (b : Bool) (w : World) (hL : FactsT w) (hd : zCb n y m d e) (hb : (e == 0) = b) : Calls Tryz.prog 122 #[.int .i64 n] w fun e w' => e = .returned (.bool b) ∧ Below w.heap.size w w' := by
 have H := (Held.start w).add (f := zAm) hL
 have HD := Lib.hid hd
 clear hL hd
 go_enter Tryz.func122, Tryz.ntmps122
 go_wp2_with fail
 (with_reducible refine (zAl n y m d e _ (H.lensT) HD.out).mono ?_)
 rintro e w1 ⟨rfl, hb⟩
 replace H := H.below hb
 clear hb
 go_wp2_with fail
 go_ret
 exact ⟨rfl, (H.alloc _).old⟩
theorem zAq (n : Int) (b : Bool) (w : World) (hL : FactsT w) (h : decide (1 ≤ n ∧ n ≤ 3652059) = b) : Calls Tryz.prog 122 #[.int .i64 n] w fun e w' => e = .returned (.bool b) ∧ Below w.heap.size w w' := by
 obtain ⟨y, m, d, e, hd⟩ := day_is n
 refine zJm n y m d e b w hL hd ?_
 rw [← h]
 rcases hd with ⟨h1, h2, rfl⟩ | ⟨h1, _, _, _, rfl⟩
 ·have := zC8 _ _ _ h1
  rw [h2] at this
  exact (decide_eq_true this).symm
 ·rw [decide_eq_false (by omega)]; rfl
theorem zKv (m r : Int) (b : Bool) (w : World) (hm : 1 ≤ m ∧ m ≤ 1000000000000000) (hr : 0 ≤ r ∧ r ≤ 1000000) (h : decide (9000000000000000000 < m * r) = b) : Calls Tryz.prog 123 #[.int .i64 m, .int .i64 r] w fun e w' => e = .returned (.bool b) ∧ Below w.heap.size w w' := by
 by_cases h0 : r > 0
 ·have t0 : decide (r > 0) = true := decide_eq_true h0
  have q0 : (r == 0) = false := beq_eq_false_iff_ne.2 (by omega)
  have hq := Int.ediv_nonneg (a := 9000000000000000000) (b := r) (by omega) (by omega)
  have hq2 := Int.ediv_le_self (a := 9000000000000000000) r (by omega)
  have hd : IntKind.i64.wrap ((9000000000000000000 : Int).tdiv r) = 9000000000000000000 / r := by
   rw [Int.tdiv_eq_ediv_of_nonneg (by omega)]
   rw [IntKind.wrap_i64]
   omega
  have t1 : decide (m > 9000000000000000000 / r) = b := by
   rw [← h]
   exact decide_eq_decide.2 (zO1 h0)
  obtain ⟨q, hqq⟩ : ∃ q, (9000000000000000000 : Int) / r = q := ⟨_, rfl⟩
  rw [hqq] at hd t1
  clear h hq hq2 hqq
  go_enter Tryz.func123, Tryz.ntmps123
  go_wp2
  go_ret
  exact ⟨rfl, Below.refl _ _⟩
 ·obtain rfl : r = 0 := by omega
  rw [Int.mul_zero] at h
  have hb : b = false := h.symm.trans (decide_eq_false (by omega))
  subst hb
  clear h h0
  go_enter Tryz.func123, Tryz.ntmps123
  go_wp2
  go_ret
  exact ⟨rfl, Below.refl _ _⟩
theorem zMf (mo ra ki co st en ms : Int) (bk lg eo : Bool) (ro : Int) (a0 a1 a2 a3 : Addr) (S1 : ByteArray) (hs1 : tn ki = S1) (e1 : S1.toList.isEmpty = true) (w : World) (hL : FactsT w) (hE : ErrT a0 a1 a2 a3 w) : Calls Tryz.prog 108 #[.agg #[.int .i64 mo, .int .i64 ra, .int .i64 ki, .int .i64 co, .int .i64 st, .int .i64 en, .int .i64 ms, .bool bk, .bool lg, .bool eo, .int .i64 ro]] w fun e w' => (∃ s, e = .returned (.iface 152 (.agg #[.string s, .iface 270 (.pointer (some a0))]))) ∧ Below w.heap.size w w' := by
 have H := ((Held.start w).add (f := zAm) hL).add (f := zB9 a0 a1 a2 a3) hE
 clear hL hE
 replace hs1 := Lib.hid hs1
 go_enter Tryz.func108, Tryz.ntmps108
 go_wp2_with fail
 replace H := H.box_11 (w.heap.size) (.int .i64 mo) (.int .i64 ra) (.int .i64 ki) (.int .i64 co) (.int .i64 st) (.int .i64 en) (.int .i64 ms) (.bool bk) (.bool lg) (.bool eo) (.int .i64 ro) 23 rfl
 (with_reducible refine (zBd ki S1 _ (H.factsT) hs1.out).mono ?_)
 rintro e w1 ⟨rfl, hb⟩
 replace H := H.below hb
 clear hb
 obtain ⟨hg, b0, b1, b2, b3, s0, s1, s2, s3, ⟨h0, h1, h2, h3⟩, ⟨n01, n02, n03, n12, n13, n23⟩, r0, r1, r2, r3⟩ := H.errT
 have l0 := zA0 h0
 have l1 := zA0 h1
 have l2 := zA0 h2
 have l3 := zA0 h3
 obtain ⟨ct0, ct1, ct2, ct3, ct4, ct5, ct6, ct7, ct8, ct9, ct10⟩ := H.cells11 (w.heap.size)
 have lt := zA0 ct0
 go_wp2_with fail
 clear ct0 ct1 ct2 ct3 ct4 ct5 ct6 ct7 ct8 ct9 ct10 lt
 go_ret
 exact ⟨⟨_, rfl⟩, H.old⟩
theorem zJb (mo ra ki co st en ms : Int) (bk lg eo : Bool) (ro : Int) (a0 a1 a2 a3 : Addr) (S1 : ByteArray) (hs1 : tn ki = S1) (e1 : S1.toList.isEmpty = false) (S2 : ByteArray) (hs2 : nm co = S2) (e2 : S2.toList.isEmpty = true) (w : World) (hL : FactsT w) (hE : ErrT a0 a1 a2 a3 w) : Calls Tryz.prog 108 #[.agg #[.int .i64 mo, .int .i64 ra, .int .i64 ki, .int .i64 co, .int .i64 st, .int .i64 en, .int .i64 ms, .bool bk, .bool lg, .bool eo, .int .i64 ro]] w fun e w' => (∃ s, e = .returned (.iface 152 (.agg #[.string s, .iface 270 (.pointer (some a0))]))) ∧ Below w.heap.size w w' := by
 have H := ((Held.start w).add (f := zAm) hL).add (f := zB9 a0 a1 a2 a3) hE
 clear hL hE
 replace hs1 := Lib.hid hs1
 replace hs2 := Lib.hid hs2
 go_enter Tryz.func108, Tryz.ntmps108
 go_wp2_with fail
 replace H := H.box_11 (w.heap.size) (.int .i64 mo) (.int .i64 ra) (.int .i64 ki) (.int .i64 co) (.int .i64 st) (.int .i64 en) (.int .i64 ms) (.bool bk) (.bool lg) (.bool eo) (.int .i64 ro) 23 rfl
 (with_reducible refine (zBd ki S1 _ (H.factsT) hs1.out).mono ?_)
 rintro e w1 ⟨rfl, hb⟩
 replace H := H.below hb
 clear hb
 obtain ⟨ct0, ct1, ct2, ct3, ct4, ct5, ct6, ct7, ct8, ct9, ct10⟩ := H.cells11 (w.heap.size)
 have lt := zA0 ct0
 go_wp2_with fail
 clear ct0 ct1 ct2 ct3 ct4 ct5 ct6 ct7 ct8 ct9 ct10 lt
 (with_reducible refine (zAv co S2 _ hs2.out).mono ?_)
 rintro e w2 ⟨rfl, hb⟩
 replace H := H.below hb
 clear hb
 obtain ⟨hg, b0, b1, b2, b3, s0, s1, s2, s3, ⟨h0, h1, h2, h3⟩, ⟨n01, n02, n03, n12, n13, n23⟩, r0, r1, r2, r3⟩ := H.errT
 have l0 := zA0 h0
 have l1 := zA0 h1
 have l2 := zA0 h2
 have l3 := zA0 h3
 obtain ⟨ct0, ct1, ct2, ct3, ct4, ct5, ct6, ct7, ct8, ct9, ct10⟩ := H.cells11 (w.heap.size)
 have lt := zA0 ct0
 go_wp2_with fail
 clear ct0 ct1 ct2 ct3 ct4 ct5 ct6 ct7 ct8 ct9 ct10 lt
 go_ret
 exact ⟨⟨_, rfl⟩, H.old⟩
theorem zMi (mo ra ki co st en ms : Int) (bk lg eo : Bool) (ro : Int) (a0 a1 a2 a3 : Addr) (S1 : ByteArray) (hs1 : tn ki = S1) (e1 : S1.toList.isEmpty = false) (S2 : ByteArray) (hs2 : nm co = S2) (e2 : S2.toList.isEmpty = false) (S3 : ByteArray) (hs3 : rn ro = S3) (e3 : S3.toList.isEmpty = true) (w : World) (hL : FactsT w) (hE : ErrT a0 a1 a2 a3 w) : Calls Tryz.prog 108 #[.agg #[.int .i64 mo, .int .i64 ra, .int .i64 ki, .int .i64 co, .int .i64 st, .int .i64 en, .int .i64 ms, .bool bk, .bool lg, .bool eo, .int .i64 ro]] w fun e w' => (∃ s, e = .returned (.iface 152 (.agg #[.string s, .iface 270 (.pointer (some a0))]))) ∧ Below w.heap.size w w' := by
 have H := ((Held.start w).add (f := zAm) hL).add (f := zB9 a0 a1 a2 a3) hE
 clear hL hE
 replace hs1 := Lib.hid hs1
 replace hs2 := Lib.hid hs2
 replace hs3 := Lib.hid hs3
 go_enter Tryz.func108, Tryz.ntmps108
 go_wp2_with fail
 replace H := H.box_11 (w.heap.size) (.int .i64 mo) (.int .i64 ra) (.int .i64 ki) (.int .i64 co) (.int .i64 st) (.int .i64 en) (.int .i64 ms) (.bool bk) (.bool lg) (.bool eo) (.int .i64 ro) 23 rfl
 (with_reducible refine (zBd ki S1 _ (H.factsT) hs1.out).mono ?_)
 rintro e w1 ⟨rfl, hb⟩
 replace H := H.below hb
 clear hb
 obtain ⟨ct0, ct1, ct2, ct3, ct4, ct5, ct6, ct7, ct8, ct9, ct10⟩ := H.cells11 (w.heap.size)
 have lt := zA0 ct0
 go_wp2_with fail
 clear ct0 ct1 ct2 ct3 ct4 ct5 ct6 ct7 ct8 ct9 ct10 lt
 (with_reducible refine (zAv co S2 _ hs2.out).mono ?_)
 rintro e w2 ⟨rfl, hb⟩
 replace H := H.below hb
 clear hb
 obtain ⟨ct0, ct1, ct2, ct3, ct4, ct5, ct6, ct7, ct8, ct9, ct10⟩ := H.cells11 (w.heap.size)
 have lt := zA0 ct0
 go_wp2_with fail
 clear ct0 ct1 ct2 ct3 ct4 ct5 ct6 ct7 ct8 ct9 ct10 lt
 (with_reducible refine (zB7 ro S3 _ (H.factsT) hs3.out).mono ?_)
 rintro e w3 ⟨rfl, hb⟩
 replace H := H.below hb
 clear hb
 obtain ⟨hg, b0, b1, b2, b3, s0, s1, s2, s3, ⟨h0, h1, h2, h3⟩, ⟨n01, n02, n03, n12, n13, n23⟩, r0, r1, r2, r3⟩ := H.errT
 have l0 := zA0 h0
 have l1 := zA0 h1
 have l2 := zA0 h2
 have l3 := zA0 h3
 obtain ⟨ct0, ct1, ct2, ct3, ct4, ct5, ct6, ct7, ct8, ct9, ct10⟩ := H.cells11 (w.heap.size)
 have lt := zA0 ct0
 go_wp2_with fail
 clear ct0 ct1 ct2 ct3 ct4 ct5 ct6 ct7 ct8 ct9 ct10 lt
 go_ret
 exact ⟨⟨_, rfl⟩, H.old⟩
theorem zHq (mo ra ki co st en ms : Int) (bk lg eo : Bool) (ro : Int) (a0 a1 a2 a3 : Addr) (S1 : ByteArray) (hs1 : tn ki = S1) (e1 : S1.toList.isEmpty = false) (S2 : ByteArray) (hs2 : nm co = S2) (e2 : S2.toList.isEmpty = false) (S3 : ByteArray) (hs3 : rn ro = S3) (e3 : S3.toList.isEmpty = false) (r4 : Int) (hs4 : fr ms = r4) (e4 : (r4 == 0) = true) (w : World) (hL : FactsT w) (hE : ErrT a0 a1 a2 a3 w) : Calls Tryz.prog 108 #[.agg #[.int .i64 mo, .int .i64 ra, .int .i64 ki, .int .i64 co, .int .i64 st, .int .i64 en, .int .i64 ms, .bool bk, .bool lg, .bool eo, .int .i64 ro]] w fun e w' => (∃ s, e = .returned (.iface 152 (.agg #[.string s, .iface 270 (.pointer (some a0))]))) ∧ Below w.heap.size w w' := by
 have H := ((Held.start w).add (f := zAm) hL).add (f := zB9 a0 a1 a2 a3) hE
 clear hL hE
 replace hs1 := Lib.hid hs1
 replace hs2 := Lib.hid hs2
 replace hs3 := Lib.hid hs3
 replace hs4 := Lib.hid hs4
 go_enter Tryz.func108, Tryz.ntmps108
 go_wp2_with fail
 replace H := H.box_11 (w.heap.size) (.int .i64 mo) (.int .i64 ra) (.int .i64 ki) (.int .i64 co) (.int .i64 st) (.int .i64 en) (.int .i64 ms) (.bool bk) (.bool lg) (.bool eo) (.int .i64 ro) 23 rfl
 (with_reducible refine (zBd ki S1 _ (H.factsT) hs1.out).mono ?_)
 rintro e w1 ⟨rfl, hb⟩
 replace H := H.below hb
 clear hb
 obtain ⟨ct0, ct1, ct2, ct3, ct4, ct5, ct6, ct7, ct8, ct9, ct10⟩ := H.cells11 (w.heap.size)
 have lt := zA0 ct0
 go_wp2_with fail
 clear ct0 ct1 ct2 ct3 ct4 ct5 ct6 ct7 ct8 ct9 ct10 lt
 (with_reducible refine (zAv co S2 _ hs2.out).mono ?_)
 rintro e w2 ⟨rfl, hb⟩
 replace H := H.below hb
 clear hb
 obtain ⟨ct0, ct1, ct2, ct3, ct4, ct5, ct6, ct7, ct8, ct9, ct10⟩ := H.cells11 (w.heap.size)
 have lt := zA0 ct0
 go_wp2_with fail
 clear ct0 ct1 ct2 ct3 ct4 ct5 ct6 ct7 ct8 ct9 ct10 lt
 (with_reducible refine (zB7 ro S3 _ (H.factsT) hs3.out).mono ?_)
 rintro e w3 ⟨rfl, hb⟩
 replace H := H.below hb
 clear hb
 obtain ⟨ct0, ct1, ct2, ct3, ct4, ct5, ct6, ct7, ct8, ct9, ct10⟩ := H.cells11 (w.heap.size)
 have lt := zA0 ct0
 go_wp2_with fail
 clear ct0 ct1 ct2 ct3 ct4 ct5 ct6 ct7 ct8 ct9 ct10 lt
 (with_reducible refine (zBr ms r4 _ hs4.out).mono ?_)
 rintro e w4 ⟨rfl, hb⟩
 replace H := H.below hb
 clear hb
 obtain ⟨hg, b0, b1, b2, b3, s0, s1, s2, s3, ⟨h0, h1, h2, h3⟩, ⟨n01, n02, n03, n12, n13, n23⟩, r0, r1, r2, r3⟩ := H.errT
 have l0 := zA0 h0
 have l1 := zA0 h1
 have l2 := zA0 h2
 have l3 := zA0 h3
 obtain ⟨ct0, ct1, ct2, ct3, ct4, ct5, ct6, ct7, ct8, ct9, ct10⟩ := H.cells11 (w.heap.size)
 have lt := zA0 ct0
 go_wp2_with fail
 clear ct0 ct1 ct2 ct3 ct4 ct5 ct6 ct7 ct8 ct9 ct10 lt
 go_ret
 exact ⟨⟨_, rfl⟩, H.old⟩
theorem zJf (mo ra ki co st en ms : Int) (bk lg eo : Bool) (ro : Int) (a0 a1 a2 a3 : Addr) (S1 : ByteArray) (hs1 : tn ki = S1) (e1 : S1.toList.isEmpty = false) (S2 : ByteArray) (hs2 : nm co = S2) (e2 : S2.toList.isEmpty = false) (S3 : ByteArray) (hs3 : rn ro = S3) (e3 : S3.toList.isEmpty = false) (r4 : Int) (hs4 : fr ms = r4) (e4 : (r4 == 0) = false) (hs5 : decide (1 ≤ st ∧ st ≤ 3652059) = false) (w : World) (hL : FactsT w) (hE : ErrT a0 a1 a2 a3 w) : Calls Tryz.prog 108 #[.agg #[.int .i64 mo, .int .i64 ra, .int .i64 ki, .int .i64 co, .int .i64 st, .int .i64 en, .int .i64 ms, .bool bk, .bool lg, .bool eo, .int .i64 ro]] w fun e w' => (∃ s, e = .returned (.iface 152 (.agg #[.string s, .iface 270 (.pointer (some a1))]))) ∧ Below w.heap.size w w' := by
 have H := ((Held.start w).add (f := zAm) hL).add (f := zB9 a0 a1 a2 a3) hE
 clear hL hE
 replace hs1 := Lib.hid hs1
 replace hs2 := Lib.hid hs2
 replace hs3 := Lib.hid hs3
 replace hs4 := Lib.hid hs4
 replace hs5 := Lib.hid hs5
 go_enter Tryz.func108, Tryz.ntmps108
 go_wp2_with fail
 replace H := H.box_11 (w.heap.size) (.int .i64 mo) (.int .i64 ra) (.int .i64 ki) (.int .i64 co) (.int .i64 st) (.int .i64 en) (.int .i64 ms) (.bool bk) (.bool lg) (.bool eo) (.int .i64 ro) 23 rfl
 (with_reducible refine (zBd ki S1 _ (H.factsT) hs1.out).mono ?_)
 rintro e w1 ⟨rfl, hb⟩
 replace H := H.below hb
 clear hb
 obtain ⟨ct0, ct1, ct2, ct3, ct4, ct5, ct6, ct7, ct8, ct9, ct10⟩ := H.cells11 (w.heap.size)
 have lt := zA0 ct0
 go_wp2_with fail
 clear ct0 ct1 ct2 ct3 ct4 ct5 ct6 ct7 ct8 ct9 ct10 lt
 (with_reducible refine (zAv co S2 _ hs2.out).mono ?_)
 rintro e w2 ⟨rfl, hb⟩
 replace H := H.below hb
 clear hb
 obtain ⟨ct0, ct1, ct2, ct3, ct4, ct5, ct6, ct7, ct8, ct9, ct10⟩ := H.cells11 (w.heap.size)
 have lt := zA0 ct0
 go_wp2_with fail
 clear ct0 ct1 ct2 ct3 ct4 ct5 ct6 ct7 ct8 ct9 ct10 lt
 (with_reducible refine (zB7 ro S3 _ (H.factsT) hs3.out).mono ?_)
 rintro e w3 ⟨rfl, hb⟩
 replace H := H.below hb
 clear hb
 obtain ⟨ct0, ct1, ct2, ct3, ct4, ct5, ct6, ct7, ct8, ct9, ct10⟩ := H.cells11 (w.heap.size)
 have lt := zA0 ct0
 go_wp2_with fail
 clear ct0 ct1 ct2 ct3 ct4 ct5 ct6 ct7 ct8 ct9 ct10 lt
 (with_reducible refine (zBr ms r4 _ hs4.out).mono ?_)
 rintro e w4 ⟨rfl, hb⟩
 replace H := H.below hb
 clear hb
 obtain ⟨ct0, ct1, ct2, ct3, ct4, ct5, ct6, ct7, ct8, ct9, ct10⟩ := H.cells11 (w.heap.size)
 have lt := zA0 ct0
 go_wp2_with fail
 clear ct0 ct1 ct2 ct3 ct4 ct5 ct6 ct7 ct8 ct9 ct10 lt
 (with_reducible refine (zAq st false _ (H.factsT) hs5.out).mono ?_)
 rintro e w5 ⟨rfl, hb⟩
 replace H := H.below hb
 clear hb
 obtain ⟨hg, b0, b1, b2, b3, s0, s1, s2, s3, ⟨h0, h1, h2, h3⟩, ⟨n01, n02, n03, n12, n13, n23⟩, r0, r1, r2, r3⟩ := H.errT
 have l0 := zA0 h0
 have l1 := zA0 h1
 have l2 := zA0 h2
 have l3 := zA0 h3
 obtain ⟨ct0, ct1, ct2, ct3, ct4, ct5, ct6, ct7, ct8, ct9, ct10⟩ := H.cells11 (w.heap.size)
 have lt := zA0 ct0
 go_wp2_with fail
 clear ct0 ct1 ct2 ct3 ct4 ct5 ct6 ct7 ct8 ct9 ct10 lt
 go_ret
 exact ⟨⟨_, rfl⟩, H.old⟩
theorem zOw (mo ra ki co st en ms : Int) (bk lg eo : Bool) (ro : Int) (a0 a1 a2 a3 : Addr) (S1 : ByteArray) (hs1 : tn ki = S1) (e1 : S1.toList.isEmpty = false) (S2 : ByteArray) (hs2 : nm co = S2) (e2 : S2.toList.isEmpty = false) (S3 : ByteArray) (hs3 : rn ro = S3) (e3 : S3.toList.isEmpty = false) (r4 : Int) (hs4 : fr ms = r4) (e4 : (r4 == 0) = false) (hs5 : decide (1 ≤ st ∧ st ≤ 3652059) = true) (hs6 : decide (1 ≤ en ∧ en ≤ 3652059) = false) (w : World) (hL : FactsT w) (hE : ErrT a0 a1 a2 a3 w) : Calls Tryz.prog 108 #[.agg #[.int .i64 mo, .int .i64 ra, .int .i64 ki, .int .i64 co, .int .i64 st, .int .i64 en, .int .i64 ms, .bool bk, .bool lg, .bool eo, .int .i64 ro]] w fun e w' => (∃ s, e = .returned (.iface 152 (.agg #[.string s, .iface 270 (.pointer (some a1))]))) ∧ Below w.heap.size w w' := by
 have H := ((Held.start w).add (f := zAm) hL).add (f := zB9 a0 a1 a2 a3) hE
 clear hL hE
 replace hs1 := Lib.hid hs1
 replace hs2 := Lib.hid hs2
 replace hs3 := Lib.hid hs3
 replace hs4 := Lib.hid hs4
 replace hs5 := Lib.hid hs5
 replace hs6 := Lib.hid hs6
 go_enter Tryz.func108, Tryz.ntmps108
 go_wp2_with fail
 replace H := H.box_11 (w.heap.size) (.int .i64 mo) (.int .i64 ra) (.int .i64 ki) (.int .i64 co) (.int .i64 st) (.int .i64 en) (.int .i64 ms) (.bool bk) (.bool lg) (.bool eo) (.int .i64 ro) 23 rfl
 (with_reducible refine (zBd ki S1 _ (H.factsT) hs1.out).mono ?_)
 rintro e w1 ⟨rfl, hb⟩
 replace H := H.below hb
 clear hb
 obtain ⟨ct0, ct1, ct2, ct3, ct4, ct5, ct6, ct7, ct8, ct9, ct10⟩ := H.cells11 (w.heap.size)
 have lt := zA0 ct0
 go_wp2_with fail
 clear ct0 ct1 ct2 ct3 ct4 ct5 ct6 ct7 ct8 ct9 ct10 lt
 (with_reducible refine (zAv co S2 _ hs2.out).mono ?_)
 rintro e w2 ⟨rfl, hb⟩
 replace H := H.below hb
 clear hb
 obtain ⟨ct0, ct1, ct2, ct3, ct4, ct5, ct6, ct7, ct8, ct9, ct10⟩ := H.cells11 (w.heap.size)
 have lt := zA0 ct0
 go_wp2_with fail
 clear ct0 ct1 ct2 ct3 ct4 ct5 ct6 ct7 ct8 ct9 ct10 lt
 (with_reducible refine (zB7 ro S3 _ (H.factsT) hs3.out).mono ?_)
 rintro e w3 ⟨rfl, hb⟩
 replace H := H.below hb
 clear hb
 obtain ⟨ct0, ct1, ct2, ct3, ct4, ct5, ct6, ct7, ct8, ct9, ct10⟩ := H.cells11 (w.heap.size)
 have lt := zA0 ct0
 go_wp2_with fail
 clear ct0 ct1 ct2 ct3 ct4 ct5 ct6 ct7 ct8 ct9 ct10 lt
 (with_reducible refine (zBr ms r4 _ hs4.out).mono ?_)
 rintro e w4 ⟨rfl, hb⟩
 replace H := H.below hb
 clear hb
 obtain ⟨ct0, ct1, ct2, ct3, ct4, ct5, ct6, ct7, ct8, ct9, ct10⟩ := H.cells11 (w.heap.size)
 have lt := zA0 ct0
 go_wp2_with fail
 clear ct0 ct1 ct2 ct3 ct4 ct5 ct6 ct7 ct8 ct9 ct10 lt
 (with_reducible refine (zAq st true _ (H.factsT) hs5.out).mono ?_)
 rintro e w5 ⟨rfl, hb⟩
 replace H := H.below hb
 clear hb
 obtain ⟨ct0, ct1, ct2, ct3, ct4, ct5, ct6, ct7, ct8, ct9, ct10⟩ := H.cells11 (w.heap.size)
 have lt := zA0 ct0
 go_wp2_with fail
 clear ct0 ct1 ct2 ct3 ct4 ct5 ct6 ct7 ct8 ct9 ct10 lt
 (with_reducible refine (zAq en false _ (H.factsT) hs6.out).mono ?_)
 rintro e w6 ⟨rfl, hb⟩
 replace H := H.below hb
 clear hb
 obtain ⟨hg, b0, b1, b2, b3, s0, s1, s2, s3, ⟨h0, h1, h2, h3⟩, ⟨n01, n02, n03, n12, n13, n23⟩, r0, r1, r2, r3⟩ := H.errT
 have l0 := zA0 h0
 have l1 := zA0 h1
 have l2 := zA0 h2
 have l3 := zA0 h3
 obtain ⟨ct0, ct1, ct2, ct3, ct4, ct5, ct6, ct7, ct8, ct9, ct10⟩ := H.cells11 (w.heap.size)
 have lt := zA0 ct0
 go_wp2_with fail
 clear ct0 ct1 ct2 ct3 ct4 ct5 ct6 ct7 ct8 ct9 ct10 lt
 go_ret
 exact ⟨⟨_, rfl⟩, H.old⟩
theorem zJd (mo ra ki co st en ms : Int) (bk lg eo : Bool) (ro : Int) (a0 a1 a2 a3 : Addr) (S1 : ByteArray) (hs1 : tn ki = S1) (e1 : S1.toList.isEmpty = false) (S2 : ByteArray) (hs2 : nm co = S2) (e2 : S2.toList.isEmpty = false) (S3 : ByteArray) (hs3 : rn ro = S3) (e3 : S3.toList.isEmpty = false) (r4 : Int) (hs4 : fr ms = r4) (e4 : (r4 == 0) = false) (hs5 : decide (1 ≤ st ∧ st ≤ 3652059) = true) (hs6 : decide (1 ≤ en ∧ en ≤ 3652059) = true) (e7 : decide (st ≥ en) = true) (w : World) (hL : FactsT w) (hE : ErrT a0 a1 a2 a3 w) : Calls Tryz.prog 108 #[.agg #[.int .i64 mo, .int .i64 ra, .int .i64 ki, .int .i64 co, .int .i64 st, .int .i64 en, .int .i64 ms, .bool bk, .bool lg, .bool eo, .int .i64 ro]] w fun e w' => (∃ s, e = .returned (.iface 152 (.agg #[.string s, .iface 270 (.pointer (some a2))]))) ∧ Below w.heap.size w w' := by
 have H := ((Held.start w).add (f := zAm) hL).add (f := zB9 a0 a1 a2 a3) hE
 clear hL hE
 replace hs1 := Lib.hid hs1
 replace hs2 := Lib.hid hs2
 replace hs3 := Lib.hid hs3
 replace hs4 := Lib.hid hs4
 replace hs5 := Lib.hid hs5
 replace hs6 := Lib.hid hs6
 go_enter Tryz.func108, Tryz.ntmps108
 go_wp2_with fail
 replace H := H.box_11 (w.heap.size) (.int .i64 mo) (.int .i64 ra) (.int .i64 ki) (.int .i64 co) (.int .i64 st) (.int .i64 en) (.int .i64 ms) (.bool bk) (.bool lg) (.bool eo) (.int .i64 ro) 23 rfl
 (with_reducible refine (zBd ki S1 _ (H.factsT) hs1.out).mono ?_)
 rintro e w1 ⟨rfl, hb⟩
 replace H := H.below hb
 clear hb
 obtain ⟨ct0, ct1, ct2, ct3, ct4, ct5, ct6, ct7, ct8, ct9, ct10⟩ := H.cells11 (w.heap.size)
 have lt := zA0 ct0
 go_wp2_with fail
 clear ct0 ct1 ct2 ct3 ct4 ct5 ct6 ct7 ct8 ct9 ct10 lt
 (with_reducible refine (zAv co S2 _ hs2.out).mono ?_)
 rintro e w2 ⟨rfl, hb⟩
 replace H := H.below hb
 clear hb
 obtain ⟨ct0, ct1, ct2, ct3, ct4, ct5, ct6, ct7, ct8, ct9, ct10⟩ := H.cells11 (w.heap.size)
 have lt := zA0 ct0
 go_wp2_with fail
 clear ct0 ct1 ct2 ct3 ct4 ct5 ct6 ct7 ct8 ct9 ct10 lt
 (with_reducible refine (zB7 ro S3 _ (H.factsT) hs3.out).mono ?_)
 rintro e w3 ⟨rfl, hb⟩
 replace H := H.below hb
 clear hb
 obtain ⟨ct0, ct1, ct2, ct3, ct4, ct5, ct6, ct7, ct8, ct9, ct10⟩ := H.cells11 (w.heap.size)
 have lt := zA0 ct0
 go_wp2_with fail
 clear ct0 ct1 ct2 ct3 ct4 ct5 ct6 ct7 ct8 ct9 ct10 lt
 (with_reducible refine (zBr ms r4 _ hs4.out).mono ?_)
 rintro e w4 ⟨rfl, hb⟩
 replace H := H.below hb
 clear hb
 obtain ⟨ct0, ct1, ct2, ct3, ct4, ct5, ct6, ct7, ct8, ct9, ct10⟩ := H.cells11 (w.heap.size)
 have lt := zA0 ct0
 go_wp2_with fail
 clear ct0 ct1 ct2 ct3 ct4 ct5 ct6 ct7 ct8 ct9 ct10 lt
 (with_reducible refine (zAq st true _ (H.factsT) hs5.out).mono ?_)
 rintro e w5 ⟨rfl, hb⟩
 replace H := H.below hb
 clear hb
 obtain ⟨ct0, ct1, ct2, ct3, ct4, ct5, ct6, ct7, ct8, ct9, ct10⟩ := H.cells11 (w.heap.size)
 have lt := zA0 ct0
 go_wp2_with fail
 clear ct0 ct1 ct2 ct3 ct4 ct5 ct6 ct7 ct8 ct9 ct10 lt
 (with_reducible refine (zAq en true _ (H.factsT) hs6.out).mono ?_)
 rintro e w6 ⟨rfl, hb⟩
 replace H := H.below hb
 clear hb
 obtain ⟨hg, b0, b1, b2, b3, s0, s1, s2, s3, ⟨h0, h1, h2, h3⟩, ⟨n01, n02, n03, n12, n13, n23⟩, r0, r1, r2, r3⟩ := H.errT
 have l0 := zA0 h0
 have l1 := zA0 h1
 have l2 := zA0 h2
 have l3 := zA0 h3
 obtain ⟨ct0, ct1, ct2, ct3, ct4, ct5, ct6, ct7, ct8, ct9, ct10⟩ := H.cells11 (w.heap.size)
 have lt := zA0 ct0
 go_wp2_with fail
 clear ct0 ct1 ct2 ct3 ct4 ct5 ct6 ct7 ct8 ct9 ct10 lt
 go_ret
 exact ⟨⟨_, rfl⟩, H.old⟩
theorem zJc (mo ra ki co st en ms : Int) (bk lg eo : Bool) (ro : Int) (a0 a1 a2 a3 : Addr) (S1 : ByteArray) (hs1 : tn ki = S1) (e1 : S1.toList.isEmpty = false) (S2 : ByteArray) (hs2 : nm co = S2) (e2 : S2.toList.isEmpty = false) (S3 : ByteArray) (hs3 : rn ro = S3) (e3 : S3.toList.isEmpty = false) (r4 : Int) (hs4 : fr ms = r4) (e4 : (r4 == 0) = false) (hs5 : decide (1 ≤ st ∧ st ≤ 3652059) = true) (hs6 : decide (1 ≤ en ∧ en ≤ 3652059) = true) (e7 : decide (st ≥ en) = false) (e8 : decide (mo < 1) = true) (w : World) (hL : FactsT w) (hE : ErrT a0 a1 a2 a3 w) : Calls Tryz.prog 108 #[.agg #[.int .i64 mo, .int .i64 ra, .int .i64 ki, .int .i64 co, .int .i64 st, .int .i64 en, .int .i64 ms, .bool bk, .bool lg, .bool eo, .int .i64 ro]] w fun e w' => (∃ s, e = .returned (.iface 152 (.agg #[.string s, .iface 270 (.pointer (some a3))]))) ∧ Below w.heap.size w w' := by
 have H := ((Held.start w).add (f := zAm) hL).add (f := zB9 a0 a1 a2 a3) hE
 clear hL hE
 replace hs1 := Lib.hid hs1
 replace hs2 := Lib.hid hs2
 replace hs3 := Lib.hid hs3
 replace hs4 := Lib.hid hs4
 replace hs5 := Lib.hid hs5
 replace hs6 := Lib.hid hs6
 go_enter Tryz.func108, Tryz.ntmps108
 go_wp2_with fail
 replace H := H.box_11 (w.heap.size) (.int .i64 mo) (.int .i64 ra) (.int .i64 ki) (.int .i64 co) (.int .i64 st) (.int .i64 en) (.int .i64 ms) (.bool bk) (.bool lg) (.bool eo) (.int .i64 ro) 23 rfl
 (with_reducible refine (zBd ki S1 _ (H.factsT) hs1.out).mono ?_)
 rintro e w1 ⟨rfl, hb⟩
 replace H := H.below hb
 clear hb
 obtain ⟨ct0, ct1, ct2, ct3, ct4, ct5, ct6, ct7, ct8, ct9, ct10⟩ := H.cells11 (w.heap.size)
 have lt := zA0 ct0
 go_wp2_with fail
 clear ct0 ct1 ct2 ct3 ct4 ct5 ct6 ct7 ct8 ct9 ct10 lt
 (with_reducible refine (zAv co S2 _ hs2.out).mono ?_)
 rintro e w2 ⟨rfl, hb⟩
 replace H := H.below hb
 clear hb
 obtain ⟨ct0, ct1, ct2, ct3, ct4, ct5, ct6, ct7, ct8, ct9, ct10⟩ := H.cells11 (w.heap.size)
 have lt := zA0 ct0
 go_wp2_with fail
 clear ct0 ct1 ct2 ct3 ct4 ct5 ct6 ct7 ct8 ct9 ct10 lt
 (with_reducible refine (zB7 ro S3 _ (H.factsT) hs3.out).mono ?_)
 rintro e w3 ⟨rfl, hb⟩
 replace H := H.below hb
 clear hb
 obtain ⟨ct0, ct1, ct2, ct3, ct4, ct5, ct6, ct7, ct8, ct9, ct10⟩ := H.cells11 (w.heap.size)
 have lt := zA0 ct0
 go_wp2_with fail
 clear ct0 ct1 ct2 ct3 ct4 ct5 ct6 ct7 ct8 ct9 ct10 lt
 (with_reducible refine (zBr ms r4 _ hs4.out).mono ?_)
 rintro e w4 ⟨rfl, hb⟩
 replace H := H.below hb
 clear hb
 obtain ⟨ct0, ct1, ct2, ct3, ct4, ct5, ct6, ct7, ct8, ct9, ct10⟩ := H.cells11 (w.heap.size)
 have lt := zA0 ct0
 go_wp2_with fail
 clear ct0 ct1 ct2 ct3 ct4 ct5 ct6 ct7 ct8 ct9 ct10 lt
 (with_reducible refine (zAq st true _ (H.factsT) hs5.out).mono ?_)
 rintro e w5 ⟨rfl, hb⟩
 replace H := H.below hb
 clear hb
 obtain ⟨ct0, ct1, ct2, ct3, ct4, ct5, ct6, ct7, ct8, ct9, ct10⟩ := H.cells11 (w.heap.size)
 have lt := zA0 ct0
 go_wp2_with fail
 clear ct0 ct1 ct2 ct3 ct4 ct5 ct6 ct7 ct8 ct9 ct10 lt
 (with_reducible refine (zAq en true _ (H.factsT) hs6.out).mono ?_)
 rintro e w6 ⟨rfl, hb⟩
 replace H := H.below hb
 clear hb
 obtain ⟨hg, b0, b1, b2, b3, s0, s1, s2, s3, ⟨h0, h1, h2, h3⟩, ⟨n01, n02, n03, n12, n13, n23⟩, r0, r1, r2, r3⟩ := H.errT
 have l0 := zA0 h0
 have l1 := zA0 h1
 have l2 := zA0 h2
 have l3 := zA0 h3
 obtain ⟨ct0, ct1, ct2, ct3, ct4, ct5, ct6, ct7, ct8, ct9, ct10⟩ := H.cells11 (w.heap.size)
 have lt := zA0 ct0
 go_wp2_with fail
 clear ct0 ct1 ct2 ct3 ct4 ct5 ct6 ct7 ct8 ct9 ct10 lt
 go_ret
 exact ⟨⟨_, rfl⟩, H.old⟩
theorem zHp (mo ra ki co st en ms : Int) (bk lg eo : Bool) (ro : Int) (a0 a1 a2 a3 : Addr) (S1 : ByteArray) (hs1 : tn ki = S1) (e1 : S1.toList.isEmpty = false) (S2 : ByteArray) (hs2 : nm co = S2) (e2 : S2.toList.isEmpty = false) (S3 : ByteArray) (hs3 : rn ro = S3) (e3 : S3.toList.isEmpty = false) (r4 : Int) (hs4 : fr ms = r4) (e4 : (r4 == 0) = false) (hs5 : decide (1 ≤ st ∧ st ≤ 3652059) = true) (hs6 : decide (1 ≤ en ∧ en ≤ 3652059) = true) (e7 : decide (st ≥ en) = false) (e8 : decide (mo < 1) = false) (e9 : decide (mo > 1000000000000000) = true) (w : World) (hL : FactsT w) (hE : ErrT a0 a1 a2 a3 w) : Calls Tryz.prog 108 #[.agg #[.int .i64 mo, .int .i64 ra, .int .i64 ki, .int .i64 co, .int .i64 st, .int .i64 en, .int .i64 ms, .bool bk, .bool lg, .bool eo, .int .i64 ro]] w fun e w' => (∃ s, e = .returned (.iface 152 (.agg #[.string s, .iface 270 (.pointer (some a3))]))) ∧ Below w.heap.size w w' := by
 have H := ((Held.start w).add (f := zAm) hL).add (f := zB9 a0 a1 a2 a3) hE
 clear hL hE
 replace hs1 := Lib.hid hs1
 replace hs2 := Lib.hid hs2
 replace hs3 := Lib.hid hs3
 replace hs4 := Lib.hid hs4
 replace hs5 := Lib.hid hs5
 replace hs6 := Lib.hid hs6
 go_enter Tryz.func108, Tryz.ntmps108
 go_wp2_with fail
 replace H := H.box_11 (w.heap.size) (.int .i64 mo) (.int .i64 ra) (.int .i64 ki) (.int .i64 co) (.int .i64 st) (.int .i64 en) (.int .i64 ms) (.bool bk) (.bool lg) (.bool eo) (.int .i64 ro) 23 rfl
 (with_reducible refine (zBd ki S1 _ (H.factsT) hs1.out).mono ?_)
 rintro e w1 ⟨rfl, hb⟩
 replace H := H.below hb
 clear hb
 obtain ⟨ct0, ct1, ct2, ct3, ct4, ct5, ct6, ct7, ct8, ct9, ct10⟩ := H.cells11 (w.heap.size)
 have lt := zA0 ct0
 go_wp2_with fail
 clear ct0 ct1 ct2 ct3 ct4 ct5 ct6 ct7 ct8 ct9 ct10 lt
 (with_reducible refine (zAv co S2 _ hs2.out).mono ?_)
 rintro e w2 ⟨rfl, hb⟩
 replace H := H.below hb
 clear hb
 obtain ⟨ct0, ct1, ct2, ct3, ct4, ct5, ct6, ct7, ct8, ct9, ct10⟩ := H.cells11 (w.heap.size)
 have lt := zA0 ct0
 go_wp2_with fail
 clear ct0 ct1 ct2 ct3 ct4 ct5 ct6 ct7 ct8 ct9 ct10 lt
 (with_reducible refine (zB7 ro S3 _ (H.factsT) hs3.out).mono ?_)
 rintro e w3 ⟨rfl, hb⟩
 replace H := H.below hb
 clear hb
 obtain ⟨ct0, ct1, ct2, ct3, ct4, ct5, ct6, ct7, ct8, ct9, ct10⟩ := H.cells11 (w.heap.size)
 have lt := zA0 ct0
 go_wp2_with fail
 clear ct0 ct1 ct2 ct3 ct4 ct5 ct6 ct7 ct8 ct9 ct10 lt
 (with_reducible refine (zBr ms r4 _ hs4.out).mono ?_)
 rintro e w4 ⟨rfl, hb⟩
 replace H := H.below hb
 clear hb
 obtain ⟨ct0, ct1, ct2, ct3, ct4, ct5, ct6, ct7, ct8, ct9, ct10⟩ := H.cells11 (w.heap.size)
 have lt := zA0 ct0
 go_wp2_with fail
 clear ct0 ct1 ct2 ct3 ct4 ct5 ct6 ct7 ct8 ct9 ct10 lt
 (with_reducible refine (zAq st true _ (H.factsT) hs5.out).mono ?_)
 rintro e w5 ⟨rfl, hb⟩
 replace H := H.below hb
 clear hb
 obtain ⟨ct0, ct1, ct2, ct3, ct4, ct5, ct6, ct7, ct8, ct9, ct10⟩ := H.cells11 (w.heap.size)
 have lt := zA0 ct0
 go_wp2_with fail
 clear ct0 ct1 ct2 ct3 ct4 ct5 ct6 ct7 ct8 ct9 ct10 lt
 (with_reducible refine (zAq en true _ (H.factsT) hs6.out).mono ?_)
 rintro e w6 ⟨rfl, hb⟩
 replace H := H.below hb
 clear hb
 obtain ⟨hg, b0, b1, b2, b3, s0, s1, s2, s3, ⟨h0, h1, h2, h3⟩, ⟨n01, n02, n03, n12, n13, n23⟩, r0, r1, r2, r3⟩ := H.errT
 have l0 := zA0 h0
 have l1 := zA0 h1
 have l2 := zA0 h2
 have l3 := zA0 h3
 obtain ⟨ct0, ct1, ct2, ct3, ct4, ct5, ct6, ct7, ct8, ct9, ct10⟩ := H.cells11 (w.heap.size)
 have lt := zA0 ct0
 go_wp2_with fail
 clear ct0 ct1 ct2 ct3 ct4 ct5 ct6 ct7 ct8 ct9 ct10 lt
 go_ret
 exact ⟨⟨_, rfl⟩, H.old⟩
theorem zMh (mo ra ki co st en ms : Int) (bk lg eo : Bool) (ro : Int) (a0 a1 a2 a3 : Addr) (S1 : ByteArray) (hs1 : tn ki = S1) (e1 : S1.toList.isEmpty = false) (S2 : ByteArray) (hs2 : nm co = S2) (e2 : S2.toList.isEmpty = false) (S3 : ByteArray) (hs3 : rn ro = S3) (e3 : S3.toList.isEmpty = false) (r4 : Int) (hs4 : fr ms = r4) (e4 : (r4 == 0) = false) (hs5 : decide (1 ≤ st ∧ st ≤ 3652059) = true) (hs6 : decide (1 ≤ en ∧ en ≤ 3652059) = true) (e7 : decide (st ≥ en) = false) (e8 : decide (mo < 1) = false) (e9 : decide (mo > 1000000000000000) = false) (e10 : decide (ra < 0) = true) (w : World) (hL : FactsT w) (hE : ErrT a0 a1 a2 a3 w) : Calls Tryz.prog 108 #[.agg #[.int .i64 mo, .int .i64 ra, .int .i64 ki, .int .i64 co, .int .i64 st, .int .i64 en, .int .i64 ms, .bool bk, .bool lg, .bool eo, .int .i64 ro]] w fun e w' => (∃ s, e = .returned (.iface 152 (.agg #[.string s, .iface 270 (.pointer (some a3))]))) ∧ Below w.heap.size w w' := by
 have H := ((Held.start w).add (f := zAm) hL).add (f := zB9 a0 a1 a2 a3) hE
 clear hL hE
 replace hs1 := Lib.hid hs1
 replace hs2 := Lib.hid hs2
 replace hs3 := Lib.hid hs3
 replace hs4 := Lib.hid hs4
 replace hs5 := Lib.hid hs5
 replace hs6 := Lib.hid hs6
 go_enter Tryz.func108, Tryz.ntmps108
 go_wp2_with fail
 replace H := H.box_11 (w.heap.size) (.int .i64 mo) (.int .i64 ra) (.int .i64 ki) (.int .i64 co) (.int .i64 st) (.int .i64 en) (.int .i64 ms) (.bool bk) (.bool lg) (.bool eo) (.int .i64 ro) 23 rfl
 (with_reducible refine (zBd ki S1 _ (H.factsT) hs1.out).mono ?_)
 rintro e w1 ⟨rfl, hb⟩
 replace H := H.below hb
 clear hb
 obtain ⟨ct0, ct1, ct2, ct3, ct4, ct5, ct6, ct7, ct8, ct9, ct10⟩ := H.cells11 (w.heap.size)
 have lt := zA0 ct0
 go_wp2_with fail
 clear ct0 ct1 ct2 ct3 ct4 ct5 ct6 ct7 ct8 ct9 ct10 lt
 (with_reducible refine (zAv co S2 _ hs2.out).mono ?_)
 rintro e w2 ⟨rfl, hb⟩
 replace H := H.below hb
 clear hb
 obtain ⟨ct0, ct1, ct2, ct3, ct4, ct5, ct6, ct7, ct8, ct9, ct10⟩ := H.cells11 (w.heap.size)
 have lt := zA0 ct0
 go_wp2_with fail
 clear ct0 ct1 ct2 ct3 ct4 ct5 ct6 ct7 ct8 ct9 ct10 lt
 (with_reducible refine (zB7 ro S3 _ (H.factsT) hs3.out).mono ?_)
 rintro e w3 ⟨rfl, hb⟩
 replace H := H.below hb
 clear hb
 obtain ⟨ct0, ct1, ct2, ct3, ct4, ct5, ct6, ct7, ct8, ct9, ct10⟩ := H.cells11 (w.heap.size)
 have lt := zA0 ct0
 go_wp2_with fail
 clear ct0 ct1 ct2 ct3 ct4 ct5 ct6 ct7 ct8 ct9 ct10 lt
 (with_reducible refine (zBr ms r4 _ hs4.out).mono ?_)
 rintro e w4 ⟨rfl, hb⟩
 replace H := H.below hb
 clear hb
 obtain ⟨ct0, ct1, ct2, ct3, ct4, ct5, ct6, ct7, ct8, ct9, ct10⟩ := H.cells11 (w.heap.size)
 have lt := zA0 ct0
 go_wp2_with fail
 clear ct0 ct1 ct2 ct3 ct4 ct5 ct6 ct7 ct8 ct9 ct10 lt
 (with_reducible refine (zAq st true _ (H.factsT) hs5.out).mono ?_)
 rintro e w5 ⟨rfl, hb⟩
 replace H := H.below hb
 clear hb
 obtain ⟨ct0, ct1, ct2, ct3, ct4, ct5, ct6, ct7, ct8, ct9, ct10⟩ := H.cells11 (w.heap.size)
 have lt := zA0 ct0
 go_wp2_with fail
 clear ct0 ct1 ct2 ct3 ct4 ct5 ct6 ct7 ct8 ct9 ct10 lt
 (with_reducible refine (zAq en true _ (H.factsT) hs6.out).mono ?_)
 rintro e w6 ⟨rfl, hb⟩
 replace H := H.below hb
 clear hb
 obtain ⟨hg, b0, b1, b2, b3, s0, s1, s2, s3, ⟨h0, h1, h2, h3⟩, ⟨n01, n02, n03, n12, n13, n23⟩, r0, r1, r2, r3⟩ := H.errT
 have l0 := zA0 h0
 have l1 := zA0 h1
 have l2 := zA0 h2
 have l3 := zA0 h3
 obtain ⟨ct0, ct1, ct2, ct3, ct4, ct5, ct6, ct7, ct8, ct9, ct10⟩ := H.cells11 (w.heap.size)
 have lt := zA0 ct0
 go_wp2_with fail
 clear ct0 ct1 ct2 ct3 ct4 ct5 ct6 ct7 ct8 ct9 ct10 lt
 go_ret
 exact ⟨⟨_, rfl⟩, H.old⟩
theorem zJe (mo ra ki co st en ms : Int) (bk lg eo : Bool) (ro : Int) (a0 a1 a2 a3 : Addr) (S1 : ByteArray) (hs1 : tn ki = S1) (e1 : S1.toList.isEmpty = false) (S2 : ByteArray) (hs2 : nm co = S2) (e2 : S2.toList.isEmpty = false) (S3 : ByteArray) (hs3 : rn ro = S3) (e3 : S3.toList.isEmpty = false) (r4 : Int) (hs4 : fr ms = r4) (e4 : (r4 == 0) = false) (hs5 : decide (1 ≤ st ∧ st ≤ 3652059) = true) (hs6 : decide (1 ≤ en ∧ en ≤ 3652059) = true) (e7 : decide (st ≥ en) = false) (e8 : decide (mo < 1) = false) (e9 : decide (mo > 1000000000000000) = false) (e10 : decide (ra < 0) = false) (e11 : decide (ra > 1000000) = true) (w : World) (hL : FactsT w) (hE : ErrT a0 a1 a2 a3 w) : Calls Tryz.prog 108 #[.agg #[.int .i64 mo, .int .i64 ra, .int .i64 ki, .int .i64 co, .int .i64 st, .int .i64 en, .int .i64 ms, .bool bk, .bool lg, .bool eo, .int .i64 ro]] w fun e w' => (∃ s, e = .returned (.iface 152 (.agg #[.string s, .iface 270 (.pointer (some a3))]))) ∧ Below w.heap.size w w' := by
 have H := ((Held.start w).add (f := zAm) hL).add (f := zB9 a0 a1 a2 a3) hE
 clear hL hE
 replace hs1 := Lib.hid hs1
 replace hs2 := Lib.hid hs2
 replace hs3 := Lib.hid hs3
 replace hs4 := Lib.hid hs4
 replace hs5 := Lib.hid hs5
 replace hs6 := Lib.hid hs6
 go_enter Tryz.func108, Tryz.ntmps108
 go_wp2_with fail
 replace H := H.box_11 (w.heap.size) (.int .i64 mo) (.int .i64 ra) (.int .i64 ki) (.int .i64 co) (.int .i64 st) (.int .i64 en) (.int .i64 ms) (.bool bk) (.bool lg) (.bool eo) (.int .i64 ro) 23 rfl
 (with_reducible refine (zBd ki S1 _ (H.factsT) hs1.out).mono ?_)
 rintro e w1 ⟨rfl, hb⟩
 replace H := H.below hb
 clear hb
 obtain ⟨ct0, ct1, ct2, ct3, ct4, ct5, ct6, ct7, ct8, ct9, ct10⟩ := H.cells11 (w.heap.size)
 have lt := zA0 ct0
 go_wp2_with fail
 clear ct0 ct1 ct2 ct3 ct4 ct5 ct6 ct7 ct8 ct9 ct10 lt
 (with_reducible refine (zAv co S2 _ hs2.out).mono ?_)
 rintro e w2 ⟨rfl, hb⟩
 replace H := H.below hb
 clear hb
 obtain ⟨ct0, ct1, ct2, ct3, ct4, ct5, ct6, ct7, ct8, ct9, ct10⟩ := H.cells11 (w.heap.size)
 have lt := zA0 ct0
 go_wp2_with fail
 clear ct0 ct1 ct2 ct3 ct4 ct5 ct6 ct7 ct8 ct9 ct10 lt
 (with_reducible refine (zB7 ro S3 _ (H.factsT) hs3.out).mono ?_)
 rintro e w3 ⟨rfl, hb⟩
 replace H := H.below hb
 clear hb
 obtain ⟨ct0, ct1, ct2, ct3, ct4, ct5, ct6, ct7, ct8, ct9, ct10⟩ := H.cells11 (w.heap.size)
 have lt := zA0 ct0
 go_wp2_with fail
 clear ct0 ct1 ct2 ct3 ct4 ct5 ct6 ct7 ct8 ct9 ct10 lt
 (with_reducible refine (zBr ms r4 _ hs4.out).mono ?_)
 rintro e w4 ⟨rfl, hb⟩
 replace H := H.below hb
 clear hb
 obtain ⟨ct0, ct1, ct2, ct3, ct4, ct5, ct6, ct7, ct8, ct9, ct10⟩ := H.cells11 (w.heap.size)
 have lt := zA0 ct0
 go_wp2_with fail
 clear ct0 ct1 ct2 ct3 ct4 ct5 ct6 ct7 ct8 ct9 ct10 lt
 (with_reducible refine (zAq st true _ (H.factsT) hs5.out).mono ?_)
 rintro e w5 ⟨rfl, hb⟩
 replace H := H.below hb
 clear hb
 obtain ⟨ct0, ct1, ct2, ct3, ct4, ct5, ct6, ct7, ct8, ct9, ct10⟩ := H.cells11 (w.heap.size)
 have lt := zA0 ct0
 go_wp2_with fail
 clear ct0 ct1 ct2 ct3 ct4 ct5 ct6 ct7 ct8 ct9 ct10 lt
 (with_reducible refine (zAq en true _ (H.factsT) hs6.out).mono ?_)
 rintro e w6 ⟨rfl, hb⟩
 replace H := H.below hb
 clear hb
 obtain ⟨hg, b0, b1, b2, b3, s0, s1, s2, s3, ⟨h0, h1, h2, h3⟩, ⟨n01, n02, n03, n12, n13, n23⟩, r0, r1, r2, r3⟩ := H.errT
 have l0 := zA0 h0
 have l1 := zA0 h1
 have l2 := zA0 h2
 have l3 := zA0 h3
 obtain ⟨ct0, ct1, ct2, ct3, ct4, ct5, ct6, ct7, ct8, ct9, ct10⟩ := H.cells11 (w.heap.size)
 have lt := zA0 ct0
 go_wp2_with fail
 clear ct0 ct1 ct2 ct3 ct4 ct5 ct6 ct7 ct8 ct9 ct10 lt
 go_ret
 exact ⟨⟨_, rfl⟩, H.old⟩
theorem zMe (mo ra ki co st en ms : Int) (bk lg eo : Bool) (ro : Int) (a0 a1 a2 a3 : Addr) (S1 : ByteArray) (hs1 : tn ki = S1) (e1 : S1.toList.isEmpty = false) (S2 : ByteArray) (hs2 : nm co = S2) (e2 : S2.toList.isEmpty = false) (S3 : ByteArray) (hs3 : rn ro = S3) (e3 : S3.toList.isEmpty = false) (r4 : Int) (hs4 : fr ms = r4) (e4 : (r4 == 0) = false) (hs5 : decide (1 ≤ st ∧ st ≤ 3652059) = true) (hs6 : decide (1 ≤ en ∧ en ≤ 3652059) = true) (e7 : decide (st ≥ en) = false) (e8 : decide (mo < 1) = false) (e9 : decide (mo > 1000000000000000) = false) (e10 : decide (ra < 0) = false) (e11 : decide (ra > 1000000) = false) (hm : 1 ≤ mo ∧ mo ≤ 1000000000000000) (hr : 0 ≤ ra ∧ ra ≤ 1000000) (hs12 : decide (9000000000000000000 < mo * ra) = true) (w : World) (hL : FactsT w) (hE : ErrT a0 a1 a2 a3 w) : Calls Tryz.prog 108 #[.agg #[.int .i64 mo, .int .i64 ra, .int .i64 ki, .int .i64 co, .int .i64 st, .int .i64 en, .int .i64 ms, .bool bk, .bool lg, .bool eo, .int .i64 ro]] w fun e w' => (∃ s, e = .returned (.iface 152 (.agg #[.string s, .iface 270 (.pointer (some a3))]))) ∧ Below w.heap.size w w' := by
 have H := ((Held.start w).add (f := zAm) hL).add (f := zB9 a0 a1 a2 a3) hE
 clear hL hE
 replace hs1 := Lib.hid hs1
 replace hs2 := Lib.hid hs2
 replace hs3 := Lib.hid hs3
 replace hs4 := Lib.hid hs4
 replace hs5 := Lib.hid hs5
 replace hs6 := Lib.hid hs6
 replace hm := Lib.hid hm
 replace hr := Lib.hid hr
 replace hs12 := Lib.hid hs12
 go_enter Tryz.func108, Tryz.ntmps108
 go_wp2_with fail
 replace H := H.box_11 (w.heap.size) (.int .i64 mo) (.int .i64 ra) (.int .i64 ki) (.int .i64 co) (.int .i64 st) (.int .i64 en) (.int .i64 ms) (.bool bk) (.bool lg) (.bool eo) (.int .i64 ro) 23 rfl
 (with_reducible refine (zBd ki S1 _ (H.factsT) hs1.out).mono ?_)
 rintro e w1 ⟨rfl, hb⟩
 replace H := H.below hb
 clear hb
 obtain ⟨ct0, ct1, ct2, ct3, ct4, ct5, ct6, ct7, ct8, ct9, ct10⟩ := H.cells11 (w.heap.size)
 have lt := zA0 ct0
 go_wp2_with fail
 clear ct0 ct1 ct2 ct3 ct4 ct5 ct6 ct7 ct8 ct9 ct10 lt
 (with_reducible refine (zAv co S2 _ hs2.out).mono ?_)
 rintro e w2 ⟨rfl, hb⟩
 replace H := H.below hb
 clear hb
 obtain ⟨ct0, ct1, ct2, ct3, ct4, ct5, ct6, ct7, ct8, ct9, ct10⟩ := H.cells11 (w.heap.size)
 have lt := zA0 ct0
 go_wp2_with fail
 clear ct0 ct1 ct2 ct3 ct4 ct5 ct6 ct7 ct8 ct9 ct10 lt
 (with_reducible refine (zB7 ro S3 _ (H.factsT) hs3.out).mono ?_)
 rintro e w3 ⟨rfl, hb⟩
 replace H := H.below hb
 clear hb
 obtain ⟨ct0, ct1, ct2, ct3, ct4, ct5, ct6, ct7, ct8, ct9, ct10⟩ := H.cells11 (w.heap.size)
 have lt := zA0 ct0
 go_wp2_with fail
 clear ct0 ct1 ct2 ct3 ct4 ct5 ct6 ct7 ct8 ct9 ct10 lt
 (with_reducible refine (zBr ms r4 _ hs4.out).mono ?_)
 rintro e w4 ⟨rfl, hb⟩
 replace H := H.below hb
 clear hb
 obtain ⟨ct0, ct1, ct2, ct3, ct4, ct5, ct6, ct7, ct8, ct9, ct10⟩ := H.cells11 (w.heap.size)
 have lt := zA0 ct0
 go_wp2_with fail
 clear ct0 ct1 ct2 ct3 ct4 ct5 ct6 ct7 ct8 ct9 ct10 lt
 (with_reducible refine (zAq st true _ (H.factsT) hs5.out).mono ?_)
 rintro e w5 ⟨rfl, hb⟩
 replace H := H.below hb
 clear hb
 obtain ⟨ct0, ct1, ct2, ct3, ct4, ct5, ct6, ct7, ct8, ct9, ct10⟩ := H.cells11 (w.heap.size)
 have lt := zA0 ct0
 go_wp2_with fail
 clear ct0 ct1 ct2 ct3 ct4 ct5 ct6 ct7 ct8 ct9 ct10 lt
 (with_reducible refine (zAq en true _ (H.factsT) hs6.out).mono ?_)
 rintro e w6 ⟨rfl, hb⟩
 replace H := H.below hb
 clear hb
 obtain ⟨ct0, ct1, ct2, ct3, ct4, ct5, ct6, ct7, ct8, ct9, ct10⟩ := H.cells11 (w.heap.size)
 have lt := zA0 ct0
 go_wp2_with fail
 clear ct0 ct1 ct2 ct3 ct4 ct5 ct6 ct7 ct8 ct9 ct10 lt
 (with_reducible refine (zKv mo ra true _ hm.out hr.out hs12.out).mono ?_)
 rintro e w7 ⟨rfl, hb⟩
 replace H := H.below hb
 clear hb
 obtain ⟨hg, b0, b1, b2, b3, s0, s1, s2, s3, ⟨h0, h1, h2, h3⟩, ⟨n01, n02, n03, n12, n13, n23⟩, r0, r1, r2, r3⟩ := H.errT
 have l0 := zA0 h0
 have l1 := zA0 h1
 have l2 := zA0 h2
 have l3 := zA0 h3
 obtain ⟨ct0, ct1, ct2, ct3, ct4, ct5, ct6, ct7, ct8, ct9, ct10⟩ := H.cells11 (w.heap.size)
 have lt := zA0 ct0
 go_wp2_with fail
 clear ct0 ct1 ct2 ct3 ct4 ct5 ct6 ct7 ct8 ct9 ct10 lt
 go_ret
 exact ⟨⟨_, rfl⟩, H.old⟩
theorem zMg (mo ra ki co st en ms : Int) (bk lg eo : Bool) (ro : Int) (a0 a1 a2 a3 : Addr) (S1 : ByteArray) (hs1 : tn ki = S1) (e1 : S1.toList.isEmpty = false) (S2 : ByteArray) (hs2 : nm co = S2) (e2 : S2.toList.isEmpty = false) (S3 : ByteArray) (hs3 : rn ro = S3) (e3 : S3.toList.isEmpty = false) (r4 : Int) (hs4 : fr ms = r4) (e4 : (r4 == 0) = false) (hs5 : decide (1 ≤ st ∧ st ≤ 3652059) = true) (hs6 : decide (1 ≤ en ∧ en ≤ 3652059) = true) (e7 : decide (st ≥ en) = false) (e8 : decide (mo < 1) = false) (e9 : decide (mo > 1000000000000000) = false) (e10 : decide (ra < 0) = false) (e11 : decide (ra > 1000000) = false) (hm : 1 ≤ mo ∧ mo ≤ 1000000000000000) (hr : 0 ≤ ra ∧ ra ≤ 1000000) (hs12 : decide (9000000000000000000 < mo * ra) = false) (w : World) (hL : FactsT w) (hE : ErrT a0 a1 a2 a3 w) : Calls Tryz.prog 108 #[.agg #[.int .i64 mo, .int .i64 ra, .int .i64 ki, .int .i64 co, .int .i64 st, .int .i64 en, .int .i64 ms, .bool bk, .bool lg, .bool eo, .int .i64 ro]] w fun e w' => e = .returned .nilIface ∧ Below w.heap.size w w' := by
 have H := ((Held.start w).add (f := zAm) hL).add (f := zB9 a0 a1 a2 a3) hE
 clear hL hE
 replace hs1 := Lib.hid hs1
 replace hs2 := Lib.hid hs2
 replace hs3 := Lib.hid hs3
 replace hs4 := Lib.hid hs4
 replace hs5 := Lib.hid hs5
 replace hs6 := Lib.hid hs6
 replace hm := Lib.hid hm
 replace hr := Lib.hid hr
 replace hs12 := Lib.hid hs12
 go_enter Tryz.func108, Tryz.ntmps108
 go_wp2_with fail
 replace H := H.box_11 (w.heap.size) (.int .i64 mo) (.int .i64 ra) (.int .i64 ki) (.int .i64 co) (.int .i64 st) (.int .i64 en) (.int .i64 ms) (.bool bk) (.bool lg) (.bool eo) (.int .i64 ro) 23 rfl
 (with_reducible refine (zBd ki S1 _ (H.factsT) hs1.out).mono ?_)
 rintro e w1 ⟨rfl, hb⟩
 replace H := H.below hb
 clear hb
 obtain ⟨ct0, ct1, ct2, ct3, ct4, ct5, ct6, ct7, ct8, ct9, ct10⟩ := H.cells11 (w.heap.size)
 have lt := zA0 ct0
 go_wp2_with fail
 clear ct0 ct1 ct2 ct3 ct4 ct5 ct6 ct7 ct8 ct9 ct10 lt
 (with_reducible refine (zAv co S2 _ hs2.out).mono ?_)
 rintro e w2 ⟨rfl, hb⟩
 replace H := H.below hb
 clear hb
 obtain ⟨ct0, ct1, ct2, ct3, ct4, ct5, ct6, ct7, ct8, ct9, ct10⟩ := H.cells11 (w.heap.size)
 have lt := zA0 ct0
 go_wp2_with fail
 clear ct0 ct1 ct2 ct3 ct4 ct5 ct6 ct7 ct8 ct9 ct10 lt
 (with_reducible refine (zB7 ro S3 _ (H.factsT) hs3.out).mono ?_)
 rintro e w3 ⟨rfl, hb⟩
 replace H := H.below hb
 clear hb
 obtain ⟨ct0, ct1, ct2, ct3, ct4, ct5, ct6, ct7, ct8, ct9, ct10⟩ := H.cells11 (w.heap.size)
 have lt := zA0 ct0
 go_wp2_with fail
 clear ct0 ct1 ct2 ct3 ct4 ct5 ct6 ct7 ct8 ct9 ct10 lt
 (with_reducible refine (zBr ms r4 _ hs4.out).mono ?_)
 rintro e w4 ⟨rfl, hb⟩
 replace H := H.below hb
 clear hb
 obtain ⟨ct0, ct1, ct2, ct3, ct4, ct5, ct6, ct7, ct8, ct9, ct10⟩ := H.cells11 (w.heap.size)
 have lt := zA0 ct0
 go_wp2_with fail
 clear ct0 ct1 ct2 ct3 ct4 ct5 ct6 ct7 ct8 ct9 ct10 lt
 (with_reducible refine (zAq st true _ (H.factsT) hs5.out).mono ?_)
 rintro e w5 ⟨rfl, hb⟩
 replace H := H.below hb
 clear hb
 obtain ⟨ct0, ct1, ct2, ct3, ct4, ct5, ct6, ct7, ct8, ct9, ct10⟩ := H.cells11 (w.heap.size)
 have lt := zA0 ct0
 go_wp2_with fail
 clear ct0 ct1 ct2 ct3 ct4 ct5 ct6 ct7 ct8 ct9 ct10 lt
 (with_reducible refine (zAq en true _ (H.factsT) hs6.out).mono ?_)
 rintro e w6 ⟨rfl, hb⟩
 replace H := H.below hb
 clear hb
 obtain ⟨ct0, ct1, ct2, ct3, ct4, ct5, ct6, ct7, ct8, ct9, ct10⟩ := H.cells11 (w.heap.size)
 have lt := zA0 ct0
 go_wp2_with fail
 clear ct0 ct1 ct2 ct3 ct4 ct5 ct6 ct7 ct8 ct9 ct10 lt
 (with_reducible refine (zKv mo ra false _ hm.out hr.out hs12.out).mono ?_)
 rintro e w7 ⟨rfl, hb⟩
 replace H := H.below hb
 clear hb
 obtain ⟨ct0, ct1, ct2, ct3, ct4, ct5, ct6, ct7, ct8, ct9, ct10⟩ := H.cells11 (w.heap.size)
 have lt := zA0 ct0
 go_wp2_with fail
 clear ct0 ct1 ct2 ct3 ct4 ct5 ct6 ct7 ct8 ct9 ct10 lt
 go_ret
 exact ⟨rfl, H.old⟩
theorem zGl (mo ra ki co st en ms : Int) (bk lg eo : Bool) (ro : Int) (a0 a1 a2 a3 : Addr) (w : World) (hE : ErrT a0 a1 a2 a3 w) (hF : ∀ v, Below w.heap.size w v → Calls Tryz.prog 108 #[.agg #[.int .i64 mo, .int .i64 ra, .int .i64 ki, .int .i64 co, .int .i64 st, .int .i64 en, .int .i64 ms, .bool bk, .bool lg, .bool eo, .int .i64 ro]] v fun e w' => (∃ s, e = .returned (.iface 152 (.agg #[.string s, .iface 270 (.pointer (some a0))]))) ∧ Below v.heap.size v w') : Calls Tryz.prog 94 #[.agg #[.int .i64 mo, .int .i64 ra, .int .i64 ki, .int .i64 co, .int .i64 st, .int .i64 en, .int .i64 ms, .bool bk, .bool lg, .bool eo, .int .i64 ro]] w fun e w' => e = .returned (.int .i64 1) ∧ Below w.heap.size w w' := by
 have H := (Held.start w).add (f := zB9 a0 a1 a2 a3) hE
 replace hF := Lib.hid hF
 clear hE
 go_enter Tryz.func94, Tryz.ntmps94
 go_wp2_with fail
 replace H := H.box_11 (w.heap.size) (.int .i64 mo) (.int .i64 ra) (.int .i64 ki) (.int .i64 co) (.int .i64 st) (.int .i64 en) (.int .i64 ms) (.bool bk) (.bool lg) (.bool eo) (.int .i64 ro) 23 rfl
 (with_reducible refine (hF.out _ H.old).mono ?_)
 rintro e w1 ⟨⟨s, rfl⟩, hb⟩
 replace H := H.below hb
 clear hb
 go_wp2_with fail
 (with_reducible refine (tcode_0 s a0 a1 a2 a3 _ (H.errT)).mono ?_)
 rintro e w2 ⟨rfl, hb⟩
 replace H := H.below hb
 clear hb
 go_wp2_with fail
 go_ret
 exact ⟨rfl, H.old⟩
theorem zOe (mo ra ki co st en ms : Int) (bk lg eo : Bool) (ro : Int) (a0 a1 a2 a3 : Addr) (w : World) (hE : ErrT a0 a1 a2 a3 w) (hF : ∀ v, Below w.heap.size w v → Calls Tryz.prog 108 #[.agg #[.int .i64 mo, .int .i64 ra, .int .i64 ki, .int .i64 co, .int .i64 st, .int .i64 en, .int .i64 ms, .bool bk, .bool lg, .bool eo, .int .i64 ro]] v fun e w' => (∃ s, e = .returned (.iface 152 (.agg #[.string s, .iface 270 (.pointer (some a1))]))) ∧ Below v.heap.size v w') : Calls Tryz.prog 94 #[.agg #[.int .i64 mo, .int .i64 ra, .int .i64 ki, .int .i64 co, .int .i64 st, .int .i64 en, .int .i64 ms, .bool bk, .bool lg, .bool eo, .int .i64 ro]] w fun e w' => e = .returned (.int .i64 3) ∧ Below w.heap.size w w' := by
 have H := (Held.start w).add (f := zB9 a0 a1 a2 a3) hE
 replace hF := Lib.hid hF
 clear hE
 go_enter Tryz.func94, Tryz.ntmps94
 go_wp2_with fail
 replace H := H.box_11 (w.heap.size) (.int .i64 mo) (.int .i64 ra) (.int .i64 ki) (.int .i64 co) (.int .i64 st) (.int .i64 en) (.int .i64 ms) (.bool bk) (.bool lg) (.bool eo) (.int .i64 ro) 23 rfl
 (with_reducible refine (hF.out _ H.old).mono ?_)
 rintro e w1 ⟨⟨s, rfl⟩, hb⟩
 replace H := H.below hb
 clear hb
 go_wp2_with fail
 (with_reducible refine (tcode_1 s a0 a1 a2 a3 _ (H.errT)).mono ?_)
 rintro e w2 ⟨rfl, hb⟩
 replace H := H.below hb
 clear hb
 go_wp2_with fail
 go_ret
 exact ⟨rfl, H.old⟩
theorem check_2 (mo ra ki co st en ms : Int) (bk lg eo : Bool) (ro : Int) (a0 a1 a2 a3 : Addr) (w : World) (hE : ErrT a0 a1 a2 a3 w) (hF : ∀ v, Below w.heap.size w v → Calls Tryz.prog 108 #[.agg #[.int .i64 mo, .int .i64 ra, .int .i64 ki, .int .i64 co, .int .i64 st, .int .i64 en, .int .i64 ms, .bool bk, .bool lg, .bool eo, .int .i64 ro]] v fun e w' => (∃ s, e = .returned (.iface 152 (.agg #[.string s, .iface 270 (.pointer (some a2))]))) ∧ Below v.heap.size v w') : Calls Tryz.prog 94 #[.agg #[.int .i64 mo, .int .i64 ra, .int .i64 ki, .int .i64 co, .int .i64 st, .int .i64 en, .int .i64 ms, .bool bk, .bool lg, .bool eo, .int .i64 ro]] w fun e w' => e = .returned (.int .i64 4) ∧ Below w.heap.size w w' := by
 have H := (Held.start w).add (f := zB9 a0 a1 a2 a3) hE
 replace hF := Lib.hid hF
 clear hE
 go_enter Tryz.func94, Tryz.ntmps94
 go_wp2_with fail
 replace H := H.box_11 (w.heap.size) (.int .i64 mo) (.int .i64 ra) (.int .i64 ki) (.int .i64 co) (.int .i64 st) (.int .i64 en) (.int .i64 ms) (.bool bk) (.bool lg) (.bool eo) (.int .i64 ro) 23 rfl
 (with_reducible refine (hF.out _ H.old).mono ?_)
 rintro e w1 ⟨⟨s, rfl⟩, hb⟩
 replace H := H.below hb
 clear hb
 go_wp2_with fail
 (with_reducible refine (tcode_2 s a0 a1 a2 a3 _ (H.errT)).mono ?_)
 rintro e w2 ⟨rfl, hb⟩
 replace H := H.below hb
 clear hb
 go_wp2_with fail
 go_ret
 exact ⟨rfl, H.old⟩
theorem zF4 (mo ra ki co st en ms : Int) (bk lg eo : Bool) (ro : Int) (a0 a1 a2 a3 : Addr) (w : World) (hE : ErrT a0 a1 a2 a3 w) (hF : ∀ v, Below w.heap.size w v → Calls Tryz.prog 108 #[.agg #[.int .i64 mo, .int .i64 ra, .int .i64 ki, .int .i64 co, .int .i64 st, .int .i64 en, .int .i64 ms, .bool bk, .bool lg, .bool eo, .int .i64 ro]] v fun e w' => (∃ s, e = .returned (.iface 152 (.agg #[.string s, .iface 270 (.pointer (some a3))]))) ∧ Below v.heap.size v w') : Calls Tryz.prog 94 #[.agg #[.int .i64 mo, .int .i64 ra, .int .i64 ki, .int .i64 co, .int .i64 st, .int .i64 en, .int .i64 ms, .bool bk, .bool lg, .bool eo, .int .i64 ro]] w fun e w' => e = .returned (.int .i64 2) ∧ Below w.heap.size w w' := by
 have H := (Held.start w).add (f := zB9 a0 a1 a2 a3) hE
 replace hF := Lib.hid hF
 clear hE
 go_enter Tryz.func94, Tryz.ntmps94
 go_wp2_with fail
 replace H := H.box_11 (w.heap.size) (.int .i64 mo) (.int .i64 ra) (.int .i64 ki) (.int .i64 co) (.int .i64 st) (.int .i64 en) (.int .i64 ms) (.bool bk) (.bool lg) (.bool eo) (.int .i64 ro) 23 rfl
 (with_reducible refine (hF.out _ H.old).mono ?_)
 rintro e w1 ⟨⟨s, rfl⟩, hb⟩
 replace H := H.below hb
 clear hb
 go_wp2_with fail
 (with_reducible refine (tcode_3 s a0 a1 a2 a3 _ (H.errT)).mono ?_)
 rintro e w2 ⟨rfl, hb⟩
 replace H := H.below hb
 clear hb
 go_wp2_with fail
 go_ret
 exact ⟨rfl, H.old⟩
theorem zMa (mo ra ki co st en ms : Int) (bk lg eo : Bool) (ro : Int) (a0 a1 a2 a3 : Addr) (w : World) (hE : ErrT a0 a1 a2 a3 w) (hF : ∀ v, Below w.heap.size w v → Calls Tryz.prog 108 #[.agg #[.int .i64 mo, .int .i64 ra, .int .i64 ki, .int .i64 co, .int .i64 st, .int .i64 en, .int .i64 ms, .bool bk, .bool lg, .bool eo, .int .i64 ro]] v fun e w' => e = .returned .nilIface ∧ Below v.heap.size v w') : Calls Tryz.prog 94 #[.agg #[.int .i64 mo, .int .i64 ra, .int .i64 ki, .int .i64 co, .int .i64 st, .int .i64 en, .int .i64 ms, .bool bk, .bool lg, .bool eo, .int .i64 ro]] w fun e w' => e = .returned (.int .i64 0) ∧ Below w.heap.size w w' := by
 have H := (Held.start w).add (f := zB9 a0 a1 a2 a3) hE
 replace hF := Lib.hid hF
 clear hE
 go_enter Tryz.func94, Tryz.ntmps94
 go_wp2_with fail
 replace H := H.box_11 (w.heap.size) (.int .i64 mo) (.int .i64 ra) (.int .i64 ki) (.int .i64 co) (.int .i64 st) (.int .i64 en) (.int .i64 ms) (.bool bk) (.bool lg) (.bool eo) (.int .i64 ro) 23 rfl
 (with_reducible refine (hF.out _ H.old).mono ?_)
 rintro e w1 ⟨rfl, hb⟩
 replace H := H.below hb
 clear hb
 go_wp2_with fail
 (with_reducible refine (zR1 _).mono ?_)
 rintro e w2 ⟨rfl, hb⟩
 replace H := H.below hb
 clear hb
 go_wp2_with fail
 go_ret
 exact ⟨rfl, H.old⟩
theorem zJ5 (mo ra ki co st en ms : Int) (bk lg eo : Bool) (ro : Int) (c : Int) (w : World) (hL : FactsT w) (h : (Tm.mk mo ra ki co st en ms bk lg eo ro).code = c) : Calls Tryz.prog 94 #[.agg #[.int .i64 mo, .int .i64 ra, .int .i64 ki, .int .i64 co, .int .i64 st, .int .i64 en, .int .i64 ms, .bool bk, .bool lg, .bool eo, .int .i64 ro]] w fun e w' => e = .returned (.int .i64 c) ∧ Below w.heap.size w w' := by
 subst h
 obtain ⟨a0, a1, a2, a3, hE⟩ := hL.2.2.2
 have bE := fun v (hb : Below w.heap.size w v) => ErrT.below hE hb
 have bL := fun v (hb : Below w.heap.size w v) => FactsT.below hL hb
 by_cases hk : 0 ≤ ki ∧ ki ≤ 2
 rotate_left
 ·rw [Tm.bad (fun g => hk g.1)]
  exact zGl mo ra ki co st en ms bk lg eo ro a0 a1 a2 a3 w hE fun v hb => zMf mo ra ki co st en ms bk lg eo ro a0 a1 a2 a3 _ rfl (by rw [zR7]; exact decide_eq_true (by omega)) v (bL v hb) (bE v hb)
 have e1 : (tn ki).toList.isEmpty = false := by rw [zR7]; exact decide_eq_false (by omega)
 by_cases hc : 0 ≤ co ∧ co ≤ 6
 rotate_left
 ·rw [Tm.bad (fun g => hc g.2.1)]
  exact zGl mo ra ki co st en ms bk lg eo ro a0 a1 a2 a3 w hE fun v hb => zJb mo ra ki co st en ms bk lg eo ro a0 a1 a2 a3 _ rfl e1 _ rfl (by rw [zPp]; exact decide_eq_true (by omega)) v (bL v hb) (bE v hb)
 have e2 : (nm co).toList.isEmpty = false := by rw [zPp]; exact decide_eq_false (by omega)
 by_cases hr : 0 ≤ ro ∧ ro ≤ 4
 rotate_left
 ·rw [Tm.bad (fun g => hr g.2.2.1)]
  exact zGl mo ra ki co st en ms bk lg eo ro a0 a1 a2 a3 w hE fun v hb => zMi mo ra ki co st en ms bk lg eo ro a0 a1 a2 a3 _ rfl e1 _ rfl e2 _ rfl (by rw [zQq]; exact decide_eq_true (by omega)) v (bL v hb) (bE v hb)
 have e3 : (rn ro).toList.isEmpty = false := by rw [zQq]; exact decide_eq_false (by omega)
 by_cases hm : Mo ms
 rotate_left
 ·rw [Tm.bad (fun g => hm g.2.2.2)]
  exact zGl mo ra ki co st en ms bk lg eo ro a0 a1 a2 a3 w hE fun v hb => zHq mo ra ki co st en ms bk lg eo ro a0 a1 a2 a3 _ rfl e1 _ rfl e2 _ rfl e3 _ rfl (by rw [zGn]; exact decide_eq_true hm) v (bL v hb) (bE v hb)
 have e4 : (fr ms == 0) = false := by rw [zGn]; exact decide_eq_false (fun g => g hm)
 have hF : (Tm.mk mo ra ki co st en ms bk lg eo ro).Form := ⟨hk, hc, hr, hm⟩
 by_cases h5 : 1 ≤ st ∧ st ≤ 3652059
 rotate_left
 ·rw [Tm.noDay hF (fun g => h5 g.1)]
  exact zOe mo ra ki co st en ms bk lg eo ro a0 a1 a2 a3 w hE fun v hb => zJf mo ra ki co st en ms bk lg eo ro a0 a1 a2 a3 _ rfl e1 _ rfl e2 _ rfl e3 _ rfl e4 (decide_eq_false h5) v (bL v hb) (bE v hb)
 by_cases h6 : 1 ≤ en ∧ en ≤ 3652059
 rotate_left
 ·rw [Tm.noDay hF (fun g => h6 g.2)]
  exact zOe mo ra ki co st en ms bk lg eo ro a0 a1 a2 a3 w hE fun v hb => zOw mo ra ki co st en ms bk lg eo ro a0 a1 a2 a3 _ rfl e1 _ rfl e2 _ rfl e3 _ rfl e4 (decide_eq_true h5) (decide_eq_false h6) v (bL v hb) (bE v hb)
 have hD : (Tm.mk mo ra ki co st en ms bk lg eo ro).Days := ⟨h5, h6⟩
 by_cases h7 : st < en
 rotate_left
 ·rw [Tm.turned hF hD h7]
  exact check_2 mo ra ki co st en ms bk lg eo ro a0 a1 a2 a3 w hE fun v hb => zJd mo ra ki co st en ms bk lg eo ro a0 a1 a2 a3 _ rfl e1 _ rfl e2 _ rfl e3 _ rfl e4 (decide_eq_true h5) (decide_eq_true h6) (decide_eq_true (by omega)) v (bL v hb) (bE v hb)
 have e7 : decide (st ≥ en) = false := decide_eq_false (by omega)
 by_cases h8 : 1 ≤ mo
 rotate_left
 ·rw [Tm.over hF hD h7 (fun g => h8 g.1.1)]
  exact zF4 mo ra ki co st en ms bk lg eo ro a0 a1 a2 a3 w hE fun v hb => zJc mo ra ki co st en ms bk lg eo ro a0 a1 a2 a3 _ rfl e1 _ rfl e2 _ rfl e3 _ rfl e4 (decide_eq_true h5) (decide_eq_true h6) e7 (decide_eq_true (by omega)) v (bL v hb) (bE v hb)
 have e8 : decide (mo < 1) = false := decide_eq_false (by omega)
 by_cases h9 : mo ≤ 1000000000000000
 rotate_left
 ·rw [Tm.over hF hD h7 (fun g => h9 g.1.2)]
  exact zF4 mo ra ki co st en ms bk lg eo ro a0 a1 a2 a3 w hE fun v hb => zHp mo ra ki co st en ms bk lg eo ro a0 a1 a2 a3 _ rfl e1 _ rfl e2 _ rfl e3 _ rfl e4 (decide_eq_true h5) (decide_eq_true h6) e7 e8 (decide_eq_true (by omega)) v (bL v hb) (bE v hb)
 have e9 : decide (mo > 1000000000000000) = false := decide_eq_false (by omega)
 by_cases h10 : 0 ≤ ra
 rotate_left
 ·rw [Tm.over hF hD h7 (fun g => h10 g.2.1)]
  exact zF4 mo ra ki co st en ms bk lg eo ro a0 a1 a2 a3 w hE fun v hb => zMh mo ra ki co st en ms bk lg eo ro a0 a1 a2 a3 _ rfl e1 _ rfl e2 _ rfl e3 _ rfl e4 (decide_eq_true h5) (decide_eq_true h6) e7 e8 e9 (decide_eq_true (by omega)) v (bL v hb) (bE v hb)
 have e10 : decide (ra < 0) = false := decide_eq_false (by omega)
 by_cases h11 : ra ≤ 1000000
 rotate_left
 ·rw [Tm.over hF hD h7 (fun g => h11 g.2.2)]
  exact zF4 mo ra ki co st en ms bk lg eo ro a0 a1 a2 a3 w hE fun v hb => zJe mo ra ki co st en ms bk lg eo ro a0 a1 a2 a3 _ rfl e1 _ rfl e2 _ rfl e3 _ rfl e4 (decide_eq_true h5) (decide_eq_true h6) e7 e8 e9 e10 (decide_eq_true (by omega)) v (bL v hb) (bE v hb)
 have e11 : decide (ra > 1000000) = false := decide_eq_false (by omega)
 have hO : (Tm.mk mo ra ki co st en ms bk lg eo ro).Own := ⟨⟨h8, h9⟩, ⟨h10, h11⟩⟩
 by_cases h12 : 9000000000000000000 < mo * ra
 ·rw [Tm.both hF hD h7 hO h12]
  exact zF4 mo ra ki co st en ms bk lg eo ro a0 a1 a2 a3 w hE fun v hb => zMe mo ra ki co st en ms bk lg eo ro a0 a1 a2 a3 _ rfl e1 _ rfl e2 _ rfl e3 _ rfl e4 (decide_eq_true h5) (decide_eq_true h6) e7 e8 e9 e10 e11 ⟨h8, h9⟩ ⟨h10, h11⟩ (decide_eq_true h12) v (bL v hb) (bE v hb)
 ·rw [Tm.may hF hD h7 hO (Int.not_lt.1 h12)]
  exact zMa mo ra ki co st en ms bk lg eo ro a0 a1 a2 a3 w hE fun v hb => zMg mo ra ki co st en ms bk lg eo ro a0 a1 a2 a3 _ rfl e1 _ rfl e2 _ rfl e3 _ rfl e4 (decide_eq_true h5) (decide_eq_true h6) e7 e8 e9 e10 e11 ⟨h8, h9⟩ ⟨h10, h11⟩ (decide_eq_false h12) v (bL v hb) (bE v hb)
end Go.Proofs.YtpfgdfpaoldhcaaGreatDoor
