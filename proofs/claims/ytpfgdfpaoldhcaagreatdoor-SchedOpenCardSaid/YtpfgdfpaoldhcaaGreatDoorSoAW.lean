/- Several texts in one: RoRoll. -/
import Derived.Test.YtpfgdfpaoldhcaaGreatDoorSoAV
set_option maxHeartbeats 8000000
set_option maxRecDepth 100000
set_option linter.unusedVariables false
set_option linter.unusedSimpArgs false
namespace Go.Proofs.YtpfgdfpaoldhcaaGreatDoor
open Go.RowKit
theorem zEz (n j m : Int) (w : World) (h : IntKind.i64.wrap (n + j) = m) : Calls Tryz.prog 114 #[.int .i64 n, .int .i64 j] w fun e w' => e = .returned (.int .i64 m) ∧ w = w' := by
 go_enter Tryz.func114, Tryz.ntmps114
 go_wp2
 go_ret
 exact ⟨rfl, rfl⟩
theorem zGd (n j m : Int) (w : World) (h : IntKind.i64.wrap (n - j) = m) : Calls Tryz.prog 116 #[.int .i64 n, .int .i64 j] w fun e w' => e = .returned (.int .i64 m) ∧ w = w' := by
 go_enter Tryz.func116, Tryz.ntmps116
 go_wp2
 go_ret
 exact ⟨rfl, rfl⟩
theorem zDy (n : Int) (w : World) (h : dy n) : Calls Tryz.prog 103 #[.int .i64 n] w fun e w' => e = .returned (.tuple #[.int .i64 n, .int .i64 0]) ∧ w = w' := by
 have t0 : decide (n < 1) = false := decide_eq_false (by unfold dy at h; omega)
 have t1 : decide (n > 3652059) = false := decide_eq_false (by unfold dy at h; omega)
 clear h
 go_enter Tryz.func103, Tryz.ntmps103
 go_wp2
 go_ret2
 exact ⟨rfl, rfl⟩
theorem zFm (n : Int) (w : World) (h : ¬ dy n) : Calls Tryz.prog 103 #[.int .i64 n] w fun e w' => e = .returned (.tuple #[.int .i64 0, .int .i64 3]) ∧ w = w' := by
 by_cases g : n < 1
 ·have t0 : decide (n < 1) = true := decide_eq_true g
  clear h g
  go_enter Tryz.func103, Tryz.ntmps103
  go_wp2
  go_ret2
  exact ⟨rfl, rfl⟩
 ·have t0 : decide (n < 1) = false := decide_eq_false g
  have t1 : decide (n > 3652059) = true := decide_eq_true (by unfold dy at h; omega)
  clear h g
  go_enter Tryz.func103, Tryz.ntmps103
  go_wp2
  go_ret2
  exact ⟨rfl, rfl⟩
theorem zN8 (c : Ca) (aR : Option Addr) (cR : Nat) (aD : Option Addr) (cD : Nat) (n : Int)  (w : World) (hL : FactsW w) (hM : c.May) (hC : CalAt w c aR cR aD cD) (bn : -9223372036854775808 ≤ n ∧ n < 9223372036854775808) (hn : ¬ dy n) : Calls Tryz.prog 113 #[.agg #[.bool (c.o 0), .bool (c.o 1), .bool (c.o 2), .bool (c.o 3), .bool (c.o 4), .bool (c.o 5), .bool (c.o 6), .slice aR c.nr cR, .slice aD c.nd cD], .func (.func 114) #[.int .i64 n] #[]] w fun e' w' => e' = .returned (.tuple #[.int .i64 0, .int .i64 3]) ∧ Below w.heap.size w w' := by
 have H := ((Held.start w).add (f := zAc) hL).add (f := calF c aR cR aD cD) hC
 have HM := Lib.hid hM
 clear hL hM hC
 have C1 := Lib.hid (fun v => zEz n 0 n v (by rw [IntWalk.i64_in _ (by omega)]; omega))
 have C2 := Lib.hid (fun v => zFm n v hn)
 clear hn
 go_enter Tryz.func113, Tryz.ntmps113
 replace H := H.box_9 (w.heap.size) (.bool (c.o 0)) (.bool (c.o 1)) (.bool (c.o 2)) (.bool (c.o 3)) (.bool (c.o 4)) (.bool (c.o 5)) (.bool (c.o 6)) (.slice aR c.nr cR) (.slice aD c.nd cD) 28 rfl
 go_wp2_with fail
 go_loopw [9] (fun i W' => i = .int .i64 0 ∧ Held w (.cell (w.heap.size) 0 (.bool (c.o 0)) :: .cell (w.heap.size) 1 (.bool (c.o 1)) :: .cell (w.heap.size) 2 (.bool (c.o 2)) :: .cell (w.heap.size) 3 (.bool (c.o 3)) :: .cell (w.heap.size) 4 (.bool (c.o 4)) :: .cell (w.heap.size) 5 (.bool (c.o 5)) :: .cell (w.heap.size) 6 (.bool (c.o 6)) :: .cell (w.heap.size) 7 (.slice aR c.nr cR) :: .cell (w.heap.size) 8 (.slice aD c.nd cD) :: .free (w.heap.size) 0 :: .free (w.heap.size) 1 :: .free (w.heap.size) 2 :: .free (w.heap.size) 3 :: .free (w.heap.size) 4 :: .free (w.heap.size) 5 :: .free (w.heap.size) 6 :: .free (w.heap.size) 7 :: .free (w.heap.size) 8 :: calF c aR cR aD cD :: zAc :: []) W') (fun i _ => 61 - (intOf i).toNat)
 case atStart => exact ⟨rfl, H⟩
 case round =>
  clear H
  obtain ⟨rfl, H⟩ := hrel
  go_wp2_with fail
  (with_reducible refine (C1.out _).mono ?_)
  rintro e w1 ⟨rfl, rfl⟩
  go_wp2_with fail
  (with_reducible refine (C2.out _).mono ?_)
  rintro e w1 ⟨rfl, rfl⟩
  go_wp2
  go_ret2
  exact ⟨rfl, H.old⟩
theorem zKe (c : Ca) (aR : Option Addr) (cR : Nat) (aD : Option Addr) (cD : Nat) (n : Int) (k : Nat) (w : World) (hL : FactsW w) (hM : c.May) (hC : CalAt w c aR cR aD cD) (hn : dy n) (hk : k ≤ 60) (hi : c.Is (n + k)) (hno : ∀ l : Nat, l < k → ¬ c.Is (n + l)) : Calls Tryz.prog 113 #[.agg #[.bool (c.o 0), .bool (c.o 1), .bool (c.o 2), .bool (c.o 3), .bool (c.o 4), .bool (c.o 5), .bool (c.o 6), .slice aR c.nr cR, .slice aD c.nd cD], .func (.func 114) #[.int .i64 n] #[]] w fun e' w' => e' = .returned (.tuple #[.int .i64 (n + k), .int .i64 0]) ∧ Below w.heap.size w w' := by
 have H := ((Held.start w).add (f := zAc) hL).add (f := calF c aR cR aD cD) hC
 have HM := Lib.hid hM
 clear hL hM hC
 have HI := Lib.hid hi
 have HN := Lib.hid hno
 obtain ⟨n1, n2⟩ := hn
 obtain ⟨⟨i1, i2⟩, _⟩ := hi
 clear hno
 go_enter Tryz.func113, Tryz.ntmps113
 replace H := H.box_9 (w.heap.size) (.bool (c.o 0)) (.bool (c.o 1)) (.bool (c.o 2)) (.bool (c.o 3)) (.bool (c.o 4)) (.bool (c.o 5)) (.bool (c.o 6)) (.slice aR c.nr cR) (.slice aD c.nd cD) 28 rfl
 go_wp2_with fail
 go_loopw [9] (fun i W' => ∃ (j : Nat), j ≤ k ∧ i = .int .i64 j ∧ Held w (.cell (w.heap.size) 0 (.bool (c.o 0)) :: .cell (w.heap.size) 1 (.bool (c.o 1)) :: .cell (w.heap.size) 2 (.bool (c.o 2)) :: .cell (w.heap.size) 3 (.bool (c.o 3)) :: .cell (w.heap.size) 4 (.bool (c.o 4)) :: .cell (w.heap.size) 5 (.bool (c.o 5)) :: .cell (w.heap.size) 6 (.bool (c.o 6)) :: .cell (w.heap.size) 7 (.slice aR c.nr cR) :: .cell (w.heap.size) 8 (.slice aD c.nd cD) :: .free (w.heap.size) 0 :: .free (w.heap.size) 1 :: .free (w.heap.size) 2 :: .free (w.heap.size) 3 :: .free (w.heap.size) 4 :: .free (w.heap.size) 5 :: .free (w.heap.size) 6 :: .free (w.heap.size) 7 :: .free (w.heap.size) 8 :: calF c aR cR aD cD :: zAc :: []) W') (fun i _ => 61 - (intOf i).toNat)
 case atStart => exact ⟨0, by omega, rfl, H⟩
 case round =>
  clear H
  obtain ⟨j, j1, rfl, H⟩ := hrel
  have C1 := Lib.hid (fun v => zEz n j (n + j) v (by rw [IntWalk.i64_in _ (by omega)]))
  have C2 := Lib.hid (fun v => zDy (n + j) v (by unfold dy; omega))
  have k0 := H.cell (w.heap.size) 0 (.bool (c.o 0)) i0_
  have k1 := H.cell (w.heap.size) 1 (.bool (c.o 1)) i1_
  have k2 := H.cell (w.heap.size) 2 (.bool (c.o 2)) i2_
  have k3 := H.cell (w.heap.size) 3 (.bool (c.o 3)) i3_
  have k4 := H.cell (w.heap.size) 4 (.bool (c.o 4)) i4_
  have k5 := H.cell (w.heap.size) 5 (.bool (c.o 5)) i5_
  have k6 := H.cell (w.heap.size) 6 (.bool (c.o 6)) i6_
  have k7 := H.cell (w.heap.size) 7 (.slice aR c.nr cR) i7_
  have k8 := H.cell (w.heap.size) 8 (.slice aD c.nd cD) i8_
  by_cases hj : j < k
  ·have Q := Lib.hid (fun v (h : FactsW v) (k : CalAt v c aR cR aD cD) => zG3 c aR cR aD cD (n + j) false v h HM.out k ⟨fun g => absurd g (by decide), fun g => absurd g (HN.out j hj)⟩)
   go_wp2_with fail
   (with_reducible refine (C1.out _).mono ?_)
   rintro e w1 ⟨rfl, rfl⟩
   go_wp2_with fail
   (with_reducible refine (C2.out _).mono ?_)
   rintro e w1 ⟨rfl, rfl⟩
   go_wp2_with fail
   (with_reducible refine (Q.out _ (H.factsW (i19_)) (H.cal (i18_))).mono ?_)
   clear k0 k1 k2 k3 k4 k5 k6 k7 k8 Q C1 C2
   rintro e w3 ⟨rfl, hb⟩
   replace H := H.below hb
   clear hb
   go_wp2
   go_roundw
   case rel => exact ⟨j + 1, by omega, by go_num, H⟩
   case measure => simp [intOf]; omega
  ·obtain rfl : j = k := by omega
   have Q := Lib.hid (fun v (h : FactsW v) (k : CalAt v c aR cR aD cD) => zG3 c aR cR aD cD (n + j) true v h HM.out k ⟨fun _ => HI.out, fun _ => rfl⟩)
   go_wp2_with fail
   (with_reducible refine (C1.out _).mono ?_)
   rintro e w1 ⟨rfl, rfl⟩
   go_wp2_with fail
   (with_reducible refine (C2.out _).mono ?_)
   rintro e w1 ⟨rfl, rfl⟩
   go_wp2_with fail
   (with_reducible refine (Q.out _ (H.factsW (i19_)) (H.cal (i18_))).mono ?_)
   clear k0 k1 k2 k3 k4 k5 k6 k7 k8 Q C1 C2
   rintro e w3 ⟨rfl, hb⟩
   replace H := H.below hb
   clear hb
   go_wp2
   go_ret2
   exact ⟨rfl, H.old⟩
theorem zIj (c : Ca) (aR : Option Addr) (cR : Nat) (aD : Option Addr) (cD : Nat) (n : Int) (e : Int) (w : World) (hL : FactsW w) (hM : c.May) (hC : CalAt w c aR cR aD cD) (hn : dy n) (hno : ∀ l : Nat, l ≤ 60 → ¬ c.Is (n + l)) (he : (dy (n + 60) ∧ e = 8) ∨ (¬ dy (n + 60) ∧ e = 3)) : Calls Tryz.prog 113 #[.agg #[.bool (c.o 0), .bool (c.o 1), .bool (c.o 2), .bool (c.o 3), .bool (c.o 4), .bool (c.o 5), .bool (c.o 6), .slice aR c.nr cR, .slice aD c.nd cD], .func (.func 114) #[.int .i64 n] #[]] w fun e' w' => e' = .returned (.tuple #[.int .i64 0, .int .i64 e]) ∧ Below w.heap.size w w' := by
 have H := ((Held.start w).add (f := zAc) hL).add (f := calF c aR cR aD cD) hC
 have HM := Lib.hid hM
 clear hL hM hC
 have HN := Lib.hid hno
 have HE := Lib.hid he
 obtain ⟨n1, n2⟩ := hn
 clear hno he
 go_enter Tryz.func113, Tryz.ntmps113
 replace H := H.box_9 (w.heap.size) (.bool (c.o 0)) (.bool (c.o 1)) (.bool (c.o 2)) (.bool (c.o 3)) (.bool (c.o 4)) (.bool (c.o 5)) (.bool (c.o 6)) (.slice aR c.nr cR) (.slice aD c.nd cD) 28 rfl
 go_wp2_with fail
 go_loopw [9] (fun i W' => ∃ (j : Nat), j ≤ 61 ∧ i = .int .i64 j ∧ (∀ l : Nat, l < j → dy (n + l)) ∧ Held w (.cell (w.heap.size) 0 (.bool (c.o 0)) :: .cell (w.heap.size) 1 (.bool (c.o 1)) :: .cell (w.heap.size) 2 (.bool (c.o 2)) :: .cell (w.heap.size) 3 (.bool (c.o 3)) :: .cell (w.heap.size) 4 (.bool (c.o 4)) :: .cell (w.heap.size) 5 (.bool (c.o 5)) :: .cell (w.heap.size) 6 (.bool (c.o 6)) :: .cell (w.heap.size) 7 (.slice aR c.nr cR) :: .cell (w.heap.size) 8 (.slice aD c.nd cD) :: .free (w.heap.size) 0 :: .free (w.heap.size) 1 :: .free (w.heap.size) 2 :: .free (w.heap.size) 3 :: .free (w.heap.size) 4 :: .free (w.heap.size) 5 :: .free (w.heap.size) 6 :: .free (w.heap.size) 7 :: .free (w.heap.size) 8 :: calF c aR cR aD cD :: zAc :: []) W') (fun i _ => 61 - (intOf i).toNat)
 case atStart => exact ⟨0, by omega, rfl, fun l g => absurd g (Nat.not_lt_zero _), H⟩
 case round =>
  clear H
  obtain ⟨j, j1, rfl, hD, H⟩ := hrel
  have HD := Lib.hid hD
  clear hD
  by_cases hj : j ≤ 60
  ·have C1 := Lib.hid (fun v => zEz n j (n + j) v (by rw [IntWalk.i64_in _ (by omega)]))
   have k0 := H.cell (w.heap.size) 0 (.bool (c.o 0)) i0_
   have k1 := H.cell (w.heap.size) 1 (.bool (c.o 1)) i1_
   have k2 := H.cell (w.heap.size) 2 (.bool (c.o 2)) i2_
   have k3 := H.cell (w.heap.size) 3 (.bool (c.o 3)) i3_
   have k4 := H.cell (w.heap.size) 4 (.bool (c.o 4)) i4_
   have k5 := H.cell (w.heap.size) 5 (.bool (c.o 5)) i5_
   have k6 := H.cell (w.heap.size) 6 (.bool (c.o 6)) i6_
   have k7 := H.cell (w.heap.size) 7 (.slice aR c.nr cR) i7_
   have k8 := H.cell (w.heap.size) 8 (.slice aD c.nd cD) i8_
   by_cases hd : dy (n + j)
   ·have C2 := Lib.hid (fun v => zDy (n + j) v hd)
    have Q := Lib.hid (fun v (h : FactsW v) (k : CalAt v c aR cR aD cD) => zG3 c aR cR aD cD (n + j) false v h HM.out k ⟨fun g => absurd g (by decide), fun g => absurd g (HN.out j hj)⟩)
    have HJ := Lib.hid hd
    clear hd
    go_wp2_with fail
    (with_reducible refine (C1.out _).mono ?_)
    rintro e w1 ⟨rfl, rfl⟩
    go_wp2_with fail
    (with_reducible refine (C2.out _).mono ?_)
    rintro e w1 ⟨rfl, rfl⟩
    go_wp2_with fail
    (with_reducible refine (Q.out _ (H.factsW (i19_)) (H.cal (i18_))).mono ?_)
    clear k0 k1 k2 k3 k4 k5 k6 k7 k8 Q C1 C2
    rintro e w3 ⟨rfl, hb⟩
    replace H := H.below hb
    clear hb
    go_wp2
    go_roundw
    case rel => exact ⟨j + 1, by omega, by go_num, fun l g => by
     by_cases e : l = j
     ·subst e; exact HJ.out
     ·exact HD.out l (by omega), H⟩
    case measure => simp [intOf]; omega
   ·have C2 := Lib.hid (fun v => zFm (n + j) v hd)
    have e3 : e = 3 := by
     rcases HE.out with ⟨g, _⟩ | ⟨_, g⟩
     ·exact absurd (by unfold dy at g ⊢; omega) hd
     ·exact g
    subst e3
    clear hd k0 k1 k2 k3 k4 k5 k6 k7 k8
    go_wp2_with fail
    (with_reducible refine (C1.out _).mono ?_)
    rintro e w1 ⟨rfl, rfl⟩
    go_wp2_with fail
    (with_reducible refine (C2.out _).mono ?_)
    rintro e w1 ⟨rfl, rfl⟩
    go_wp2
    go_ret2
    exact ⟨rfl, H.old⟩
  ·obtain rfl : j = 61 := by omega
   have e3 : e = 8 := by
    rcases HE.out with ⟨_, g⟩ | ⟨g, _⟩
    ·exact g
    ·exact absurd (HD.out 60 (by omega)) g
   subst e3
   go_wp2
   go_ret2
   exact ⟨rfl, H.old⟩
theorem search_p (c : Ca) (aR : Option Addr) (cR : Nat) (aD : Option Addr) (cD : Nat) (n v e : Int) (w : World) (hL : FactsW w) (hM : c.May) (hC : CalAt w c aR cR aD cD) (bn : -9223372036854775808 ≤ n ∧ n < 9223372036854775808) (h : StepIs c (1) n v e) : Calls Tryz.prog 113 #[.agg #[.bool (c.o 0), .bool (c.o 1), .bool (c.o 2), .bool (c.o 3), .bool (c.o 4), .bool (c.o 5), .bool (c.o 6), .slice aR c.nr cR, .slice aD c.nd cD], .func (.func 114) #[.int .i64 n] #[]] w fun e' w' => e' = .returned (.tuple #[.int .i64 v, .int .i64 e]) ∧ Below w.heap.size w w' := by
 have ex : ∀ j : Int, n + 1 * j = n + j := fun j => by omega
 unfold StepIs at h
 simp only [ex] at h
 rcases h with ⟨h1, rfl, rfl⟩ | ⟨h1, k, h2, rfl, h3, h4, rfl⟩ | ⟨h1, h2, rfl, h3⟩
 ·exact zN8 c aR cR aD cD n w hL hM hC bn h1
 ·exact zKe c aR cR aD cD n k w hL hM hC h1 h2 h3 h4
 ·exact zIj c aR cR aD cD n e w hL hM hC h1 h2 h3
theorem zFi (c : Ca) (aR : Option Addr) (cR : Nat) (aD : Option Addr) (cD : Nat) (n v e : Int) (w : World) (hL : FactsW w) (hM : c.May) (hC : CalAt w c aR cR aD cD) (bn : -9223372036854775808 ≤ n ∧ n < 9223372036854775808) (h : StepIs c (1) n v e) : Calls Tryz.prog 104 #[.agg #[.bool (c.o 0), .bool (c.o 1), .bool (c.o 2), .bool (c.o 3), .bool (c.o 4), .bool (c.o 5), .bool (c.o 6), .slice aR c.nr cR, .slice aD c.nd cD], .int .i64 n] w fun e' w' => e' = .returned (.tuple #[.int .i64 v, .int .i64 e]) ∧ Below w.heap.size w w' := by
 have hmf : ∀ (fn : Fn) (first cap : Array Value) (w : World), (Instr.makeFunc fn first cap).run Tryz.prog w = .ok (.func fn first cap) w := fun _ _ _ _ => rfl
 have H := ((Held.start w).add (f := zAc) hL).add (f := calF c aR cR aD cD) hC
 have C := Lib.hid (fun v' (h' : FactsW v') (k : CalAt v' c aR cR aD cD) => search_p c aR cR aD cD n v e v' h' hM k bn h)
 clear hL hM hC h
 go_enter Tryz.func104, Tryz.ntmps104
 replace H := H.box_9 (w.heap.size) (.bool (c.o 0)) (.bool (c.o 1)) (.bool (c.o 2)) (.bool (c.o 3)) (.bool (c.o 4)) (.bool (c.o 5)) (.bool (c.o 6)) (.slice aR c.nr cR) (.slice aD c.nd cD) 28 rfl
 have k0 := H.cell (w.heap.size) 0 (.bool (c.o 0)) i0_
 have k1 := H.cell (w.heap.size) 1 (.bool (c.o 1)) i1_
 have k2 := H.cell (w.heap.size) 2 (.bool (c.o 2)) i2_
 have k3 := H.cell (w.heap.size) 3 (.bool (c.o 3)) i3_
 have k4 := H.cell (w.heap.size) 4 (.bool (c.o 4)) i4_
 have k5 := H.cell (w.heap.size) 5 (.bool (c.o 5)) i5_
 have k6 := H.cell (w.heap.size) 6 (.bool (c.o 6)) i6_
 have k7 := H.cell (w.heap.size) 7 (.slice aR c.nr cR) i7_
 have k8 := H.cell (w.heap.size) 8 (.slice aD c.nd cD) i8_
 go_wp2_with fail
 (with_reducible refine (C.out _ (H.factsW (i19_)) (H.cal (i18_))).mono ?_)
 rintro e w1 ⟨rfl, hb⟩
 replace H := H.below hb
 clear hb
 go_wp2
 go_ret2
 exact ⟨rfl, H.old⟩
theorem zN7 (c : Ca) (aR : Option Addr) (cR : Nat) (aD : Option Addr) (cD : Nat) (n : Int)  (w : World) (hL : FactsW w) (hM : c.May) (hC : CalAt w c aR cR aD cD) (bn : -9223372036854775808 ≤ n ∧ n < 9223372036854775808) (hn : ¬ dy n) : Calls Tryz.prog 113 #[.agg #[.bool (c.o 0), .bool (c.o 1), .bool (c.o 2), .bool (c.o 3), .bool (c.o 4), .bool (c.o 5), .bool (c.o 6), .slice aR c.nr cR, .slice aD c.nd cD], .func (.func 116) #[.int .i64 n] #[]] w fun e' w' => e' = .returned (.tuple #[.int .i64 0, .int .i64 3]) ∧ Below w.heap.size w w' := by
 have H := ((Held.start w).add (f := zAc) hL).add (f := calF c aR cR aD cD) hC
 have HM := Lib.hid hM
 clear hL hM hC
 have C1 := Lib.hid (fun v => zGd n 0 n v (by rw [IntWalk.i64_in _ (by omega)]; omega))
 have C2 := Lib.hid (fun v => zFm n v hn)
 clear hn
 go_enter Tryz.func113, Tryz.ntmps113
 replace H := H.box_9 (w.heap.size) (.bool (c.o 0)) (.bool (c.o 1)) (.bool (c.o 2)) (.bool (c.o 3)) (.bool (c.o 4)) (.bool (c.o 5)) (.bool (c.o 6)) (.slice aR c.nr cR) (.slice aD c.nd cD) 28 rfl
 go_wp2_with fail
 go_loopw [9] (fun i W' => i = .int .i64 0 ∧ Held w (.cell (w.heap.size) 0 (.bool (c.o 0)) :: .cell (w.heap.size) 1 (.bool (c.o 1)) :: .cell (w.heap.size) 2 (.bool (c.o 2)) :: .cell (w.heap.size) 3 (.bool (c.o 3)) :: .cell (w.heap.size) 4 (.bool (c.o 4)) :: .cell (w.heap.size) 5 (.bool (c.o 5)) :: .cell (w.heap.size) 6 (.bool (c.o 6)) :: .cell (w.heap.size) 7 (.slice aR c.nr cR) :: .cell (w.heap.size) 8 (.slice aD c.nd cD) :: .free (w.heap.size) 0 :: .free (w.heap.size) 1 :: .free (w.heap.size) 2 :: .free (w.heap.size) 3 :: .free (w.heap.size) 4 :: .free (w.heap.size) 5 :: .free (w.heap.size) 6 :: .free (w.heap.size) 7 :: .free (w.heap.size) 8 :: calF c aR cR aD cD :: zAc :: []) W') (fun i _ => 61 - (intOf i).toNat)
 case atStart => exact ⟨rfl, H⟩
 case round =>
  clear H
  obtain ⟨rfl, H⟩ := hrel
  go_wp2_with fail
  (with_reducible refine (C1.out _).mono ?_)
  rintro e w1 ⟨rfl, rfl⟩
  go_wp2_with fail
  (with_reducible refine (C2.out _).mono ?_)
  rintro e w1 ⟨rfl, rfl⟩
  go_wp2
  go_ret2
  exact ⟨rfl, H.old⟩
theorem zKd (c : Ca) (aR : Option Addr) (cR : Nat) (aD : Option Addr) (cD : Nat) (n : Int) (k : Nat) (w : World) (hL : FactsW w) (hM : c.May) (hC : CalAt w c aR cR aD cD) (hn : dy n) (hk : k ≤ 60) (hi : c.Is (n - k)) (hno : ∀ l : Nat, l < k → ¬ c.Is (n - l)) : Calls Tryz.prog 113 #[.agg #[.bool (c.o 0), .bool (c.o 1), .bool (c.o 2), .bool (c.o 3), .bool (c.o 4), .bool (c.o 5), .bool (c.o 6), .slice aR c.nr cR, .slice aD c.nd cD], .func (.func 116) #[.int .i64 n] #[]] w fun e' w' => e' = .returned (.tuple #[.int .i64 (n - k), .int .i64 0]) ∧ Below w.heap.size w w' := by
 have H := ((Held.start w).add (f := zAc) hL).add (f := calF c aR cR aD cD) hC
 have HM := Lib.hid hM
 clear hL hM hC
 have HI := Lib.hid hi
 have HN := Lib.hid hno
 obtain ⟨n1, n2⟩ := hn
 obtain ⟨⟨i1, i2⟩, _⟩ := hi
 clear hno
 go_enter Tryz.func113, Tryz.ntmps113
 replace H := H.box_9 (w.heap.size) (.bool (c.o 0)) (.bool (c.o 1)) (.bool (c.o 2)) (.bool (c.o 3)) (.bool (c.o 4)) (.bool (c.o 5)) (.bool (c.o 6)) (.slice aR c.nr cR) (.slice aD c.nd cD) 28 rfl
 go_wp2_with fail
 go_loopw [9] (fun i W' => ∃ (j : Nat), j ≤ k ∧ i = .int .i64 j ∧ Held w (.cell (w.heap.size) 0 (.bool (c.o 0)) :: .cell (w.heap.size) 1 (.bool (c.o 1)) :: .cell (w.heap.size) 2 (.bool (c.o 2)) :: .cell (w.heap.size) 3 (.bool (c.o 3)) :: .cell (w.heap.size) 4 (.bool (c.o 4)) :: .cell (w.heap.size) 5 (.bool (c.o 5)) :: .cell (w.heap.size) 6 (.bool (c.o 6)) :: .cell (w.heap.size) 7 (.slice aR c.nr cR) :: .cell (w.heap.size) 8 (.slice aD c.nd cD) :: .free (w.heap.size) 0 :: .free (w.heap.size) 1 :: .free (w.heap.size) 2 :: .free (w.heap.size) 3 :: .free (w.heap.size) 4 :: .free (w.heap.size) 5 :: .free (w.heap.size) 6 :: .free (w.heap.size) 7 :: .free (w.heap.size) 8 :: calF c aR cR aD cD :: zAc :: []) W') (fun i _ => 61 - (intOf i).toNat)
 case atStart => exact ⟨0, by omega, rfl, H⟩
 case round =>
  clear H
  obtain ⟨j, j1, rfl, H⟩ := hrel
  have C1 := Lib.hid (fun v => zGd n j (n - j) v (by rw [IntWalk.i64_in _ (by omega)]))
  have C2 := Lib.hid (fun v => zDy (n - j) v (by unfold dy; omega))
  have k0 := H.cell (w.heap.size) 0 (.bool (c.o 0)) i0_
  have k1 := H.cell (w.heap.size) 1 (.bool (c.o 1)) i1_
  have k2 := H.cell (w.heap.size) 2 (.bool (c.o 2)) i2_
  have k3 := H.cell (w.heap.size) 3 (.bool (c.o 3)) i3_
  have k4 := H.cell (w.heap.size) 4 (.bool (c.o 4)) i4_
  have k5 := H.cell (w.heap.size) 5 (.bool (c.o 5)) i5_
  have k6 := H.cell (w.heap.size) 6 (.bool (c.o 6)) i6_
  have k7 := H.cell (w.heap.size) 7 (.slice aR c.nr cR) i7_
  have k8 := H.cell (w.heap.size) 8 (.slice aD c.nd cD) i8_
  by_cases hj : j < k
  ·have Q := Lib.hid (fun v (h : FactsW v) (k : CalAt v c aR cR aD cD) => zG3 c aR cR aD cD (n - j) false v h HM.out k ⟨fun g => absurd g (by decide), fun g => absurd g (HN.out j hj)⟩)
   go_wp2_with fail
   (with_reducible refine (C1.out _).mono ?_)
   rintro e w1 ⟨rfl, rfl⟩
   go_wp2_with fail
   (with_reducible refine (C2.out _).mono ?_)
   rintro e w1 ⟨rfl, rfl⟩
   go_wp2_with fail
   (with_reducible refine (Q.out _ (H.factsW (i19_)) (H.cal (i18_))).mono ?_)
   clear k0 k1 k2 k3 k4 k5 k6 k7 k8 Q C1 C2
   rintro e w3 ⟨rfl, hb⟩
   replace H := H.below hb
   clear hb
   go_wp2
   go_roundw
   case rel => exact ⟨j + 1, by omega, by go_num, H⟩
   case measure => simp [intOf]; omega
  ·obtain rfl : j = k := by omega
   have Q := Lib.hid (fun v (h : FactsW v) (k : CalAt v c aR cR aD cD) => zG3 c aR cR aD cD (n - j) true v h HM.out k ⟨fun _ => HI.out, fun _ => rfl⟩)
   go_wp2_with fail
   (with_reducible refine (C1.out _).mono ?_)
   rintro e w1 ⟨rfl, rfl⟩
   go_wp2_with fail
   (with_reducible refine (C2.out _).mono ?_)
   rintro e w1 ⟨rfl, rfl⟩
   go_wp2_with fail
   (with_reducible refine (Q.out _ (H.factsW (i19_)) (H.cal (i18_))).mono ?_)
   clear k0 k1 k2 k3 k4 k5 k6 k7 k8 Q C1 C2
   rintro e w3 ⟨rfl, hb⟩
   replace H := H.below hb
   clear hb
   go_wp2
   go_ret2
   exact ⟨rfl, H.old⟩
theorem zIi (c : Ca) (aR : Option Addr) (cR : Nat) (aD : Option Addr) (cD : Nat) (n : Int) (e : Int) (w : World) (hL : FactsW w) (hM : c.May) (hC : CalAt w c aR cR aD cD) (hn : dy n) (hno : ∀ l : Nat, l ≤ 60 → ¬ c.Is (n - l)) (he : (dy (n - 60) ∧ e = 8) ∨ (¬ dy (n - 60) ∧ e = 3)) : Calls Tryz.prog 113 #[.agg #[.bool (c.o 0), .bool (c.o 1), .bool (c.o 2), .bool (c.o 3), .bool (c.o 4), .bool (c.o 5), .bool (c.o 6), .slice aR c.nr cR, .slice aD c.nd cD], .func (.func 116) #[.int .i64 n] #[]] w fun e' w' => e' = .returned (.tuple #[.int .i64 0, .int .i64 e]) ∧ Below w.heap.size w w' := by
 have H := ((Held.start w).add (f := zAc) hL).add (f := calF c aR cR aD cD) hC
 have HM := Lib.hid hM
 clear hL hM hC
 have HN := Lib.hid hno
 have HE := Lib.hid he
 obtain ⟨n1, n2⟩ := hn
 clear hno he
 go_enter Tryz.func113, Tryz.ntmps113
 replace H := H.box_9 (w.heap.size) (.bool (c.o 0)) (.bool (c.o 1)) (.bool (c.o 2)) (.bool (c.o 3)) (.bool (c.o 4)) (.bool (c.o 5)) (.bool (c.o 6)) (.slice aR c.nr cR) (.slice aD c.nd cD) 28 rfl
 go_wp2_with fail
 go_loopw [9] (fun i W' => ∃ (j : Nat), j ≤ 61 ∧ i = .int .i64 j ∧ (∀ l : Nat, l < j → dy (n - l)) ∧ Held w (.cell (w.heap.size) 0 (.bool (c.o 0)) :: .cell (w.heap.size) 1 (.bool (c.o 1)) :: .cell (w.heap.size) 2 (.bool (c.o 2)) :: .cell (w.heap.size) 3 (.bool (c.o 3)) :: .cell (w.heap.size) 4 (.bool (c.o 4)) :: .cell (w.heap.size) 5 (.bool (c.o 5)) :: .cell (w.heap.size) 6 (.bool (c.o 6)) :: .cell (w.heap.size) 7 (.slice aR c.nr cR) :: .cell (w.heap.size) 8 (.slice aD c.nd cD) :: .free (w.heap.size) 0 :: .free (w.heap.size) 1 :: .free (w.heap.size) 2 :: .free (w.heap.size) 3 :: .free (w.heap.size) 4 :: .free (w.heap.size) 5 :: .free (w.heap.size) 6 :: .free (w.heap.size) 7 :: .free (w.heap.size) 8 :: calF c aR cR aD cD :: zAc :: []) W') (fun i _ => 61 - (intOf i).toNat)
 case atStart => exact ⟨0, by omega, rfl, fun l g => absurd g (Nat.not_lt_zero _), H⟩
 case round =>
  clear H
  obtain ⟨j, j1, rfl, hD, H⟩ := hrel
  have HD := Lib.hid hD
  clear hD
  by_cases hj : j ≤ 60
  ·have C1 := Lib.hid (fun v => zGd n j (n - j) v (by rw [IntWalk.i64_in _ (by omega)]))
   have k0 := H.cell (w.heap.size) 0 (.bool (c.o 0)) i0_
   have k1 := H.cell (w.heap.size) 1 (.bool (c.o 1)) i1_
   have k2 := H.cell (w.heap.size) 2 (.bool (c.o 2)) i2_
   have k3 := H.cell (w.heap.size) 3 (.bool (c.o 3)) i3_
   have k4 := H.cell (w.heap.size) 4 (.bool (c.o 4)) i4_
   have k5 := H.cell (w.heap.size) 5 (.bool (c.o 5)) i5_
   have k6 := H.cell (w.heap.size) 6 (.bool (c.o 6)) i6_
   have k7 := H.cell (w.heap.size) 7 (.slice aR c.nr cR) i7_
   have k8 := H.cell (w.heap.size) 8 (.slice aD c.nd cD) i8_
   by_cases hd : dy (n - j)
   ·have C2 := Lib.hid (fun v => zDy (n - j) v hd)
    have Q := Lib.hid (fun v (h : FactsW v) (k : CalAt v c aR cR aD cD) => zG3 c aR cR aD cD (n - j) false v h HM.out k ⟨fun g => absurd g (by decide), fun g => absurd g (HN.out j hj)⟩)
    have HJ := Lib.hid hd
    clear hd
    go_wp2_with fail
    (with_reducible refine (C1.out _).mono ?_)
    rintro e w1 ⟨rfl, rfl⟩
    go_wp2_with fail
    (with_reducible refine (C2.out _).mono ?_)
    rintro e w1 ⟨rfl, rfl⟩
    go_wp2_with fail
    (with_reducible refine (Q.out _ (H.factsW (i19_)) (H.cal (i18_))).mono ?_)
    clear k0 k1 k2 k3 k4 k5 k6 k7 k8 Q C1 C2
    rintro e w3 ⟨rfl, hb⟩
    replace H := H.below hb
    clear hb
    go_wp2
    go_roundw
    case rel => exact ⟨j + 1, by omega, by go_num, fun l g => by
     by_cases e : l = j
     ·subst e; exact HJ.out
     ·exact HD.out l (by omega), H⟩
    case measure => simp [intOf]; omega
   ·have C2 := Lib.hid (fun v => zFm (n - j) v hd)
    have e3 : e = 3 := by
     rcases HE.out with ⟨g, _⟩ | ⟨_, g⟩
     ·exact absurd (by unfold dy at g ⊢; omega) hd
     ·exact g
    subst e3
    clear hd k0 k1 k2 k3 k4 k5 k6 k7 k8
    go_wp2_with fail
    (with_reducible refine (C1.out _).mono ?_)
    rintro e w1 ⟨rfl, rfl⟩
    go_wp2_with fail
    (with_reducible refine (C2.out _).mono ?_)
    rintro e w1 ⟨rfl, rfl⟩
    go_wp2
    go_ret2
    exact ⟨rfl, H.old⟩
  ·obtain rfl : j = 61 := by omega
   have e3 : e = 8 := by
    rcases HE.out with ⟨_, g⟩ | ⟨g, _⟩
    ·exact g
    ·exact absurd (HD.out 60 (by omega)) g
   subst e3
   go_wp2
   go_ret2
   exact ⟨rfl, H.old⟩
theorem search_m (c : Ca) (aR : Option Addr) (cR : Nat) (aD : Option Addr) (cD : Nat) (n v e : Int) (w : World) (hL : FactsW w) (hM : c.May) (hC : CalAt w c aR cR aD cD) (bn : -9223372036854775808 ≤ n ∧ n < 9223372036854775808) (h : StepIs c (-1) n v e) : Calls Tryz.prog 113 #[.agg #[.bool (c.o 0), .bool (c.o 1), .bool (c.o 2), .bool (c.o 3), .bool (c.o 4), .bool (c.o 5), .bool (c.o 6), .slice aR c.nr cR, .slice aD c.nd cD], .func (.func 116) #[.int .i64 n] #[]] w fun e' w' => e' = .returned (.tuple #[.int .i64 v, .int .i64 e]) ∧ Below w.heap.size w w' := by
 have ex : ∀ j : Int, n + -1 * j = n - j := fun j => by omega
 unfold StepIs at h
 simp only [ex] at h
 rcases h with ⟨h1, rfl, rfl⟩ | ⟨h1, k, h2, rfl, h3, h4, rfl⟩ | ⟨h1, h2, rfl, h3⟩
 ·exact zN7 c aR cR aD cD n w hL hM hC bn h1
 ·exact zKd c aR cR aD cD n k w hL hM hC h1 h2 h3 h4
 ·exact zIi c aR cR aD cD n e w hL hM hC h1 h2 h3
theorem zFk (c : Ca) (aR : Option Addr) (cR : Nat) (aD : Option Addr) (cD : Nat) (n v e : Int) (w : World) (hL : FactsW w) (hM : c.May) (hC : CalAt w c aR cR aD cD) (bn : -9223372036854775808 ≤ n ∧ n < 9223372036854775808) (h : StepIs c (-1) n v e) : Calls Tryz.prog 106 #[.agg #[.bool (c.o 0), .bool (c.o 1), .bool (c.o 2), .bool (c.o 3), .bool (c.o 4), .bool (c.o 5), .bool (c.o 6), .slice aR c.nr cR, .slice aD c.nd cD], .int .i64 n] w fun e' w' => e' = .returned (.tuple #[.int .i64 v, .int .i64 e]) ∧ Below w.heap.size w w' := by
 have hmf : ∀ (fn : Fn) (first cap : Array Value) (w : World), (Instr.makeFunc fn first cap).run Tryz.prog w = .ok (.func fn first cap) w := fun _ _ _ _ => rfl
 have H := ((Held.start w).add (f := zAc) hL).add (f := calF c aR cR aD cD) hC
 have C := Lib.hid (fun v' (h' : FactsW v') (k : CalAt v' c aR cR aD cD) => search_m c aR cR aD cD n v e v' h' hM k bn h)
 clear hL hM hC h
 go_enter Tryz.func106, Tryz.ntmps106
 replace H := H.box_9 (w.heap.size) (.bool (c.o 0)) (.bool (c.o 1)) (.bool (c.o 2)) (.bool (c.o 3)) (.bool (c.o 4)) (.bool (c.o 5)) (.bool (c.o 6)) (.slice aR c.nr cR) (.slice aD c.nd cD) 28 rfl
 have k0 := H.cell (w.heap.size) 0 (.bool (c.o 0)) i0_
 have k1 := H.cell (w.heap.size) 1 (.bool (c.o 1)) i1_
 have k2 := H.cell (w.heap.size) 2 (.bool (c.o 2)) i2_
 have k3 := H.cell (w.heap.size) 3 (.bool (c.o 3)) i3_
 have k4 := H.cell (w.heap.size) 4 (.bool (c.o 4)) i4_
 have k5 := H.cell (w.heap.size) 5 (.bool (c.o 5)) i5_
 have k6 := H.cell (w.heap.size) 6 (.bool (c.o 6)) i6_
 have k7 := H.cell (w.heap.size) 7 (.slice aR c.nr cR) i7_
 have k8 := H.cell (w.heap.size) 8 (.slice aD c.nd cD) i8_
 go_wp2_with fail
 (with_reducible refine (C.out _ (H.factsW (i19_)) (H.cal (i18_))).mono ?_)
 rintro e w1 ⟨rfl, hb⟩
 replace H := H.below hb
 clear hb
 go_wp2
 go_ret2
 exact ⟨rfl, H.old⟩
theorem zD2 (n a : Int) (b : Bool) (w : World) (hL : Lens w) (hn : dy n) (ha : dy a) (h : b = true ↔ zEq n a) : Calls Tryz.prog 105 #[.int .i64 n, .int .i64 a] w fun e w' => e = .returned (.bool b) ∧ Below w.heap.size w w' := by
 obtain ⟨y, m, d, h1, h2⟩ := zBg n hn.1 hn.2
 obtain ⟨y', m', d', h3, h4⟩ := zBg a ha.1 ha.2
 have HB : Hid (b = (y' == y && m' == m)) := Lib.hid (by
  rw [Bool.eq_iff_iff, h, same_iff h1 h2 h3 h4]
  simp)
 have C1 := Lib.hid (fun v (k : Lens v) => zAl n y m d 0 v k (Or.inl ⟨h1, h2, rfl⟩))
 have C2 := Lib.hid (fun v (k : Lens v) => zAl a y' m' d' 0 v k (Or.inl ⟨h3, h4, rfl⟩))
 have H := ((Held.start w).add (f := zA8) hL)
 clear h1 h2 h3 h4 h hn ha hL
 go_enter Tryz.func105, Tryz.ntmps105
 go_wp2_with fail
 (with_reducible refine (C1.out _ (H.lens (i0_))).mono ?_)
 rintro e w1 ⟨rfl, hb⟩
 replace H := H.below hb
 clear hb
 go_wp2_with fail
 replace H := H.triple (w1.heap.size) (.int .i64 y) (.int .i64 m) (.int .i64 d) 86 rfl
 (with_reducible refine (C2.out _ (H.lens (i6_))).mono ?_)
 rintro e w2 ⟨rfl, hb⟩
 replace H := H.below hb
 clear hb
 have c0 := H.cell (w1.heap.size) 0 (.int .i64 y) (i0_)
 have c1 := H.cell (w1.heap.size) 1 (.int .i64 m) (i1_)
 have l0 := H.lt (w1.heap.size) 0 (.int .i64 y) (i0_)
 have HO := (H.alloc (.cells #[.int .i64 y', .int .i64 m', .int .i64 d'] 86)).old
 clear H
 have e1 : (y == y') = (y' == y) := by rw [Bool.eq_iff_iff]; simp; omega
 have e2 : (m == m') = (m' == m) := by rw [Bool.eq_iff_iff]; simp; omega
 cases hy : (y' == y) <;> cases hm : (m' == m)
 all_goals
  rw [hy] at e1
  rw [hm] at e2
  have hb := HB.out
  rw [hy, hm] at hb
  simp only [Bool.and_true, Bool.and_false, Bool.true_and, Bool.false_and, Bool.and_self] at hb
  subst hb
  go_wp2
  go_ret
  exact ⟨rfl, HO⟩
theorem to0d (c : Ca) (aR : Option Addr) (cR : Nat) (aD : Option Addr) (cD : Nat) (n : Int)  (w : World) (hL : FactsW w) (hM : c.May) (hC : CalAt w c aR cR aD cD) (bn : -9223372036854775808 ≤ n ∧ n < 9223372036854775808) (hn : dy n) : Calls Tryz.prog 93 #[.agg #[.bool (c.o 0), .bool (c.o 1), .bool (c.o 2), .bool (c.o 3), .bool (c.o 4), .bool (c.o 5), .bool (c.o 6), .slice aR c.nr cR, .slice aD c.nd cD], .int .i64 n, .int .i64 0] w fun e' w' => e' = .returned (.tuple #[.int .i64 n, .int .i64 0]) ∧ Below w.heap.size w w' := by
 have H := ((Held.start w).add (f := zAc) hL).add (f := calF c aR cR aD cD) hC
 have C1 := Lib.hid (fun v => zDy n v hn)
 clear hn
 clear hL hM hC
 go_enter Tryz.func93, Tryz.ntmps93
 replace H := H.box_9 (w.heap.size) (.bool (c.o 0)) (.bool (c.o 1)) (.bool (c.o 2)) (.bool (c.o 3)) (.bool (c.o 4)) (.bool (c.o 5)) (.bool (c.o 6)) (.slice aR c.nr cR) (.slice aD c.nd cD) 28 rfl
 have k0 := H.cell (w.heap.size) 0 (.bool (c.o 0)) i0_
 have k1 := H.cell (w.heap.size) 1 (.bool (c.o 1)) i1_
 have k2 := H.cell (w.heap.size) 2 (.bool (c.o 2)) i2_
 have k3 := H.cell (w.heap.size) 3 (.bool (c.o 3)) i3_
 have k4 := H.cell (w.heap.size) 4 (.bool (c.o 4)) i4_
 have k5 := H.cell (w.heap.size) 5 (.bool (c.o 5)) i5_
 have k6 := H.cell (w.heap.size) 6 (.bool (c.o 6)) i6_
 have k7 := H.cell (w.heap.size) 7 (.slice aR c.nr cR) i7_
 have k8 := H.cell (w.heap.size) 8 (.slice aD c.nd cD) i8_
 go_wp2_with fail
 (with_reducible refine (C1.out _).mono ?_)
 rintro e w1 ⟨rfl, rfl⟩
 go_wp2
 go_ret2
 exact ⟨rfl, H.old⟩
theorem to0n (c : Ca) (aR : Option Addr) (cR : Nat) (aD : Option Addr) (cD : Nat) (n : Int)  (w : World) (hL : FactsW w) (hM : c.May) (hC : CalAt w c aR cR aD cD) (bn : -9223372036854775808 ≤ n ∧ n < 9223372036854775808) (hn : ¬ dy n) : Calls Tryz.prog 93 #[.agg #[.bool (c.o 0), .bool (c.o 1), .bool (c.o 2), .bool (c.o 3), .bool (c.o 4), .bool (c.o 5), .bool (c.o 6), .slice aR c.nr cR, .slice aD c.nd cD], .int .i64 n, .int .i64 0] w fun e' w' => e' = .returned (.tuple #[.int .i64 0, .int .i64 3]) ∧ Below w.heap.size w w' := by
 have H := ((Held.start w).add (f := zAc) hL).add (f := calF c aR cR aD cD) hC
 have C1 := Lib.hid (fun v => zFm n v hn)
 clear hn
 clear hL hM hC
 go_enter Tryz.func93, Tryz.ntmps93
 replace H := H.box_9 (w.heap.size) (.bool (c.o 0)) (.bool (c.o 1)) (.bool (c.o 2)) (.bool (c.o 3)) (.bool (c.o 4)) (.bool (c.o 5)) (.bool (c.o 6)) (.slice aR c.nr cR) (.slice aD c.nd cD) 28 rfl
 have k0 := H.cell (w.heap.size) 0 (.bool (c.o 0)) i0_
 have k1 := H.cell (w.heap.size) 1 (.bool (c.o 1)) i1_
 have k2 := H.cell (w.heap.size) 2 (.bool (c.o 2)) i2_
 have k3 := H.cell (w.heap.size) 3 (.bool (c.o 3)) i3_
 have k4 := H.cell (w.heap.size) 4 (.bool (c.o 4)) i4_
 have k5 := H.cell (w.heap.size) 5 (.bool (c.o 5)) i5_
 have k6 := H.cell (w.heap.size) 6 (.bool (c.o 6)) i6_
 have k7 := H.cell (w.heap.size) 7 (.slice aR c.nr cR) i7_
 have k8 := H.cell (w.heap.size) 8 (.slice aD c.nd cD) i8_
 go_wp2_with fail
 (with_reducible refine (C1.out _).mono ?_)
 rintro e w1 ⟨rfl, rfl⟩
 go_wp2
 go_ret2
 exact ⟨rfl, H.old⟩
theorem to1 (c : Ca) (aR : Option Addr) (cR : Nat) (aD : Option Addr) (cD : Nat) (n v e : Int)  (w : World) (hL : FactsW w) (hM : c.May) (hC : CalAt w c aR cR aD cD) (bn : -9223372036854775808 ≤ n ∧ n < 9223372036854775808) (h : StepIs c (1) n v e) : Calls Tryz.prog 93 #[.agg #[.bool (c.o 0), .bool (c.o 1), .bool (c.o 2), .bool (c.o 3), .bool (c.o 4), .bool (c.o 5), .bool (c.o 6), .slice aR c.nr cR, .slice aD c.nd cD], .int .i64 n, .int .i64 1] w fun e' w' => e' = .returned (.tuple #[.int .i64 v, .int .i64 e]) ∧ Below w.heap.size w w' := by
 have H := ((Held.start w).add (f := zAc) hL).add (f := calF c aR cR aD cD) hC
 have C := Lib.hid (fun v' (h' : FactsW v') (k : CalAt v' c aR cR aD cD) => zFi c aR cR aD cD n v e v' h' hM k bn h)
 clear h
 clear hL hM hC
 go_enter Tryz.func93, Tryz.ntmps93
 replace H := H.box_9 (w.heap.size) (.bool (c.o 0)) (.bool (c.o 1)) (.bool (c.o 2)) (.bool (c.o 3)) (.bool (c.o 4)) (.bool (c.o 5)) (.bool (c.o 6)) (.slice aR c.nr cR) (.slice aD c.nd cD) 28 rfl
 have k0 := H.cell (w.heap.size) 0 (.bool (c.o 0)) i0_
 have k1 := H.cell (w.heap.size) 1 (.bool (c.o 1)) i1_
 have k2 := H.cell (w.heap.size) 2 (.bool (c.o 2)) i2_
 have k3 := H.cell (w.heap.size) 3 (.bool (c.o 3)) i3_
 have k4 := H.cell (w.heap.size) 4 (.bool (c.o 4)) i4_
 have k5 := H.cell (w.heap.size) 5 (.bool (c.o 5)) i5_
 have k6 := H.cell (w.heap.size) 6 (.bool (c.o 6)) i6_
 have k7 := H.cell (w.heap.size) 7 (.slice aR c.nr cR) i7_
 have k8 := H.cell (w.heap.size) 8 (.slice aD c.nd cD) i8_
 go_wp2_with fail
 (with_reducible refine (C.out _ (H.factsW (i19_)) (H.cal (i18_))).mono ?_)
 clear k0 k1 k2 k3 k4 k5 k6 k7 k8
 rintro e w1 ⟨rfl, hb⟩
 replace H := H.below hb
 clear hb
 go_wp2
 go_ret2
 exact ⟨rfl, H.old⟩
theorem to3 (c : Ca) (aR : Option Addr) (cR : Nat) (aD : Option Addr) (cD : Nat) (n v e : Int)  (w : World) (hL : FactsW w) (hM : c.May) (hC : CalAt w c aR cR aD cD) (bn : -9223372036854775808 ≤ n ∧ n < 9223372036854775808) (h : StepIs c (-1) n v e) : Calls Tryz.prog 93 #[.agg #[.bool (c.o 0), .bool (c.o 1), .bool (c.o 2), .bool (c.o 3), .bool (c.o 4), .bool (c.o 5), .bool (c.o 6), .slice aR c.nr cR, .slice aD c.nd cD], .int .i64 n, .int .i64 3] w fun e' w' => e' = .returned (.tuple #[.int .i64 v, .int .i64 e]) ∧ Below w.heap.size w w' := by
 have H := ((Held.start w).add (f := zAc) hL).add (f := calF c aR cR aD cD) hC
 have C := Lib.hid (fun v' (h' : FactsW v') (k : CalAt v' c aR cR aD cD) => zFk c aR cR aD cD n v e v' h' hM k bn h)
 clear h
 clear hL hM hC
 go_enter Tryz.func93, Tryz.ntmps93
 replace H := H.box_9 (w.heap.size) (.bool (c.o 0)) (.bool (c.o 1)) (.bool (c.o 2)) (.bool (c.o 3)) (.bool (c.o 4)) (.bool (c.o 5)) (.bool (c.o 6)) (.slice aR c.nr cR) (.slice aD c.nd cD) 28 rfl
 have k0 := H.cell (w.heap.size) 0 (.bool (c.o 0)) i0_
 have k1 := H.cell (w.heap.size) 1 (.bool (c.o 1)) i1_
 have k2 := H.cell (w.heap.size) 2 (.bool (c.o 2)) i2_
 have k3 := H.cell (w.heap.size) 3 (.bool (c.o 3)) i3_
 have k4 := H.cell (w.heap.size) 4 (.bool (c.o 4)) i4_
 have k5 := H.cell (w.heap.size) 5 (.bool (c.o 5)) i5_
 have k6 := H.cell (w.heap.size) 6 (.bool (c.o 6)) i6_
 have k7 := H.cell (w.heap.size) 7 (.slice aR c.nr cR) i7_
 have k8 := H.cell (w.heap.size) 8 (.slice aD c.nd cD) i8_
 go_wp2_with fail
 (with_reducible refine (C.out _ (H.factsW (i19_)) (H.cal (i18_))).mono ?_)
 clear k0 k1 k2 k3 k4 k5 k6 k7 k8
 rintro e w1 ⟨rfl, hb⟩
 replace H := H.below hb
 clear hb
 go_wp2
 go_ret2
 exact ⟨rfl, H.old⟩
theorem to2bad (c : Ca) (aR : Option Addr) (cR : Nat) (aD : Option Addr) (cD : Nat) (n v e : Int)  (w : World) (hL : FactsW w) (hM : c.May) (hC : CalAt w c aR cR aD cD) (bn : -9223372036854775808 ≤ n ∧ n < 9223372036854775808) (h : StepIs c (1) n v e) (he : e ≠ 0) : Calls Tryz.prog 93 #[.agg #[.bool (c.o 0), .bool (c.o 1), .bool (c.o 2), .bool (c.o 3), .bool (c.o 4), .bool (c.o 5), .bool (c.o 6), .slice aR c.nr cR, .slice aD c.nd cD], .int .i64 n, .int .i64 2] w fun e' w' => e' = .returned (.tuple #[.int .i64 v, .int .i64 e]) ∧ Below w.heap.size w w' := by
 have H := ((Held.start w).add (f := zAc) hL).add (f := calF c aR cR aD cD) hC
 have C := Lib.hid (fun v' (h' : FactsW v') (k : CalAt v' c aR cR aD cD) => zFi c aR cR aD cD n v e v' h' hM k bn h)
 have z : (e != 0) = true := by simpa using he
 clear h he
 clear hL hM hC
 go_enter Tryz.func93, Tryz.ntmps93
 replace H := H.box_9 (w.heap.size) (.bool (c.o 0)) (.bool (c.o 1)) (.bool (c.o 2)) (.bool (c.o 3)) (.bool (c.o 4)) (.bool (c.o 5)) (.bool (c.o 6)) (.slice aR c.nr cR) (.slice aD c.nd cD) 28 rfl
 have k0 := H.cell (w.heap.size) 0 (.bool (c.o 0)) i0_
 have k1 := H.cell (w.heap.size) 1 (.bool (c.o 1)) i1_
 have k2 := H.cell (w.heap.size) 2 (.bool (c.o 2)) i2_
 have k3 := H.cell (w.heap.size) 3 (.bool (c.o 3)) i3_
 have k4 := H.cell (w.heap.size) 4 (.bool (c.o 4)) i4_
 have k5 := H.cell (w.heap.size) 5 (.bool (c.o 5)) i5_
 have k6 := H.cell (w.heap.size) 6 (.bool (c.o 6)) i6_
 have k7 := H.cell (w.heap.size) 7 (.slice aR c.nr cR) i7_
 have k8 := H.cell (w.heap.size) 8 (.slice aD c.nd cD) i8_
 go_wp2_with fail
 (with_reducible refine (C.out _ (H.factsW (i19_)) (H.cal (i18_))).mono ?_)
 clear k0 k1 k2 k3 k4 k5 k6 k7 k8
 rintro e w1 ⟨rfl, hb⟩
 replace H := H.below hb
 clear hb
 have k0 := H.cell (w.heap.size) 0 (.bool (c.o 0)) i0_
 have k1 := H.cell (w.heap.size) 1 (.bool (c.o 1)) i1_
 have k2 := H.cell (w.heap.size) 2 (.bool (c.o 2)) i2_
 have k3 := H.cell (w.heap.size) 3 (.bool (c.o 3)) i3_
 have k4 := H.cell (w.heap.size) 4 (.bool (c.o 4)) i4_
 have k5 := H.cell (w.heap.size) 5 (.bool (c.o 5)) i5_
 have k6 := H.cell (w.heap.size) 6 (.bool (c.o 6)) i6_
 have k7 := H.cell (w.heap.size) 7 (.slice aR c.nr cR) i7_
 have k8 := H.cell (w.heap.size) 8 (.slice aD c.nd cD) i8_
 go_wp2
 go_ret2
 exact ⟨rfl, H.old⟩
theorem to2t (c : Ca) (aR : Option Addr) (cR : Nat) (aD : Option Addr) (cD : Nat) (n v : Int)  (w : World) (hL : FactsW w) (hM : c.May) (hC : CalAt w c aR cR aD cD) (bn : -9223372036854775808 ≤ n ∧ n < 9223372036854775808) (h : StepIs c (1) n v 0) (hs : zEq n v) : Calls Tryz.prog 93 #[.agg #[.bool (c.o 0), .bool (c.o 1), .bool (c.o 2), .bool (c.o 3), .bool (c.o 4), .bool (c.o 5), .bool (c.o 6), .slice aR c.nr cR, .slice aD c.nd cD], .int .i64 n, .int .i64 2] w fun e' w' => e' = .returned (.tuple #[.int .i64 v, .int .i64 0]) ∧ Below w.heap.size w w' := by
 have H := ((Held.start w).add (f := zAc) hL).add (f := calF c aR cR aD cD) hC
 have C := Lib.hid (fun v' (h' : FactsW v') (k : CalAt v' c aR cR aD cD) => zFi c aR cR aD cD n v 0 v' h' hM k bn h)
 have D := Lib.hid (fun u (k : Lens u) => zD2 n v true u k (h.good rfl).1 (h.good rfl).2.1.1 ⟨fun _ => hs, fun _ => rfl⟩)
 clear h hs
 clear hL hM hC
 go_enter Tryz.func93, Tryz.ntmps93
 replace H := H.box_9 (w.heap.size) (.bool (c.o 0)) (.bool (c.o 1)) (.bool (c.o 2)) (.bool (c.o 3)) (.bool (c.o 4)) (.bool (c.o 5)) (.bool (c.o 6)) (.slice aR c.nr cR) (.slice aD c.nd cD) 28 rfl
 have k0 := H.cell (w.heap.size) 0 (.bool (c.o 0)) i0_
 have k1 := H.cell (w.heap.size) 1 (.bool (c.o 1)) i1_
 have k2 := H.cell (w.heap.size) 2 (.bool (c.o 2)) i2_
 have k3 := H.cell (w.heap.size) 3 (.bool (c.o 3)) i3_
 have k4 := H.cell (w.heap.size) 4 (.bool (c.o 4)) i4_
 have k5 := H.cell (w.heap.size) 5 (.bool (c.o 5)) i5_
 have k6 := H.cell (w.heap.size) 6 (.bool (c.o 6)) i6_
 have k7 := H.cell (w.heap.size) 7 (.slice aR c.nr cR) i7_
 have k8 := H.cell (w.heap.size) 8 (.slice aD c.nd cD) i8_
 go_wp2_with fail
 (with_reducible refine (C.out _ (H.factsW (i19_)) (H.cal (i18_))).mono ?_)
 clear k0 k1 k2 k3 k4 k5 k6 k7 k8
 rintro e w1 ⟨rfl, hb⟩
 replace H := H.below hb
 clear hb
 have k0 := H.cell (w.heap.size) 0 (.bool (c.o 0)) i0_
 have k1 := H.cell (w.heap.size) 1 (.bool (c.o 1)) i1_
 have k2 := H.cell (w.heap.size) 2 (.bool (c.o 2)) i2_
 have k3 := H.cell (w.heap.size) 3 (.bool (c.o 3)) i3_
 have k4 := H.cell (w.heap.size) 4 (.bool (c.o 4)) i4_
 have k5 := H.cell (w.heap.size) 5 (.bool (c.o 5)) i5_
 have k6 := H.cell (w.heap.size) 6 (.bool (c.o 6)) i6_
 have k7 := H.cell (w.heap.size) 7 (.slice aR c.nr cR) i7_
 have k8 := H.cell (w.heap.size) 8 (.slice aD c.nd cD) i8_
 go_wp2_with fail
 (with_reducible refine (D.out _ (H.factsWl (i19_))).mono ?_)
 clear k0 k1 k2 k3 k4 k5 k6 k7 k8
 rintro e w1 ⟨rfl, hb⟩
 replace H := H.below hb
 clear hb
 have k0 := H.cell (w.heap.size) 0 (.bool (c.o 0)) i0_
 have k1 := H.cell (w.heap.size) 1 (.bool (c.o 1)) i1_
 have k2 := H.cell (w.heap.size) 2 (.bool (c.o 2)) i2_
 have k3 := H.cell (w.heap.size) 3 (.bool (c.o 3)) i3_
 have k4 := H.cell (w.heap.size) 4 (.bool (c.o 4)) i4_
 have k5 := H.cell (w.heap.size) 5 (.bool (c.o 5)) i5_
 have k6 := H.cell (w.heap.size) 6 (.bool (c.o 6)) i6_
 have k7 := H.cell (w.heap.size) 7 (.slice aR c.nr cR) i7_
 have k8 := H.cell (w.heap.size) 8 (.slice aD c.nd cD) i8_
 go_wp2
 go_ret2
 exact ⟨rfl, H.old⟩
theorem to2f (c : Ca) (aR : Option Addr) (cR : Nat) (aD : Option Addr) (cD : Nat) (n v e : Int) (a : Int) (w : World) (hL : FactsW w) (hM : c.May) (hC : CalAt w c aR cR aD cD) (bn : -9223372036854775808 ≤ n ∧ n < 9223372036854775808) (h : StepIs c (1) n a 0) (hs : ¬ zEq n a) (g : StepIs c (-1) n v e) : Calls Tryz.prog 93 #[.agg #[.bool (c.o 0), .bool (c.o 1), .bool (c.o 2), .bool (c.o 3), .bool (c.o 4), .bool (c.o 5), .bool (c.o 6), .slice aR c.nr cR, .slice aD c.nd cD], .int .i64 n, .int .i64 2] w fun e' w' => e' = .returned (.tuple #[.int .i64 v, .int .i64 e]) ∧ Below w.heap.size w w' := by
 have H := ((Held.start w).add (f := zAc) hL).add (f := calF c aR cR aD cD) hC
 have C := Lib.hid (fun v' (h' : FactsW v') (k : CalAt v' c aR cR aD cD) => zFi c aR cR aD cD n a 0 v' h' hM k bn h)
 have C2 := Lib.hid (fun v' (h' : FactsW v') (k : CalAt v' c aR cR aD cD) => zFk c aR cR aD cD n v e v' h' hM k bn g)
 have D := Lib.hid (fun u (k : Lens u) => zD2 n a false u k (h.good rfl).1 (h.good rfl).2.1.1 ⟨fun g => absurd g (by decide), fun g => absurd g hs⟩)
 clear h hs g
 clear hL hM hC
 go_enter Tryz.func93, Tryz.ntmps93
 replace H := H.box_9 (w.heap.size) (.bool (c.o 0)) (.bool (c.o 1)) (.bool (c.o 2)) (.bool (c.o 3)) (.bool (c.o 4)) (.bool (c.o 5)) (.bool (c.o 6)) (.slice aR c.nr cR) (.slice aD c.nd cD) 28 rfl
 have k0 := H.cell (w.heap.size) 0 (.bool (c.o 0)) i0_
 have k1 := H.cell (w.heap.size) 1 (.bool (c.o 1)) i1_
 have k2 := H.cell (w.heap.size) 2 (.bool (c.o 2)) i2_
 have k3 := H.cell (w.heap.size) 3 (.bool (c.o 3)) i3_
 have k4 := H.cell (w.heap.size) 4 (.bool (c.o 4)) i4_
 have k5 := H.cell (w.heap.size) 5 (.bool (c.o 5)) i5_
 have k6 := H.cell (w.heap.size) 6 (.bool (c.o 6)) i6_
 have k7 := H.cell (w.heap.size) 7 (.slice aR c.nr cR) i7_
 have k8 := H.cell (w.heap.size) 8 (.slice aD c.nd cD) i8_
 go_wp2_with fail
 (with_reducible refine (C.out _ (H.factsW (i19_)) (H.cal (i18_))).mono ?_)
 clear k0 k1 k2 k3 k4 k5 k6 k7 k8
 rintro e w1 ⟨rfl, hb⟩
 replace H := H.below hb
 clear hb
 have k0 := H.cell (w.heap.size) 0 (.bool (c.o 0)) i0_
 have k1 := H.cell (w.heap.size) 1 (.bool (c.o 1)) i1_
 have k2 := H.cell (w.heap.size) 2 (.bool (c.o 2)) i2_
 have k3 := H.cell (w.heap.size) 3 (.bool (c.o 3)) i3_
 have k4 := H.cell (w.heap.size) 4 (.bool (c.o 4)) i4_
 have k5 := H.cell (w.heap.size) 5 (.bool (c.o 5)) i5_
 have k6 := H.cell (w.heap.size) 6 (.bool (c.o 6)) i6_
 have k7 := H.cell (w.heap.size) 7 (.slice aR c.nr cR) i7_
 have k8 := H.cell (w.heap.size) 8 (.slice aD c.nd cD) i8_
 go_wp2_with fail
 (with_reducible refine (D.out _ (H.factsWl (i19_))).mono ?_)
 clear k0 k1 k2 k3 k4 k5 k6 k7 k8
 rintro e w1 ⟨rfl, hb⟩
 replace H := H.below hb
 clear hb
 have k0 := H.cell (w.heap.size) 0 (.bool (c.o 0)) i0_
 have k1 := H.cell (w.heap.size) 1 (.bool (c.o 1)) i1_
 have k2 := H.cell (w.heap.size) 2 (.bool (c.o 2)) i2_
 have k3 := H.cell (w.heap.size) 3 (.bool (c.o 3)) i3_
 have k4 := H.cell (w.heap.size) 4 (.bool (c.o 4)) i4_
 have k5 := H.cell (w.heap.size) 5 (.bool (c.o 5)) i5_
 have k6 := H.cell (w.heap.size) 6 (.bool (c.o 6)) i6_
 have k7 := H.cell (w.heap.size) 7 (.slice aR c.nr cR) i7_
 have k8 := H.cell (w.heap.size) 8 (.slice aD c.nd cD) i8_
 go_wp2_with fail
 (with_reducible refine (C2.out _ (H.factsW (i19_)) (H.cal (i18_))).mono ?_)
 clear k0 k1 k2 k3 k4 k5 k6 k7 k8
 rintro e w1 ⟨rfl, hb⟩
 replace H := H.below hb
 clear hb
 go_wp2
 go_ret2
 exact ⟨rfl, H.old⟩
theorem to4bad (c : Ca) (aR : Option Addr) (cR : Nat) (aD : Option Addr) (cD : Nat) (n v e : Int)  (w : World) (hL : FactsW w) (hM : c.May) (hC : CalAt w c aR cR aD cD) (bn : -9223372036854775808 ≤ n ∧ n < 9223372036854775808) (h : StepIs c (-1) n v e) (he : e ≠ 0) : Calls Tryz.prog 93 #[.agg #[.bool (c.o 0), .bool (c.o 1), .bool (c.o 2), .bool (c.o 3), .bool (c.o 4), .bool (c.o 5), .bool (c.o 6), .slice aR c.nr cR, .slice aD c.nd cD], .int .i64 n, .int .i64 4] w fun e' w' => e' = .returned (.tuple #[.int .i64 v, .int .i64 e]) ∧ Below w.heap.size w w' := by
 have H := ((Held.start w).add (f := zAc) hL).add (f := calF c aR cR aD cD) hC
 have C := Lib.hid (fun v' (h' : FactsW v') (k : CalAt v' c aR cR aD cD) => zFk c aR cR aD cD n v e v' h' hM k bn h)
 have z : (e != 0) = true := by simpa using he
 clear h he
 clear hL hM hC
 go_enter Tryz.func93, Tryz.ntmps93
 replace H := H.box_9 (w.heap.size) (.bool (c.o 0)) (.bool (c.o 1)) (.bool (c.o 2)) (.bool (c.o 3)) (.bool (c.o 4)) (.bool (c.o 5)) (.bool (c.o 6)) (.slice aR c.nr cR) (.slice aD c.nd cD) 28 rfl
 have k0 := H.cell (w.heap.size) 0 (.bool (c.o 0)) i0_
 have k1 := H.cell (w.heap.size) 1 (.bool (c.o 1)) i1_
 have k2 := H.cell (w.heap.size) 2 (.bool (c.o 2)) i2_
 have k3 := H.cell (w.heap.size) 3 (.bool (c.o 3)) i3_
 have k4 := H.cell (w.heap.size) 4 (.bool (c.o 4)) i4_
 have k5 := H.cell (w.heap.size) 5 (.bool (c.o 5)) i5_
 have k6 := H.cell (w.heap.size) 6 (.bool (c.o 6)) i6_
 have k7 := H.cell (w.heap.size) 7 (.slice aR c.nr cR) i7_
 have k8 := H.cell (w.heap.size) 8 (.slice aD c.nd cD) i8_
 go_wp2_with fail
 (with_reducible refine (C.out _ (H.factsW (i19_)) (H.cal (i18_))).mono ?_)
 clear k0 k1 k2 k3 k4 k5 k6 k7 k8
 rintro e w1 ⟨rfl, hb⟩
 replace H := H.below hb
 clear hb
 have k0 := H.cell (w.heap.size) 0 (.bool (c.o 0)) i0_
 have k1 := H.cell (w.heap.size) 1 (.bool (c.o 1)) i1_
 have k2 := H.cell (w.heap.size) 2 (.bool (c.o 2)) i2_
 have k3 := H.cell (w.heap.size) 3 (.bool (c.o 3)) i3_
 have k4 := H.cell (w.heap.size) 4 (.bool (c.o 4)) i4_
 have k5 := H.cell (w.heap.size) 5 (.bool (c.o 5)) i5_
 have k6 := H.cell (w.heap.size) 6 (.bool (c.o 6)) i6_
 have k7 := H.cell (w.heap.size) 7 (.slice aR c.nr cR) i7_
 have k8 := H.cell (w.heap.size) 8 (.slice aD c.nd cD) i8_
 go_wp2
 go_ret2
 exact ⟨rfl, H.old⟩
theorem to4t (c : Ca) (aR : Option Addr) (cR : Nat) (aD : Option Addr) (cD : Nat) (n v : Int)  (w : World) (hL : FactsW w) (hM : c.May) (hC : CalAt w c aR cR aD cD) (bn : -9223372036854775808 ≤ n ∧ n < 9223372036854775808) (h : StepIs c (-1) n v 0) (hs : zEq n v) : Calls Tryz.prog 93 #[.agg #[.bool (c.o 0), .bool (c.o 1), .bool (c.o 2), .bool (c.o 3), .bool (c.o 4), .bool (c.o 5), .bool (c.o 6), .slice aR c.nr cR, .slice aD c.nd cD], .int .i64 n, .int .i64 4] w fun e' w' => e' = .returned (.tuple #[.int .i64 v, .int .i64 0]) ∧ Below w.heap.size w w' := by
 have H := ((Held.start w).add (f := zAc) hL).add (f := calF c aR cR aD cD) hC
 have C := Lib.hid (fun v' (h' : FactsW v') (k : CalAt v' c aR cR aD cD) => zFk c aR cR aD cD n v 0 v' h' hM k bn h)
 have D := Lib.hid (fun u (k : Lens u) => zD2 n v true u k (h.good rfl).1 (h.good rfl).2.1.1 ⟨fun _ => hs, fun _ => rfl⟩)
 clear h hs
 clear hL hM hC
 go_enter Tryz.func93, Tryz.ntmps93
 replace H := H.box_9 (w.heap.size) (.bool (c.o 0)) (.bool (c.o 1)) (.bool (c.o 2)) (.bool (c.o 3)) (.bool (c.o 4)) (.bool (c.o 5)) (.bool (c.o 6)) (.slice aR c.nr cR) (.slice aD c.nd cD) 28 rfl
 have k0 := H.cell (w.heap.size) 0 (.bool (c.o 0)) i0_
 have k1 := H.cell (w.heap.size) 1 (.bool (c.o 1)) i1_
 have k2 := H.cell (w.heap.size) 2 (.bool (c.o 2)) i2_
 have k3 := H.cell (w.heap.size) 3 (.bool (c.o 3)) i3_
 have k4 := H.cell (w.heap.size) 4 (.bool (c.o 4)) i4_
 have k5 := H.cell (w.heap.size) 5 (.bool (c.o 5)) i5_
 have k6 := H.cell (w.heap.size) 6 (.bool (c.o 6)) i6_
 have k7 := H.cell (w.heap.size) 7 (.slice aR c.nr cR) i7_
 have k8 := H.cell (w.heap.size) 8 (.slice aD c.nd cD) i8_
 go_wp2_with fail
 (with_reducible refine (C.out _ (H.factsW (i19_)) (H.cal (i18_))).mono ?_)
 clear k0 k1 k2 k3 k4 k5 k6 k7 k8
 rintro e w1 ⟨rfl, hb⟩
 replace H := H.below hb
 clear hb
 have k0 := H.cell (w.heap.size) 0 (.bool (c.o 0)) i0_
 have k1 := H.cell (w.heap.size) 1 (.bool (c.o 1)) i1_
 have k2 := H.cell (w.heap.size) 2 (.bool (c.o 2)) i2_
 have k3 := H.cell (w.heap.size) 3 (.bool (c.o 3)) i3_
 have k4 := H.cell (w.heap.size) 4 (.bool (c.o 4)) i4_
 have k5 := H.cell (w.heap.size) 5 (.bool (c.o 5)) i5_
 have k6 := H.cell (w.heap.size) 6 (.bool (c.o 6)) i6_
 have k7 := H.cell (w.heap.size) 7 (.slice aR c.nr cR) i7_
 have k8 := H.cell (w.heap.size) 8 (.slice aD c.nd cD) i8_
 go_wp2_with fail
 (with_reducible refine (D.out _ (H.factsWl (i19_))).mono ?_)
 clear k0 k1 k2 k3 k4 k5 k6 k7 k8
 rintro e w1 ⟨rfl, hb⟩
 replace H := H.below hb
 clear hb
 have k0 := H.cell (w.heap.size) 0 (.bool (c.o 0)) i0_
 have k1 := H.cell (w.heap.size) 1 (.bool (c.o 1)) i1_
 have k2 := H.cell (w.heap.size) 2 (.bool (c.o 2)) i2_
 have k3 := H.cell (w.heap.size) 3 (.bool (c.o 3)) i3_
 have k4 := H.cell (w.heap.size) 4 (.bool (c.o 4)) i4_
 have k5 := H.cell (w.heap.size) 5 (.bool (c.o 5)) i5_
 have k6 := H.cell (w.heap.size) 6 (.bool (c.o 6)) i6_
 have k7 := H.cell (w.heap.size) 7 (.slice aR c.nr cR) i7_
 have k8 := H.cell (w.heap.size) 8 (.slice aD c.nd cD) i8_
 go_wp2
 go_ret2
 exact ⟨rfl, H.old⟩
theorem to4f (c : Ca) (aR : Option Addr) (cR : Nat) (aD : Option Addr) (cD : Nat) (n v e : Int) (a : Int) (w : World) (hL : FactsW w) (hM : c.May) (hC : CalAt w c aR cR aD cD) (bn : -9223372036854775808 ≤ n ∧ n < 9223372036854775808) (h : StepIs c (-1) n a 0) (hs : ¬ zEq n a) (g : StepIs c (1) n v e) : Calls Tryz.prog 93 #[.agg #[.bool (c.o 0), .bool (c.o 1), .bool (c.o 2), .bool (c.o 3), .bool (c.o 4), .bool (c.o 5), .bool (c.o 6), .slice aR c.nr cR, .slice aD c.nd cD], .int .i64 n, .int .i64 4] w fun e' w' => e' = .returned (.tuple #[.int .i64 v, .int .i64 e]) ∧ Below w.heap.size w w' := by
 have H := ((Held.start w).add (f := zAc) hL).add (f := calF c aR cR aD cD) hC
 have C := Lib.hid (fun v' (h' : FactsW v') (k : CalAt v' c aR cR aD cD) => zFk c aR cR aD cD n a 0 v' h' hM k bn h)
 have C2 := Lib.hid (fun v' (h' : FactsW v') (k : CalAt v' c aR cR aD cD) => zFi c aR cR aD cD n v e v' h' hM k bn g)
 have D := Lib.hid (fun u (k : Lens u) => zD2 n a false u k (h.good rfl).1 (h.good rfl).2.1.1 ⟨fun g => absurd g (by decide), fun g => absurd g hs⟩)
 clear h hs g
 clear hL hM hC
 go_enter Tryz.func93, Tryz.ntmps93
 replace H := H.box_9 (w.heap.size) (.bool (c.o 0)) (.bool (c.o 1)) (.bool (c.o 2)) (.bool (c.o 3)) (.bool (c.o 4)) (.bool (c.o 5)) (.bool (c.o 6)) (.slice aR c.nr cR) (.slice aD c.nd cD) 28 rfl
 have k0 := H.cell (w.heap.size) 0 (.bool (c.o 0)) i0_
 have k1 := H.cell (w.heap.size) 1 (.bool (c.o 1)) i1_
 have k2 := H.cell (w.heap.size) 2 (.bool (c.o 2)) i2_
 have k3 := H.cell (w.heap.size) 3 (.bool (c.o 3)) i3_
 have k4 := H.cell (w.heap.size) 4 (.bool (c.o 4)) i4_
 have k5 := H.cell (w.heap.size) 5 (.bool (c.o 5)) i5_
 have k6 := H.cell (w.heap.size) 6 (.bool (c.o 6)) i6_
 have k7 := H.cell (w.heap.size) 7 (.slice aR c.nr cR) i7_
 have k8 := H.cell (w.heap.size) 8 (.slice aD c.nd cD) i8_
 go_wp2_with fail
 (with_reducible refine (C.out _ (H.factsW (i19_)) (H.cal (i18_))).mono ?_)
 clear k0 k1 k2 k3 k4 k5 k6 k7 k8
 rintro e w1 ⟨rfl, hb⟩
 replace H := H.below hb
 clear hb
 have k0 := H.cell (w.heap.size) 0 (.bool (c.o 0)) i0_
 have k1 := H.cell (w.heap.size) 1 (.bool (c.o 1)) i1_
 have k2 := H.cell (w.heap.size) 2 (.bool (c.o 2)) i2_
 have k3 := H.cell (w.heap.size) 3 (.bool (c.o 3)) i3_
 have k4 := H.cell (w.heap.size) 4 (.bool (c.o 4)) i4_
 have k5 := H.cell (w.heap.size) 5 (.bool (c.o 5)) i5_
 have k6 := H.cell (w.heap.size) 6 (.bool (c.o 6)) i6_
 have k7 := H.cell (w.heap.size) 7 (.slice aR c.nr cR) i7_
 have k8 := H.cell (w.heap.size) 8 (.slice aD c.nd cD) i8_
 go_wp2_with fail
 (with_reducible refine (D.out _ (H.factsWl (i19_))).mono ?_)
 clear k0 k1 k2 k3 k4 k5 k6 k7 k8
 rintro e w1 ⟨rfl, hb⟩
 replace H := H.below hb
 clear hb
 have k0 := H.cell (w.heap.size) 0 (.bool (c.o 0)) i0_
 have k1 := H.cell (w.heap.size) 1 (.bool (c.o 1)) i1_
 have k2 := H.cell (w.heap.size) 2 (.bool (c.o 2)) i2_
 have k3 := H.cell (w.heap.size) 3 (.bool (c.o 3)) i3_
 have k4 := H.cell (w.heap.size) 4 (.bool (c.o 4)) i4_
 have k5 := H.cell (w.heap.size) 5 (.bool (c.o 5)) i5_
 have k6 := H.cell (w.heap.size) 6 (.bool (c.o 6)) i6_
 have k7 := H.cell (w.heap.size) 7 (.slice aR c.nr cR) i7_
 have k8 := H.cell (w.heap.size) 8 (.slice aD c.nd cD) i8_
 go_wp2_with fail
 (with_reducible refine (C2.out _ (H.factsW (i19_)) (H.cal (i18_))).mono ?_)
 clear k0 k1 k2 k3 k4 k5 k6 k7 k8
 rintro e w1 ⟨rfl, hb⟩
 replace H := H.below hb
 clear hb
 go_wp2
 go_ret2
 exact ⟨rfl, H.old⟩
theorem to_out (c : Ca) (aR : Option Addr) (cR : Nat) (aD : Option Addr) (cD : Nat) (n k : Int) (w : World) (hk : k < 0 ∨ 4 < k) : Calls Tryz.prog 93 #[.agg #[.bool (c.o 0), .bool (c.o 1), .bool (c.o 2), .bool (c.o 3), .bool (c.o 4), .bool (c.o 5), .bool (c.o 6), .slice aR c.nr cR, .slice aD c.nd cD], .int .i64 n, .int .i64 k] w fun e' w' => e' = .returned (.tuple #[.int .i64 0, .int .i64 1]) ∧ Below w.heap.size w w' := by
 have H := Held.start w
 have t0 : (k == 0) = false := by simp; omega
 have t1 : (k == 1) = false := by simp; omega
 have t2 : (k == 2) = false := by simp; omega
 have t3 : (k == 3) = false := by simp; omega
 have t4 : (k == 4) = false := by simp; omega
 clear hk
 go_enter Tryz.func93, Tryz.ntmps93
 go_wp2
 go_ret2
 exact ⟨rfl, (H.alloc _).old⟩
theorem to_is14 (c : Ca) (aR : Option Addr) (cR : Nat) (aD : Option Addr) (cD : Nat) (n k v e : Int) (w : World) (hL : FactsW w) (hM : c.May) (hC : CalAt w c aR cR aD cD) (bn : -9223372036854775808 ≤ n ∧ n < 9223372036854775808) (h : ToIs c n k v e) : Calls Tryz.prog 93 #[.agg #[.bool (c.o 0), .bool (c.o 1), .bool (c.o 2), .bool (c.o 3), .bool (c.o 4), .bool (c.o 5), .bool (c.o 6), .slice aR c.nr cR, .slice aD c.nd cD], .int .i64 n, .int .i64 k] w fun e' w' => e' = .returned (.tuple #[.int .i64 v, .int .i64 e]) ∧ Below w.heap.size w w' := by
 rcases h with ⟨rfl, ⟨h, rfl, rfl⟩ | ⟨h, rfl, rfl⟩⟩ | ⟨rfl, h⟩ | ⟨rfl, a, f, h, ⟨g, rfl, rfl⟩ | ⟨⟨rfl, g⟩, g2⟩⟩ | ⟨rfl, h⟩ | ⟨rfl, a, f, h, ⟨g, rfl, rfl⟩ | ⟨⟨rfl, g⟩, g2⟩⟩ | ⟨h, rfl, rfl⟩
 ·exact to0d c aR cR aD cD _ w hL hM hC bn h
 ·exact to0n c aR cR aD cD n w hL hM hC bn h
 ·exact to1 c aR cR aD cD n v e w hL hM hC bn h
 ·by_cases he : e = 0
  ·subst he
   exact to2t c aR cR aD cD n v w hL hM hC bn h (g.resolve_left (fun z => z rfl))
  ·exact to2bad c aR cR aD cD n v e w hL hM hC bn h he
 ·exact to2f c aR cR aD cD n v e a w hL hM hC bn h g g2
 ·exact to3 c aR cR aD cD n v e w hL hM hC bn h
 ·by_cases he : e = 0
  ·subst he
   exact to4t c aR cR aD cD n v w hL hM hC bn h (g.resolve_left (fun z => z rfl))
  ·exact to4bad c aR cR aD cD n v e w hL hM hC bn h he
 ·exact to4f c aR cR aD cD n v e a w hL hM hC bn h g g2
 ·exact to_out c aR cR aD cD n k w h
end Go.Proofs.YtpfgdfpaoldhcaaGreatDoor
