/- IsoParts: the walk, where the text is a day. -/
import Derived.Test.YtgdhpganognmlaaDoorIsSet
namespace Go.Proofs.YtgdhpganognmlaaDoor
open Go.RowKit
set_option linter.unusedVariables false
set_option linter.unusedSimpArgs false

set_option maxHeartbeats 4000000 in
set_option maxRecDepth 100000 in
theorem iparts_04bx (y m d k c p q r n I : Int) (A B C : List UInt8) (S T T1 : ByteArray) (w : World) (hL : Tabs w) (by0 : 0 ≤ y ∧ y < 65536) (bm0 : 0 ≤ m ∧ m < 256) (bd0 : 0 ≤ d ∧ d < 256) (bk0 : 0 ≤ k ∧ k < 256) (bc0 : 0 ≤ c ∧ c < 256) (hp : y % 10000 = p) (hq : m % 100 = q) (hr : d % 100 = r) (hI : k % 10 = I) (hA : digs p 4 = A) (hB : digs q 2 = B) (hC : digs r 2 = C) (hS : (⟨(txt p q r).toArray⟩ : ByteArray) = S) (hz : S.size = 10)
    (hn : nN p q r = n ∧ nE p q r = 0) (hR : ∀ v, Tabs v → Calls Tryd.prog 11 #[.string S] v fun e' w' => e' = .returned (.tuple #[.int .i64 n, .int .i64 0]) ∧ Below v.heap.size v w')
    (hR2 : ∀ v, Tabs v → Calls Tryd.prog 11 #[.string T] v fun e' w' => e' = .returned (.tuple #[.int .i64 0, .int .i64 10]) ∧ Below v.heap.size v w')
    (hadd1 : ∀ w, (Op.stringOp .add (S.extract 0 (I : Int).toNat) (⟨#[UInt8.ofNat (c : Int).toNat]⟩ : ByteArray)).run Tryd.prog w = .ok (.string T1) w) (hadd2 : ∀ w, (Op.stringOp .add T1 (S.extract (I + 1 : Int).toNat 10)).run Tryd.prog w = .ok (.string T) w) (i0 : 0 ≤ I ∧ I < 10) (ie : I = 4) (hc : (c != 45) = true) :
    Calls Tryd.prog 6 #[.agg #[.int .u16 y, .int .u8 m, .int .u8 d, .int .u8 k, .int .u8 c]] w fun e w' => e = .returned (.bool true) ∧ Below w.heap.size w w' := by
  have H := (Held.start w).add (f := tabsF) hL
  clear hL
  have HP := Lib.hid hp
  have HQ := Lib.hid hq
  have HR := Lib.hid hr
  have HI := Lib.hid hI
  have p0 : 0 ≤ p ∧ p ≤ 9999 := by omega
  have q0 : 0 ≤ q ∧ q ≤ 99 := by omega
  have r0 : 0 ≤ r ∧ r ≤ 99 := by omega
  obtain ⟨L1, L2, L3, P1, P2, P3, P4⟩ := put_any p q r A B C hA hB hC
  rw [hS] at P4
  have C1 := Lib.hid (fun v => lpad_is p 4 A v p0.1 p0.2 (by decide) (by decide) hA)
  have C2 := Lib.hid (fun v => lpad_is q 2 B v q0.1 (by omega) (by decide) (by decide) hB)
  have C3 := Lib.hid (fun v => lpad_is r 2 C v r0.1 (by omega) (by decide) (by decide) hC)
  have HN := Lib.hid hn
  have HR1 := Lib.hid hR
  have HR2 := Lib.hid hR2
  have hcv : ∀ v : World, (convert 42 9 (.slice (some ⟨v.heap.size, 0, none⟩) 1 1)).run Tryd.prog ((v.alloc (.cells #[.int .u8 c] 5)).drew) = .ok (.string ⟨#[UInt8.ofNat (c : Int).toNat]⟩) ((v.alloc (.cells #[.int .u8 c] 5)).drew) := fun v => one_byte v.drew c (by omega)
  clear hp hq hr hI hA hB hC hS hn hR hR2
  have EI := Lib.hid ie
  clear ie
  go_enter Tryd.func6, Tryd.ntmps6
  go_wp2_with fail
  replace H := (H.alloc (.cells #[.int .u16 y, .int .u8 m, .int .u8 d, .int .u8 k, .int .u8 c] 37))
  (with_reducible refine (ishown_any _ (H.tabs (List.Mem.head _))).mono ?_)
  rintro e w1 ⟨rfl, hb⟩
  replace H := H.below hb
  clear hb
  go_wp2_with fail
  rw [HP.out, HQ.out, HR.out]
  (with_reducible refine (C1.out _).mono ?_)
  rintro e w2 ⟨rfl, hb⟩
  replace H := H.below hb
  clear hb
  go_wp2_with fail
  (with_reducible refine (C2.out _).mono ?_)
  rintro e w3 ⟨rfl, hb⟩
  replace H := H.below hb
  clear hb
  go_wp2_with fail
  (with_reducible refine (C3.out _).mono ?_)
  rintro e w4 ⟨rfl, hb⟩
  replace H := H.below hb
  clear hb
  go_wp2_with fail
  (with_reducible refine (HR1.out _ (H.tabs (List.Mem.head _))).mono ?_)
  rintro e w5 ⟨rfl, hb⟩
  replace H := H.below hb
  clear hb
  go_wp2_with fail
  (with_reducible refine (rnumber_is p q r n 0 _ HN.out).mono ?_)
  rintro e w6 ⟨rfl, hb⟩
  replace H := H.below hb
  clear hb
  go_wp2_with fail
  rw [HI.out]
  go_region
  all_goals go_wp2_with fail
  replace H := (H.alloc (.cells #[.int .u8 c] 5)).drew
  (with_reducible refine (HR2.out _ (H.tabs (List.Mem.head _))).mono ?_)
  rintro e w7 ⟨rfl, hb⟩
  replace H := H.below hb
  clear hb
  have ie := EI.out
  subst ie
  go_wp2_with fail
  all_goals (go_ret; exact ⟨rfl, H.old⟩)

set_option maxHeartbeats 4000000 in
set_option maxRecDepth 100000 in
theorem iparts_04gsame (y m d k c p q r n I x f : Int) (A B C : List UInt8) (S T T1 : ByteArray) (w : World) (hL : Tabs w) (by0 : 0 ≤ y ∧ y < 65536) (bm0 : 0 ≤ m ∧ m < 256) (bd0 : 0 ≤ d ∧ d < 256) (bk0 : 0 ≤ k ∧ k < 256) (bc0 : 0 ≤ c ∧ c < 256) (hp : y % 10000 = p) (hq : m % 100 = q) (hr : d % 100 = r) (hI : k % 10 = I) (hA : digs p 4 = A) (hB : digs q 2 = B) (hC : digs r 2 = C) (hS : (⟨(txt p q r).toArray⟩ : ByteArray) = S) (hz : S.size = 10)
    (hn : nN p q r = n ∧ nE p q r = 0) (hR : ∀ v, Tabs v → Calls Tryd.prog 11 #[.string S] v fun e' w' => e' = .returned (.tuple #[.int .i64 n, .int .i64 0]) ∧ Below v.heap.size v w')
    (hR2 : ∀ v, Tabs v → Calls Tryd.prog 11 #[.string T] v fun e' w' => e' = .returned (.tuple #[.int .i64 x, .int .i64 f]) ∧ Below v.heap.size v w')
    (hadd1 : ∀ w, (Op.stringOp .add (S.extract 0 (I : Int).toNat) (⟨#[UInt8.ofNat (c : Int).toNat]⟩ : ByteArray)).run Tryd.prog w = .ok (.string T1) w) (hadd2 : ∀ w, (Op.stringOp .add T1 (S.extract (I + 1 : Int).toNat 10)).run Tryd.prog w = .ok (.string T) w) (i0 : 0 ≤ I ∧ I < 10) (ie : I = 4) (hc : c = 45) (ht : (T.toList == S.toList) = true) (hf : f = 0 ∨ f = 3) :
    Calls Tryd.prog 6 #[.agg #[.int .u16 y, .int .u8 m, .int .u8 d, .int .u8 k, .int .u8 c]] w fun e w' => e = .returned (.bool true) ∧ Below w.heap.size w w' := by
  have H := (Held.start w).add (f := tabsF) hL
  clear hL
  have HP := Lib.hid hp
  have HQ := Lib.hid hq
  have HR := Lib.hid hr
  have HI := Lib.hid hI
  have p0 : 0 ≤ p ∧ p ≤ 9999 := by omega
  have q0 : 0 ≤ q ∧ q ≤ 99 := by omega
  have r0 : 0 ≤ r ∧ r ≤ 99 := by omega
  obtain ⟨L1, L2, L3, P1, P2, P3, P4⟩ := put_any p q r A B C hA hB hC
  rw [hS] at P4
  have C1 := Lib.hid (fun v => lpad_is p 4 A v p0.1 p0.2 (by decide) (by decide) hA)
  have C2 := Lib.hid (fun v => lpad_is q 2 B v q0.1 (by omega) (by decide) (by decide) hB)
  have C3 := Lib.hid (fun v => lpad_is r 2 C v r0.1 (by omega) (by decide) (by decide) hC)
  have HN := Lib.hid hn
  have HR1 := Lib.hid hR
  have HR2 := Lib.hid hR2
  have hcv : ∀ v : World, (convert 42 9 (.slice (some ⟨v.heap.size, 0, none⟩) 1 1)).run Tryd.prog ((v.alloc (.cells #[.int .u8 c] 5)).drew) = .ok (.string ⟨#[UInt8.ofNat (c : Int).toNat]⟩) ((v.alloc (.cells #[.int .u8 c] 5)).drew) := fun v => one_byte v.drew c (by omega)
  clear hp hq hr hI hA hB hC hS hn hR hR2
  have t9 : (f != 10) = true := by rcases hf with rfl | rfl <;> decide
  have EI := Lib.hid ie
  clear ie
  have EC := Lib.hid hc
  clear hc
  go_enter Tryd.func6, Tryd.ntmps6
  go_wp2_with fail
  replace H := (H.alloc (.cells #[.int .u16 y, .int .u8 m, .int .u8 d, .int .u8 k, .int .u8 c] 37))
  (with_reducible refine (ishown_any _ (H.tabs (List.Mem.head _))).mono ?_)
  rintro e w1 ⟨rfl, hb⟩
  replace H := H.below hb
  clear hb
  go_wp2_with fail
  rw [HP.out, HQ.out, HR.out]
  (with_reducible refine (C1.out _).mono ?_)
  rintro e w2 ⟨rfl, hb⟩
  replace H := H.below hb
  clear hb
  go_wp2_with fail
  (with_reducible refine (C2.out _).mono ?_)
  rintro e w3 ⟨rfl, hb⟩
  replace H := H.below hb
  clear hb
  go_wp2_with fail
  (with_reducible refine (C3.out _).mono ?_)
  rintro e w4 ⟨rfl, hb⟩
  replace H := H.below hb
  clear hb
  go_wp2_with fail
  (with_reducible refine (HR1.out _ (H.tabs (List.Mem.head _))).mono ?_)
  rintro e w5 ⟨rfl, hb⟩
  replace H := H.below hb
  clear hb
  go_wp2_with fail
  (with_reducible refine (rnumber_is p q r n 0 _ HN.out).mono ?_)
  rintro e w6 ⟨rfl, hb⟩
  replace H := H.below hb
  clear hb
  go_wp2_with fail
  rw [HI.out]
  go_region
  all_goals go_wp2_with fail
  replace H := (H.alloc (.cells #[.int .u8 c] 5)).drew
  (with_reducible refine (HR2.out _ (H.tabs (List.Mem.head _))).mono ?_)
  rintro e w7 ⟨rfl, hb⟩
  replace H := H.below hb
  clear hb
  have ie := EI.out
  subst ie
  have hc := EC.out
  subst hc
  go_wp2_with fail
  all_goals (go_ret; exact ⟨rfl, H.old⟩)

set_option maxHeartbeats 4000000 in
set_option maxRecDepth 100000 in
theorem iparts_04gno (y m d k c p q r n I x : Int) (A B C : List UInt8) (S T T1 : ByteArray) (w : World) (hL : Tabs w) (by0 : 0 ≤ y ∧ y < 65536) (bm0 : 0 ≤ m ∧ m < 256) (bd0 : 0 ≤ d ∧ d < 256) (bk0 : 0 ≤ k ∧ k < 256) (bc0 : 0 ≤ c ∧ c < 256) (hp : y % 10000 = p) (hq : m % 100 = q) (hr : d % 100 = r) (hI : k % 10 = I) (hA : digs p 4 = A) (hB : digs q 2 = B) (hC : digs r 2 = C) (hS : (⟨(txt p q r).toArray⟩ : ByteArray) = S) (hz : S.size = 10)
    (hn : nN p q r = n ∧ nE p q r = 0) (hR : ∀ v, Tabs v → Calls Tryd.prog 11 #[.string S] v fun e' w' => e' = .returned (.tuple #[.int .i64 n, .int .i64 0]) ∧ Below v.heap.size v w')
    (hR2 : ∀ v, Tabs v → Calls Tryd.prog 11 #[.string T] v fun e' w' => e' = .returned (.tuple #[.int .i64 x, .int .i64 3]) ∧ Below v.heap.size v w')
    (hadd1 : ∀ w, (Op.stringOp .add (S.extract 0 (I : Int).toNat) (⟨#[UInt8.ofNat (c : Int).toNat]⟩ : ByteArray)).run Tryd.prog w = .ok (.string T1) w) (hadd2 : ∀ w, (Op.stringOp .add T1 (S.extract (I + 1 : Int).toNat 10)).run Tryd.prog w = .ok (.string T) w) (i0 : 0 ≤ I ∧ I < 10) (ie : I = 4) (hc : c = 45) (ht : (T.toList == S.toList) = false) :
    Calls Tryd.prog 6 #[.agg #[.int .u16 y, .int .u8 m, .int .u8 d, .int .u8 k, .int .u8 c]] w fun e w' => e = .returned (.bool true) ∧ Below w.heap.size w w' := by
  have H := (Held.start w).add (f := tabsF) hL
  clear hL
  have HP := Lib.hid hp
  have HQ := Lib.hid hq
  have HR := Lib.hid hr
  have HI := Lib.hid hI
  have p0 : 0 ≤ p ∧ p ≤ 9999 := by omega
  have q0 : 0 ≤ q ∧ q ≤ 99 := by omega
  have r0 : 0 ≤ r ∧ r ≤ 99 := by omega
  obtain ⟨L1, L2, L3, P1, P2, P3, P4⟩ := put_any p q r A B C hA hB hC
  rw [hS] at P4
  have C1 := Lib.hid (fun v => lpad_is p 4 A v p0.1 p0.2 (by decide) (by decide) hA)
  have C2 := Lib.hid (fun v => lpad_is q 2 B v q0.1 (by omega) (by decide) (by decide) hB)
  have C3 := Lib.hid (fun v => lpad_is r 2 C v r0.1 (by omega) (by decide) (by decide) hC)
  have HN := Lib.hid hn
  have HR1 := Lib.hid hR
  have HR2 := Lib.hid hR2
  have hcv : ∀ v : World, (convert 42 9 (.slice (some ⟨v.heap.size, 0, none⟩) 1 1)).run Tryd.prog ((v.alloc (.cells #[.int .u8 c] 5)).drew) = .ok (.string ⟨#[UInt8.ofNat (c : Int).toNat]⟩) ((v.alloc (.cells #[.int .u8 c] 5)).drew) := fun v => one_byte v.drew c (by omega)
  clear hp hq hr hI hA hB hC hS hn hR hR2
  have EI := Lib.hid ie
  clear ie
  have EC := Lib.hid hc
  clear hc
  go_enter Tryd.func6, Tryd.ntmps6
  go_wp2_with fail
  replace H := (H.alloc (.cells #[.int .u16 y, .int .u8 m, .int .u8 d, .int .u8 k, .int .u8 c] 37))
  (with_reducible refine (ishown_any _ (H.tabs (List.Mem.head _))).mono ?_)
  rintro e w1 ⟨rfl, hb⟩
  replace H := H.below hb
  clear hb
  go_wp2_with fail
  rw [HP.out, HQ.out, HR.out]
  (with_reducible refine (C1.out _).mono ?_)
  rintro e w2 ⟨rfl, hb⟩
  replace H := H.below hb
  clear hb
  go_wp2_with fail
  (with_reducible refine (C2.out _).mono ?_)
  rintro e w3 ⟨rfl, hb⟩
  replace H := H.below hb
  clear hb
  go_wp2_with fail
  (with_reducible refine (C3.out _).mono ?_)
  rintro e w4 ⟨rfl, hb⟩
  replace H := H.below hb
  clear hb
  go_wp2_with fail
  (with_reducible refine (HR1.out _ (H.tabs (List.Mem.head _))).mono ?_)
  rintro e w5 ⟨rfl, hb⟩
  replace H := H.below hb
  clear hb
  go_wp2_with fail
  (with_reducible refine (rnumber_is p q r n 0 _ HN.out).mono ?_)
  rintro e w6 ⟨rfl, hb⟩
  replace H := H.below hb
  clear hb
  go_wp2_with fail
  rw [HI.out]
  go_region
  all_goals go_wp2_with fail
  replace H := (H.alloc (.cells #[.int .u8 c] 5)).drew
  (with_reducible refine (HR2.out _ (H.tabs (List.Mem.head _))).mono ?_)
  rintro e w7 ⟨rfl, hb⟩
  replace H := H.below hb
  clear hb
  have ie := EI.out
  subst ie
  have hc := EC.out
  subst hc
  go_wp2_with fail
  all_goals (go_ret; exact ⟨rfl, H.old⟩)

set_option maxHeartbeats 4000000 in
set_option maxRecDepth 100000 in
theorem iparts_04gother (y m d k c p q r n I x : Int) (A B C : List UInt8) (S T T1 : ByteArray) (w : World) (hL : Tabs w) (by0 : 0 ≤ y ∧ y < 65536) (bm0 : 0 ≤ m ∧ m < 256) (bd0 : 0 ≤ d ∧ d < 256) (bk0 : 0 ≤ k ∧ k < 256) (bc0 : 0 ≤ c ∧ c < 256) (hp : y % 10000 = p) (hq : m % 100 = q) (hr : d % 100 = r) (hI : k % 10 = I) (hA : digs p 4 = A) (hB : digs q 2 = B) (hC : digs r 2 = C) (hS : (⟨(txt p q r).toArray⟩ : ByteArray) = S) (hz : S.size = 10)
    (hn : nN p q r = n ∧ nE p q r = 0) (hR : ∀ v, Tabs v → Calls Tryd.prog 11 #[.string S] v fun e' w' => e' = .returned (.tuple #[.int .i64 n, .int .i64 0]) ∧ Below v.heap.size v w')
    (hR2 : ∀ v, Tabs v → Calls Tryd.prog 11 #[.string T] v fun e' w' => e' = .returned (.tuple #[.int .i64 x, .int .i64 0]) ∧ Below v.heap.size v w')
    (hadd1 : ∀ w, (Op.stringOp .add (S.extract 0 (I : Int).toNat) (⟨#[UInt8.ofNat (c : Int).toNat]⟩ : ByteArray)).run Tryd.prog w = .ok (.string T1) w) (hadd2 : ∀ w, (Op.stringOp .add T1 (S.extract (I + 1 : Int).toNat 10)).run Tryd.prog w = .ok (.string T) w) (i0 : 0 ≤ I ∧ I < 10) (ie : I = 4) (hc : c = 45) (ht : (T.toList == S.toList) = false) (hx : (x != n) = true) :
    Calls Tryd.prog 6 #[.agg #[.int .u16 y, .int .u8 m, .int .u8 d, .int .u8 k, .int .u8 c]] w fun e w' => e = .returned (.bool true) ∧ Below w.heap.size w w' := by
  have H := (Held.start w).add (f := tabsF) hL
  clear hL
  have HP := Lib.hid hp
  have HQ := Lib.hid hq
  have HR := Lib.hid hr
  have HI := Lib.hid hI
  have p0 : 0 ≤ p ∧ p ≤ 9999 := by omega
  have q0 : 0 ≤ q ∧ q ≤ 99 := by omega
  have r0 : 0 ≤ r ∧ r ≤ 99 := by omega
  obtain ⟨L1, L2, L3, P1, P2, P3, P4⟩ := put_any p q r A B C hA hB hC
  rw [hS] at P4
  have C1 := Lib.hid (fun v => lpad_is p 4 A v p0.1 p0.2 (by decide) (by decide) hA)
  have C2 := Lib.hid (fun v => lpad_is q 2 B v q0.1 (by omega) (by decide) (by decide) hB)
  have C3 := Lib.hid (fun v => lpad_is r 2 C v r0.1 (by omega) (by decide) (by decide) hC)
  have HN := Lib.hid hn
  have HR1 := Lib.hid hR
  have HR2 := Lib.hid hR2
  have hcv : ∀ v : World, (convert 42 9 (.slice (some ⟨v.heap.size, 0, none⟩) 1 1)).run Tryd.prog ((v.alloc (.cells #[.int .u8 c] 5)).drew) = .ok (.string ⟨#[UInt8.ofNat (c : Int).toNat]⟩) ((v.alloc (.cells #[.int .u8 c] 5)).drew) := fun v => one_byte v.drew c (by omega)
  clear hp hq hr hI hA hB hC hS hn hR hR2
  have EI := Lib.hid ie
  clear ie
  have EC := Lib.hid hc
  clear hc
  go_enter Tryd.func6, Tryd.ntmps6
  go_wp2_with fail
  replace H := (H.alloc (.cells #[.int .u16 y, .int .u8 m, .int .u8 d, .int .u8 k, .int .u8 c] 37))
  (with_reducible refine (ishown_any _ (H.tabs (List.Mem.head _))).mono ?_)
  rintro e w1 ⟨rfl, hb⟩
  replace H := H.below hb
  clear hb
  go_wp2_with fail
  rw [HP.out, HQ.out, HR.out]
  (with_reducible refine (C1.out _).mono ?_)
  rintro e w2 ⟨rfl, hb⟩
  replace H := H.below hb
  clear hb
  go_wp2_with fail
  (with_reducible refine (C2.out _).mono ?_)
  rintro e w3 ⟨rfl, hb⟩
  replace H := H.below hb
  clear hb
  go_wp2_with fail
  (with_reducible refine (C3.out _).mono ?_)
  rintro e w4 ⟨rfl, hb⟩
  replace H := H.below hb
  clear hb
  go_wp2_with fail
  (with_reducible refine (HR1.out _ (H.tabs (List.Mem.head _))).mono ?_)
  rintro e w5 ⟨rfl, hb⟩
  replace H := H.below hb
  clear hb
  go_wp2_with fail
  (with_reducible refine (rnumber_is p q r n 0 _ HN.out).mono ?_)
  rintro e w6 ⟨rfl, hb⟩
  replace H := H.below hb
  clear hb
  go_wp2_with fail
  rw [HI.out]
  go_region
  all_goals go_wp2_with fail
  replace H := (H.alloc (.cells #[.int .u8 c] 5)).drew
  (with_reducible refine (HR2.out _ (H.tabs (List.Mem.head _))).mono ?_)
  rintro e w7 ⟨rfl, hb⟩
  replace H := H.below hb
  clear hb
  have ie := EI.out
  subst ie
  have hc := EC.out
  subst hc
  go_wp2_with fail
  all_goals (go_ret; exact ⟨rfl, H.old⟩)

set_option maxHeartbeats 4000000 in
set_option maxRecDepth 100000 in
theorem iparts_07bx (y m d k c p q r n I : Int) (A B C : List UInt8) (S T T1 : ByteArray) (w : World) (hL : Tabs w) (by0 : 0 ≤ y ∧ y < 65536) (bm0 : 0 ≤ m ∧ m < 256) (bd0 : 0 ≤ d ∧ d < 256) (bk0 : 0 ≤ k ∧ k < 256) (bc0 : 0 ≤ c ∧ c < 256) (hp : y % 10000 = p) (hq : m % 100 = q) (hr : d % 100 = r) (hI : k % 10 = I) (hA : digs p 4 = A) (hB : digs q 2 = B) (hC : digs r 2 = C) (hS : (⟨(txt p q r).toArray⟩ : ByteArray) = S) (hz : S.size = 10)
    (hn : nN p q r = n ∧ nE p q r = 0) (hR : ∀ v, Tabs v → Calls Tryd.prog 11 #[.string S] v fun e' w' => e' = .returned (.tuple #[.int .i64 n, .int .i64 0]) ∧ Below v.heap.size v w')
    (hR2 : ∀ v, Tabs v → Calls Tryd.prog 11 #[.string T] v fun e' w' => e' = .returned (.tuple #[.int .i64 0, .int .i64 10]) ∧ Below v.heap.size v w')
    (hadd1 : ∀ w, (Op.stringOp .add (S.extract 0 (I : Int).toNat) (⟨#[UInt8.ofNat (c : Int).toNat]⟩ : ByteArray)).run Tryd.prog w = .ok (.string T1) w) (hadd2 : ∀ w, (Op.stringOp .add T1 (S.extract (I + 1 : Int).toNat 10)).run Tryd.prog w = .ok (.string T) w) (i0 : 0 ≤ I ∧ I < 10) (ie : I = 7) (hc : (c != 45) = true) :
    Calls Tryd.prog 6 #[.agg #[.int .u16 y, .int .u8 m, .int .u8 d, .int .u8 k, .int .u8 c]] w fun e w' => e = .returned (.bool true) ∧ Below w.heap.size w w' := by
  have H := (Held.start w).add (f := tabsF) hL
  clear hL
  have HP := Lib.hid hp
  have HQ := Lib.hid hq
  have HR := Lib.hid hr
  have HI := Lib.hid hI
  have p0 : 0 ≤ p ∧ p ≤ 9999 := by omega
  have q0 : 0 ≤ q ∧ q ≤ 99 := by omega
  have r0 : 0 ≤ r ∧ r ≤ 99 := by omega
  obtain ⟨L1, L2, L3, P1, P2, P3, P4⟩ := put_any p q r A B C hA hB hC
  rw [hS] at P4
  have C1 := Lib.hid (fun v => lpad_is p 4 A v p0.1 p0.2 (by decide) (by decide) hA)
  have C2 := Lib.hid (fun v => lpad_is q 2 B v q0.1 (by omega) (by decide) (by decide) hB)
  have C3 := Lib.hid (fun v => lpad_is r 2 C v r0.1 (by omega) (by decide) (by decide) hC)
  have HN := Lib.hid hn
  have HR1 := Lib.hid hR
  have HR2 := Lib.hid hR2
  have hcv : ∀ v : World, (convert 42 9 (.slice (some ⟨v.heap.size, 0, none⟩) 1 1)).run Tryd.prog ((v.alloc (.cells #[.int .u8 c] 5)).drew) = .ok (.string ⟨#[UInt8.ofNat (c : Int).toNat]⟩) ((v.alloc (.cells #[.int .u8 c] 5)).drew) := fun v => one_byte v.drew c (by omega)
  clear hp hq hr hI hA hB hC hS hn hR hR2
  have EI := Lib.hid ie
  clear ie
  go_enter Tryd.func6, Tryd.ntmps6
  go_wp2_with fail
  replace H := (H.alloc (.cells #[.int .u16 y, .int .u8 m, .int .u8 d, .int .u8 k, .int .u8 c] 37))
  (with_reducible refine (ishown_any _ (H.tabs (List.Mem.head _))).mono ?_)
  rintro e w1 ⟨rfl, hb⟩
  replace H := H.below hb
  clear hb
  go_wp2_with fail
  rw [HP.out, HQ.out, HR.out]
  (with_reducible refine (C1.out _).mono ?_)
  rintro e w2 ⟨rfl, hb⟩
  replace H := H.below hb
  clear hb
  go_wp2_with fail
  (with_reducible refine (C2.out _).mono ?_)
  rintro e w3 ⟨rfl, hb⟩
  replace H := H.below hb
  clear hb
  go_wp2_with fail
  (with_reducible refine (C3.out _).mono ?_)
  rintro e w4 ⟨rfl, hb⟩
  replace H := H.below hb
  clear hb
  go_wp2_with fail
  (with_reducible refine (HR1.out _ (H.tabs (List.Mem.head _))).mono ?_)
  rintro e w5 ⟨rfl, hb⟩
  replace H := H.below hb
  clear hb
  go_wp2_with fail
  (with_reducible refine (rnumber_is p q r n 0 _ HN.out).mono ?_)
  rintro e w6 ⟨rfl, hb⟩
  replace H := H.below hb
  clear hb
  go_wp2_with fail
  rw [HI.out]
  go_region
  all_goals go_wp2_with fail
  replace H := (H.alloc (.cells #[.int .u8 c] 5)).drew
  (with_reducible refine (HR2.out _ (H.tabs (List.Mem.head _))).mono ?_)
  rintro e w7 ⟨rfl, hb⟩
  replace H := H.below hb
  clear hb
  have ie := EI.out
  subst ie
  go_wp2_with fail
  all_goals (go_ret; exact ⟨rfl, H.old⟩)

set_option maxHeartbeats 4000000 in
set_option maxRecDepth 100000 in
theorem iparts_07gsame (y m d k c p q r n I x f : Int) (A B C : List UInt8) (S T T1 : ByteArray) (w : World) (hL : Tabs w) (by0 : 0 ≤ y ∧ y < 65536) (bm0 : 0 ≤ m ∧ m < 256) (bd0 : 0 ≤ d ∧ d < 256) (bk0 : 0 ≤ k ∧ k < 256) (bc0 : 0 ≤ c ∧ c < 256) (hp : y % 10000 = p) (hq : m % 100 = q) (hr : d % 100 = r) (hI : k % 10 = I) (hA : digs p 4 = A) (hB : digs q 2 = B) (hC : digs r 2 = C) (hS : (⟨(txt p q r).toArray⟩ : ByteArray) = S) (hz : S.size = 10)
    (hn : nN p q r = n ∧ nE p q r = 0) (hR : ∀ v, Tabs v → Calls Tryd.prog 11 #[.string S] v fun e' w' => e' = .returned (.tuple #[.int .i64 n, .int .i64 0]) ∧ Below v.heap.size v w')
    (hR2 : ∀ v, Tabs v → Calls Tryd.prog 11 #[.string T] v fun e' w' => e' = .returned (.tuple #[.int .i64 x, .int .i64 f]) ∧ Below v.heap.size v w')
    (hadd1 : ∀ w, (Op.stringOp .add (S.extract 0 (I : Int).toNat) (⟨#[UInt8.ofNat (c : Int).toNat]⟩ : ByteArray)).run Tryd.prog w = .ok (.string T1) w) (hadd2 : ∀ w, (Op.stringOp .add T1 (S.extract (I + 1 : Int).toNat 10)).run Tryd.prog w = .ok (.string T) w) (i0 : 0 ≤ I ∧ I < 10) (ie : I = 7) (hc : c = 45) (ht : (T.toList == S.toList) = true) (hf : f = 0 ∨ f = 3) :
    Calls Tryd.prog 6 #[.agg #[.int .u16 y, .int .u8 m, .int .u8 d, .int .u8 k, .int .u8 c]] w fun e w' => e = .returned (.bool true) ∧ Below w.heap.size w w' := by
  have H := (Held.start w).add (f := tabsF) hL
  clear hL
  have HP := Lib.hid hp
  have HQ := Lib.hid hq
  have HR := Lib.hid hr
  have HI := Lib.hid hI
  have p0 : 0 ≤ p ∧ p ≤ 9999 := by omega
  have q0 : 0 ≤ q ∧ q ≤ 99 := by omega
  have r0 : 0 ≤ r ∧ r ≤ 99 := by omega
  obtain ⟨L1, L2, L3, P1, P2, P3, P4⟩ := put_any p q r A B C hA hB hC
  rw [hS] at P4
  have C1 := Lib.hid (fun v => lpad_is p 4 A v p0.1 p0.2 (by decide) (by decide) hA)
  have C2 := Lib.hid (fun v => lpad_is q 2 B v q0.1 (by omega) (by decide) (by decide) hB)
  have C3 := Lib.hid (fun v => lpad_is r 2 C v r0.1 (by omega) (by decide) (by decide) hC)
  have HN := Lib.hid hn
  have HR1 := Lib.hid hR
  have HR2 := Lib.hid hR2
  have hcv : ∀ v : World, (convert 42 9 (.slice (some ⟨v.heap.size, 0, none⟩) 1 1)).run Tryd.prog ((v.alloc (.cells #[.int .u8 c] 5)).drew) = .ok (.string ⟨#[UInt8.ofNat (c : Int).toNat]⟩) ((v.alloc (.cells #[.int .u8 c] 5)).drew) := fun v => one_byte v.drew c (by omega)
  clear hp hq hr hI hA hB hC hS hn hR hR2
  have t9 : (f != 10) = true := by rcases hf with rfl | rfl <;> decide
  have EI := Lib.hid ie
  clear ie
  have EC := Lib.hid hc
  clear hc
  go_enter Tryd.func6, Tryd.ntmps6
  go_wp2_with fail
  replace H := (H.alloc (.cells #[.int .u16 y, .int .u8 m, .int .u8 d, .int .u8 k, .int .u8 c] 37))
  (with_reducible refine (ishown_any _ (H.tabs (List.Mem.head _))).mono ?_)
  rintro e w1 ⟨rfl, hb⟩
  replace H := H.below hb
  clear hb
  go_wp2_with fail
  rw [HP.out, HQ.out, HR.out]
  (with_reducible refine (C1.out _).mono ?_)
  rintro e w2 ⟨rfl, hb⟩
  replace H := H.below hb
  clear hb
  go_wp2_with fail
  (with_reducible refine (C2.out _).mono ?_)
  rintro e w3 ⟨rfl, hb⟩
  replace H := H.below hb
  clear hb
  go_wp2_with fail
  (with_reducible refine (C3.out _).mono ?_)
  rintro e w4 ⟨rfl, hb⟩
  replace H := H.below hb
  clear hb
  go_wp2_with fail
  (with_reducible refine (HR1.out _ (H.tabs (List.Mem.head _))).mono ?_)
  rintro e w5 ⟨rfl, hb⟩
  replace H := H.below hb
  clear hb
  go_wp2_with fail
  (with_reducible refine (rnumber_is p q r n 0 _ HN.out).mono ?_)
  rintro e w6 ⟨rfl, hb⟩
  replace H := H.below hb
  clear hb
  go_wp2_with fail
  rw [HI.out]
  go_region
  all_goals go_wp2_with fail
  replace H := (H.alloc (.cells #[.int .u8 c] 5)).drew
  (with_reducible refine (HR2.out _ (H.tabs (List.Mem.head _))).mono ?_)
  rintro e w7 ⟨rfl, hb⟩
  replace H := H.below hb
  clear hb
  have ie := EI.out
  subst ie
  have hc := EC.out
  subst hc
  go_wp2_with fail
  all_goals (go_ret; exact ⟨rfl, H.old⟩)

set_option maxHeartbeats 4000000 in
set_option maxRecDepth 100000 in
theorem iparts_07gno (y m d k c p q r n I x : Int) (A B C : List UInt8) (S T T1 : ByteArray) (w : World) (hL : Tabs w) (by0 : 0 ≤ y ∧ y < 65536) (bm0 : 0 ≤ m ∧ m < 256) (bd0 : 0 ≤ d ∧ d < 256) (bk0 : 0 ≤ k ∧ k < 256) (bc0 : 0 ≤ c ∧ c < 256) (hp : y % 10000 = p) (hq : m % 100 = q) (hr : d % 100 = r) (hI : k % 10 = I) (hA : digs p 4 = A) (hB : digs q 2 = B) (hC : digs r 2 = C) (hS : (⟨(txt p q r).toArray⟩ : ByteArray) = S) (hz : S.size = 10)
    (hn : nN p q r = n ∧ nE p q r = 0) (hR : ∀ v, Tabs v → Calls Tryd.prog 11 #[.string S] v fun e' w' => e' = .returned (.tuple #[.int .i64 n, .int .i64 0]) ∧ Below v.heap.size v w')
    (hR2 : ∀ v, Tabs v → Calls Tryd.prog 11 #[.string T] v fun e' w' => e' = .returned (.tuple #[.int .i64 x, .int .i64 3]) ∧ Below v.heap.size v w')
    (hadd1 : ∀ w, (Op.stringOp .add (S.extract 0 (I : Int).toNat) (⟨#[UInt8.ofNat (c : Int).toNat]⟩ : ByteArray)).run Tryd.prog w = .ok (.string T1) w) (hadd2 : ∀ w, (Op.stringOp .add T1 (S.extract (I + 1 : Int).toNat 10)).run Tryd.prog w = .ok (.string T) w) (i0 : 0 ≤ I ∧ I < 10) (ie : I = 7) (hc : c = 45) (ht : (T.toList == S.toList) = false) :
    Calls Tryd.prog 6 #[.agg #[.int .u16 y, .int .u8 m, .int .u8 d, .int .u8 k, .int .u8 c]] w fun e w' => e = .returned (.bool true) ∧ Below w.heap.size w w' := by
  have H := (Held.start w).add (f := tabsF) hL
  clear hL
  have HP := Lib.hid hp
  have HQ := Lib.hid hq
  have HR := Lib.hid hr
  have HI := Lib.hid hI
  have p0 : 0 ≤ p ∧ p ≤ 9999 := by omega
  have q0 : 0 ≤ q ∧ q ≤ 99 := by omega
  have r0 : 0 ≤ r ∧ r ≤ 99 := by omega
  obtain ⟨L1, L2, L3, P1, P2, P3, P4⟩ := put_any p q r A B C hA hB hC
  rw [hS] at P4
  have C1 := Lib.hid (fun v => lpad_is p 4 A v p0.1 p0.2 (by decide) (by decide) hA)
  have C2 := Lib.hid (fun v => lpad_is q 2 B v q0.1 (by omega) (by decide) (by decide) hB)
  have C3 := Lib.hid (fun v => lpad_is r 2 C v r0.1 (by omega) (by decide) (by decide) hC)
  have HN := Lib.hid hn
  have HR1 := Lib.hid hR
  have HR2 := Lib.hid hR2
  have hcv : ∀ v : World, (convert 42 9 (.slice (some ⟨v.heap.size, 0, none⟩) 1 1)).run Tryd.prog ((v.alloc (.cells #[.int .u8 c] 5)).drew) = .ok (.string ⟨#[UInt8.ofNat (c : Int).toNat]⟩) ((v.alloc (.cells #[.int .u8 c] 5)).drew) := fun v => one_byte v.drew c (by omega)
  clear hp hq hr hI hA hB hC hS hn hR hR2
  have EI := Lib.hid ie
  clear ie
  have EC := Lib.hid hc
  clear hc
  go_enter Tryd.func6, Tryd.ntmps6
  go_wp2_with fail
  replace H := (H.alloc (.cells #[.int .u16 y, .int .u8 m, .int .u8 d, .int .u8 k, .int .u8 c] 37))
  (with_reducible refine (ishown_any _ (H.tabs (List.Mem.head _))).mono ?_)
  rintro e w1 ⟨rfl, hb⟩
  replace H := H.below hb
  clear hb
  go_wp2_with fail
  rw [HP.out, HQ.out, HR.out]
  (with_reducible refine (C1.out _).mono ?_)
  rintro e w2 ⟨rfl, hb⟩
  replace H := H.below hb
  clear hb
  go_wp2_with fail
  (with_reducible refine (C2.out _).mono ?_)
  rintro e w3 ⟨rfl, hb⟩
  replace H := H.below hb
  clear hb
  go_wp2_with fail
  (with_reducible refine (C3.out _).mono ?_)
  rintro e w4 ⟨rfl, hb⟩
  replace H := H.below hb
  clear hb
  go_wp2_with fail
  (with_reducible refine (HR1.out _ (H.tabs (List.Mem.head _))).mono ?_)
  rintro e w5 ⟨rfl, hb⟩
  replace H := H.below hb
  clear hb
  go_wp2_with fail
  (with_reducible refine (rnumber_is p q r n 0 _ HN.out).mono ?_)
  rintro e w6 ⟨rfl, hb⟩
  replace H := H.below hb
  clear hb
  go_wp2_with fail
  rw [HI.out]
  go_region
  all_goals go_wp2_with fail
  replace H := (H.alloc (.cells #[.int .u8 c] 5)).drew
  (with_reducible refine (HR2.out _ (H.tabs (List.Mem.head _))).mono ?_)
  rintro e w7 ⟨rfl, hb⟩
  replace H := H.below hb
  clear hb
  have ie := EI.out
  subst ie
  have hc := EC.out
  subst hc
  go_wp2_with fail
  all_goals (go_ret; exact ⟨rfl, H.old⟩)

set_option maxHeartbeats 4000000 in
set_option maxRecDepth 100000 in
theorem iparts_07gother (y m d k c p q r n I x : Int) (A B C : List UInt8) (S T T1 : ByteArray) (w : World) (hL : Tabs w) (by0 : 0 ≤ y ∧ y < 65536) (bm0 : 0 ≤ m ∧ m < 256) (bd0 : 0 ≤ d ∧ d < 256) (bk0 : 0 ≤ k ∧ k < 256) (bc0 : 0 ≤ c ∧ c < 256) (hp : y % 10000 = p) (hq : m % 100 = q) (hr : d % 100 = r) (hI : k % 10 = I) (hA : digs p 4 = A) (hB : digs q 2 = B) (hC : digs r 2 = C) (hS : (⟨(txt p q r).toArray⟩ : ByteArray) = S) (hz : S.size = 10)
    (hn : nN p q r = n ∧ nE p q r = 0) (hR : ∀ v, Tabs v → Calls Tryd.prog 11 #[.string S] v fun e' w' => e' = .returned (.tuple #[.int .i64 n, .int .i64 0]) ∧ Below v.heap.size v w')
    (hR2 : ∀ v, Tabs v → Calls Tryd.prog 11 #[.string T] v fun e' w' => e' = .returned (.tuple #[.int .i64 x, .int .i64 0]) ∧ Below v.heap.size v w')
    (hadd1 : ∀ w, (Op.stringOp .add (S.extract 0 (I : Int).toNat) (⟨#[UInt8.ofNat (c : Int).toNat]⟩ : ByteArray)).run Tryd.prog w = .ok (.string T1) w) (hadd2 : ∀ w, (Op.stringOp .add T1 (S.extract (I + 1 : Int).toNat 10)).run Tryd.prog w = .ok (.string T) w) (i0 : 0 ≤ I ∧ I < 10) (ie : I = 7) (hc : c = 45) (ht : (T.toList == S.toList) = false) (hx : (x != n) = true) :
    Calls Tryd.prog 6 #[.agg #[.int .u16 y, .int .u8 m, .int .u8 d, .int .u8 k, .int .u8 c]] w fun e w' => e = .returned (.bool true) ∧ Below w.heap.size w w' := by
  have H := (Held.start w).add (f := tabsF) hL
  clear hL
  have HP := Lib.hid hp
  have HQ := Lib.hid hq
  have HR := Lib.hid hr
  have HI := Lib.hid hI
  have p0 : 0 ≤ p ∧ p ≤ 9999 := by omega
  have q0 : 0 ≤ q ∧ q ≤ 99 := by omega
  have r0 : 0 ≤ r ∧ r ≤ 99 := by omega
  obtain ⟨L1, L2, L3, P1, P2, P3, P4⟩ := put_any p q r A B C hA hB hC
  rw [hS] at P4
  have C1 := Lib.hid (fun v => lpad_is p 4 A v p0.1 p0.2 (by decide) (by decide) hA)
  have C2 := Lib.hid (fun v => lpad_is q 2 B v q0.1 (by omega) (by decide) (by decide) hB)
  have C3 := Lib.hid (fun v => lpad_is r 2 C v r0.1 (by omega) (by decide) (by decide) hC)
  have HN := Lib.hid hn
  have HR1 := Lib.hid hR
  have HR2 := Lib.hid hR2
  have hcv : ∀ v : World, (convert 42 9 (.slice (some ⟨v.heap.size, 0, none⟩) 1 1)).run Tryd.prog ((v.alloc (.cells #[.int .u8 c] 5)).drew) = .ok (.string ⟨#[UInt8.ofNat (c : Int).toNat]⟩) ((v.alloc (.cells #[.int .u8 c] 5)).drew) := fun v => one_byte v.drew c (by omega)
  clear hp hq hr hI hA hB hC hS hn hR hR2
  have EI := Lib.hid ie
  clear ie
  have EC := Lib.hid hc
  clear hc
  go_enter Tryd.func6, Tryd.ntmps6
  go_wp2_with fail
  replace H := (H.alloc (.cells #[.int .u16 y, .int .u8 m, .int .u8 d, .int .u8 k, .int .u8 c] 37))
  (with_reducible refine (ishown_any _ (H.tabs (List.Mem.head _))).mono ?_)
  rintro e w1 ⟨rfl, hb⟩
  replace H := H.below hb
  clear hb
  go_wp2_with fail
  rw [HP.out, HQ.out, HR.out]
  (with_reducible refine (C1.out _).mono ?_)
  rintro e w2 ⟨rfl, hb⟩
  replace H := H.below hb
  clear hb
  go_wp2_with fail
  (with_reducible refine (C2.out _).mono ?_)
  rintro e w3 ⟨rfl, hb⟩
  replace H := H.below hb
  clear hb
  go_wp2_with fail
  (with_reducible refine (C3.out _).mono ?_)
  rintro e w4 ⟨rfl, hb⟩
  replace H := H.below hb
  clear hb
  go_wp2_with fail
  (with_reducible refine (HR1.out _ (H.tabs (List.Mem.head _))).mono ?_)
  rintro e w5 ⟨rfl, hb⟩
  replace H := H.below hb
  clear hb
  go_wp2_with fail
  (with_reducible refine (rnumber_is p q r n 0 _ HN.out).mono ?_)
  rintro e w6 ⟨rfl, hb⟩
  replace H := H.below hb
  clear hb
  go_wp2_with fail
  rw [HI.out]
  go_region
  all_goals go_wp2_with fail
  replace H := (H.alloc (.cells #[.int .u8 c] 5)).drew
  (with_reducible refine (HR2.out _ (H.tabs (List.Mem.head _))).mono ?_)
  rintro e w7 ⟨rfl, hb⟩
  replace H := H.below hb
  clear hb
  have ie := EI.out
  subst ie
  have hc := EC.out
  subst hc
  go_wp2_with fail
  all_goals (go_ret; exact ⟨rfl, H.old⟩)

set_option maxHeartbeats 4000000 in
set_option maxRecDepth 100000 in
theorem iparts_0oblo (y m d k c p q r n I : Int) (A B C : List UInt8) (S T T1 : ByteArray) (w : World) (hL : Tabs w) (by0 : 0 ≤ y ∧ y < 65536) (bm0 : 0 ≤ m ∧ m < 256) (bd0 : 0 ≤ d ∧ d < 256) (bk0 : 0 ≤ k ∧ k < 256) (bc0 : 0 ≤ c ∧ c < 256) (hp : y % 10000 = p) (hq : m % 100 = q) (hr : d % 100 = r) (hI : k % 10 = I) (hA : digs p 4 = A) (hB : digs q 2 = B) (hC : digs r 2 = C) (hS : (⟨(txt p q r).toArray⟩ : ByteArray) = S) (hz : S.size = 10)
    (hn : nN p q r = n ∧ nE p q r = 0) (hR : ∀ v, Tabs v → Calls Tryd.prog 11 #[.string S] v fun e' w' => e' = .returned (.tuple #[.int .i64 n, .int .i64 0]) ∧ Below v.heap.size v w')
    (hR2 : ∀ v, Tabs v → Calls Tryd.prog 11 #[.string T] v fun e' w' => e' = .returned (.tuple #[.int .i64 0, .int .i64 10]) ∧ Below v.heap.size v w')
    (hadd1 : ∀ w, (Op.stringOp .add (S.extract 0 (I : Int).toNat) (⟨#[UInt8.ofNat (c : Int).toNat]⟩ : ByteArray)).run Tryd.prog w = .ok (.string T1) w) (hadd2 : ∀ w, (Op.stringOp .add T1 (S.extract (I + 1 : Int).toNat 10)).run Tryd.prog w = .ok (.string T) w) (i0 : 0 ≤ I ∧ I < 10) (i4 : I ≠ 4) (i7 : I ≠ 7) (hc : c < 48) :
    Calls Tryd.prog 6 #[.agg #[.int .u16 y, .int .u8 m, .int .u8 d, .int .u8 k, .int .u8 c]] w fun e w' => e = .returned (.bool true) ∧ Below w.heap.size w w' := by
  have H := (Held.start w).add (f := tabsF) hL
  clear hL
  have HP := Lib.hid hp
  have HQ := Lib.hid hq
  have HR := Lib.hid hr
  have HI := Lib.hid hI
  have p0 : 0 ≤ p ∧ p ≤ 9999 := by omega
  have q0 : 0 ≤ q ∧ q ≤ 99 := by omega
  have r0 : 0 ≤ r ∧ r ≤ 99 := by omega
  obtain ⟨L1, L2, L3, P1, P2, P3, P4⟩ := put_any p q r A B C hA hB hC
  rw [hS] at P4
  have C1 := Lib.hid (fun v => lpad_is p 4 A v p0.1 p0.2 (by decide) (by decide) hA)
  have C2 := Lib.hid (fun v => lpad_is q 2 B v q0.1 (by omega) (by decide) (by decide) hB)
  have C3 := Lib.hid (fun v => lpad_is r 2 C v r0.1 (by omega) (by decide) (by decide) hC)
  have HN := Lib.hid hn
  have HR1 := Lib.hid hR
  have HR2 := Lib.hid hR2
  have hcv : ∀ v : World, (convert 42 9 (.slice (some ⟨v.heap.size, 0, none⟩) 1 1)).run Tryd.prog ((v.alloc (.cells #[.int .u8 c] 5)).drew) = .ok (.string ⟨#[UInt8.ofNat (c : Int).toNat]⟩) ((v.alloc (.cells #[.int .u8 c] 5)).drew) := fun v => one_byte v.drew c (by omega)
  clear hp hq hr hI hA hB hC hS hn hR hR2
  have j4 : (I == 4) = false := beq_eq_false_iff_ne.2 i4
  have j7 : (I == 7) = false := beq_eq_false_iff_ne.2 i7
  have k4 : (I != 4) = true := by simpa using i4
  have k7 : (I != 7) = true := by simpa using i7
  go_enter Tryd.func6, Tryd.ntmps6
  go_wp2_with fail
  replace H := (H.alloc (.cells #[.int .u16 y, .int .u8 m, .int .u8 d, .int .u8 k, .int .u8 c] 37))
  (with_reducible refine (ishown_any _ (H.tabs (List.Mem.head _))).mono ?_)
  rintro e w1 ⟨rfl, hb⟩
  replace H := H.below hb
  clear hb
  go_wp2_with fail
  rw [HP.out, HQ.out, HR.out]
  (with_reducible refine (C1.out _).mono ?_)
  rintro e w2 ⟨rfl, hb⟩
  replace H := H.below hb
  clear hb
  go_wp2_with fail
  (with_reducible refine (C2.out _).mono ?_)
  rintro e w3 ⟨rfl, hb⟩
  replace H := H.below hb
  clear hb
  go_wp2_with fail
  (with_reducible refine (C3.out _).mono ?_)
  rintro e w4 ⟨rfl, hb⟩
  replace H := H.below hb
  clear hb
  go_wp2_with fail
  (with_reducible refine (HR1.out _ (H.tabs (List.Mem.head _))).mono ?_)
  rintro e w5 ⟨rfl, hb⟩
  replace H := H.below hb
  clear hb
  go_wp2_with fail
  (with_reducible refine (rnumber_is p q r n 0 _ HN.out).mono ?_)
  rintro e w6 ⟨rfl, hb⟩
  replace H := H.below hb
  clear hb
  go_wp2_with fail
  rw [HI.out]
  go_region
  all_goals go_wp2_with fail
  replace H := (H.alloc (.cells #[.int .u8 c] 5)).drew
  (with_reducible refine (HR2.out _ (H.tabs (List.Mem.head _))).mono ?_)
  rintro e w7 ⟨rfl, hb⟩
  replace H := H.below hb
  clear hb
  go_wp2_with fail
  all_goals (go_ret; exact ⟨rfl, H.old⟩)

set_option maxHeartbeats 4000000 in
set_option maxRecDepth 100000 in
theorem iparts_0obhi (y m d k c p q r n I : Int) (A B C : List UInt8) (S T T1 : ByteArray) (w : World) (hL : Tabs w) (by0 : 0 ≤ y ∧ y < 65536) (bm0 : 0 ≤ m ∧ m < 256) (bd0 : 0 ≤ d ∧ d < 256) (bk0 : 0 ≤ k ∧ k < 256) (bc0 : 0 ≤ c ∧ c < 256) (hp : y % 10000 = p) (hq : m % 100 = q) (hr : d % 100 = r) (hI : k % 10 = I) (hA : digs p 4 = A) (hB : digs q 2 = B) (hC : digs r 2 = C) (hS : (⟨(txt p q r).toArray⟩ : ByteArray) = S) (hz : S.size = 10)
    (hn : nN p q r = n ∧ nE p q r = 0) (hR : ∀ v, Tabs v → Calls Tryd.prog 11 #[.string S] v fun e' w' => e' = .returned (.tuple #[.int .i64 n, .int .i64 0]) ∧ Below v.heap.size v w')
    (hR2 : ∀ v, Tabs v → Calls Tryd.prog 11 #[.string T] v fun e' w' => e' = .returned (.tuple #[.int .i64 0, .int .i64 10]) ∧ Below v.heap.size v w')
    (hadd1 : ∀ w, (Op.stringOp .add (S.extract 0 (I : Int).toNat) (⟨#[UInt8.ofNat (c : Int).toNat]⟩ : ByteArray)).run Tryd.prog w = .ok (.string T1) w) (hadd2 : ∀ w, (Op.stringOp .add T1 (S.extract (I + 1 : Int).toNat 10)).run Tryd.prog w = .ok (.string T) w) (i0 : 0 ≤ I ∧ I < 10) (i4 : I ≠ 4) (i7 : I ≠ 7) (hc : c > 57) :
    Calls Tryd.prog 6 #[.agg #[.int .u16 y, .int .u8 m, .int .u8 d, .int .u8 k, .int .u8 c]] w fun e w' => e = .returned (.bool true) ∧ Below w.heap.size w w' := by
  have H := (Held.start w).add (f := tabsF) hL
  clear hL
  have HP := Lib.hid hp
  have HQ := Lib.hid hq
  have HR := Lib.hid hr
  have HI := Lib.hid hI
  have p0 : 0 ≤ p ∧ p ≤ 9999 := by omega
  have q0 : 0 ≤ q ∧ q ≤ 99 := by omega
  have r0 : 0 ≤ r ∧ r ≤ 99 := by omega
  obtain ⟨L1, L2, L3, P1, P2, P3, P4⟩ := put_any p q r A B C hA hB hC
  rw [hS] at P4
  have C1 := Lib.hid (fun v => lpad_is p 4 A v p0.1 p0.2 (by decide) (by decide) hA)
  have C2 := Lib.hid (fun v => lpad_is q 2 B v q0.1 (by omega) (by decide) (by decide) hB)
  have C3 := Lib.hid (fun v => lpad_is r 2 C v r0.1 (by omega) (by decide) (by decide) hC)
  have HN := Lib.hid hn
  have HR1 := Lib.hid hR
  have HR2 := Lib.hid hR2
  have hcv : ∀ v : World, (convert 42 9 (.slice (some ⟨v.heap.size, 0, none⟩) 1 1)).run Tryd.prog ((v.alloc (.cells #[.int .u8 c] 5)).drew) = .ok (.string ⟨#[UInt8.ofNat (c : Int).toNat]⟩) ((v.alloc (.cells #[.int .u8 c] 5)).drew) := fun v => one_byte v.drew c (by omega)
  clear hp hq hr hI hA hB hC hS hn hR hR2
  have j4 : (I == 4) = false := beq_eq_false_iff_ne.2 i4
  have j7 : (I == 7) = false := beq_eq_false_iff_ne.2 i7
  have k4 : (I != 4) = true := by simpa using i4
  have k7 : (I != 7) = true := by simpa using i7
  have t6 : decide (c ≤ 57) = false := decide_eq_false (by omega)
  have t8 : decide (48 ≤ c) = true := decide_eq_true (by omega)
  clear hc
  go_enter Tryd.func6, Tryd.ntmps6
  go_wp2_with fail
  replace H := (H.alloc (.cells #[.int .u16 y, .int .u8 m, .int .u8 d, .int .u8 k, .int .u8 c] 37))
  (with_reducible refine (ishown_any _ (H.tabs (List.Mem.head _))).mono ?_)
  rintro e w1 ⟨rfl, hb⟩
  replace H := H.below hb
  clear hb
  go_wp2_with fail
  rw [HP.out, HQ.out, HR.out]
  (with_reducible refine (C1.out _).mono ?_)
  rintro e w2 ⟨rfl, hb⟩
  replace H := H.below hb
  clear hb
  go_wp2_with fail
  (with_reducible refine (C2.out _).mono ?_)
  rintro e w3 ⟨rfl, hb⟩
  replace H := H.below hb
  clear hb
  go_wp2_with fail
  (with_reducible refine (C3.out _).mono ?_)
  rintro e w4 ⟨rfl, hb⟩
  replace H := H.below hb
  clear hb
  go_wp2_with fail
  (with_reducible refine (HR1.out _ (H.tabs (List.Mem.head _))).mono ?_)
  rintro e w5 ⟨rfl, hb⟩
  replace H := H.below hb
  clear hb
  go_wp2_with fail
  (with_reducible refine (rnumber_is p q r n 0 _ HN.out).mono ?_)
  rintro e w6 ⟨rfl, hb⟩
  replace H := H.below hb
  clear hb
  go_wp2_with fail
  rw [HI.out]
  go_region
  all_goals go_wp2_with fail
  replace H := (H.alloc (.cells #[.int .u8 c] 5)).drew
  (with_reducible refine (HR2.out _ (H.tabs (List.Mem.head _))).mono ?_)
  rintro e w7 ⟨rfl, hb⟩
  replace H := H.below hb
  clear hb
  go_wp2_with fail
  all_goals (go_ret; exact ⟨rfl, H.old⟩)

set_option maxHeartbeats 4000000 in
set_option maxRecDepth 100000 in
theorem iparts_0ogsame (y m d k c p q r n I x f : Int) (A B C : List UInt8) (S T T1 : ByteArray) (w : World) (hL : Tabs w) (by0 : 0 ≤ y ∧ y < 65536) (bm0 : 0 ≤ m ∧ m < 256) (bd0 : 0 ≤ d ∧ d < 256) (bk0 : 0 ≤ k ∧ k < 256) (bc0 : 0 ≤ c ∧ c < 256) (hp : y % 10000 = p) (hq : m % 100 = q) (hr : d % 100 = r) (hI : k % 10 = I) (hA : digs p 4 = A) (hB : digs q 2 = B) (hC : digs r 2 = C) (hS : (⟨(txt p q r).toArray⟩ : ByteArray) = S) (hz : S.size = 10)
    (hn : nN p q r = n ∧ nE p q r = 0) (hR : ∀ v, Tabs v → Calls Tryd.prog 11 #[.string S] v fun e' w' => e' = .returned (.tuple #[.int .i64 n, .int .i64 0]) ∧ Below v.heap.size v w')
    (hR2 : ∀ v, Tabs v → Calls Tryd.prog 11 #[.string T] v fun e' w' => e' = .returned (.tuple #[.int .i64 x, .int .i64 f]) ∧ Below v.heap.size v w')
    (hadd1 : ∀ w, (Op.stringOp .add (S.extract 0 (I : Int).toNat) (⟨#[UInt8.ofNat (c : Int).toNat]⟩ : ByteArray)).run Tryd.prog w = .ok (.string T1) w) (hadd2 : ∀ w, (Op.stringOp .add T1 (S.extract (I + 1 : Int).toNat 10)).run Tryd.prog w = .ok (.string T) w) (i0 : 0 ≤ I ∧ I < 10) (i4 : I ≠ 4) (i7 : I ≠ 7) (hc : 48 ≤ c ∧ c ≤ 57) (ht : (T.toList == S.toList) = true) (hf : f = 0 ∨ f = 3) :
    Calls Tryd.prog 6 #[.agg #[.int .u16 y, .int .u8 m, .int .u8 d, .int .u8 k, .int .u8 c]] w fun e w' => e = .returned (.bool true) ∧ Below w.heap.size w w' := by
  have H := (Held.start w).add (f := tabsF) hL
  clear hL
  have HP := Lib.hid hp
  have HQ := Lib.hid hq
  have HR := Lib.hid hr
  have HI := Lib.hid hI
  have p0 : 0 ≤ p ∧ p ≤ 9999 := by omega
  have q0 : 0 ≤ q ∧ q ≤ 99 := by omega
  have r0 : 0 ≤ r ∧ r ≤ 99 := by omega
  obtain ⟨L1, L2, L3, P1, P2, P3, P4⟩ := put_any p q r A B C hA hB hC
  rw [hS] at P4
  have C1 := Lib.hid (fun v => lpad_is p 4 A v p0.1 p0.2 (by decide) (by decide) hA)
  have C2 := Lib.hid (fun v => lpad_is q 2 B v q0.1 (by omega) (by decide) (by decide) hB)
  have C3 := Lib.hid (fun v => lpad_is r 2 C v r0.1 (by omega) (by decide) (by decide) hC)
  have HN := Lib.hid hn
  have HR1 := Lib.hid hR
  have HR2 := Lib.hid hR2
  have hcv : ∀ v : World, (convert 42 9 (.slice (some ⟨v.heap.size, 0, none⟩) 1 1)).run Tryd.prog ((v.alloc (.cells #[.int .u8 c] 5)).drew) = .ok (.string ⟨#[UInt8.ofNat (c : Int).toNat]⟩) ((v.alloc (.cells #[.int .u8 c] 5)).drew) := fun v => one_byte v.drew c (by omega)
  clear hp hq hr hI hA hB hC hS hn hR hR2
  have t9 : (f != 10) = true := by rcases hf with rfl | rfl <;> decide
  have j4 : (I == 4) = false := beq_eq_false_iff_ne.2 i4
  have j7 : (I == 7) = false := beq_eq_false_iff_ne.2 i7
  have k4 : (I != 4) = true := by simpa using i4
  have k7 : (I != 7) = true := by simpa using i7
  go_enter Tryd.func6, Tryd.ntmps6
  go_wp2_with fail
  replace H := (H.alloc (.cells #[.int .u16 y, .int .u8 m, .int .u8 d, .int .u8 k, .int .u8 c] 37))
  (with_reducible refine (ishown_any _ (H.tabs (List.Mem.head _))).mono ?_)
  rintro e w1 ⟨rfl, hb⟩
  replace H := H.below hb
  clear hb
  go_wp2_with fail
  rw [HP.out, HQ.out, HR.out]
  (with_reducible refine (C1.out _).mono ?_)
  rintro e w2 ⟨rfl, hb⟩
  replace H := H.below hb
  clear hb
  go_wp2_with fail
  (with_reducible refine (C2.out _).mono ?_)
  rintro e w3 ⟨rfl, hb⟩
  replace H := H.below hb
  clear hb
  go_wp2_with fail
  (with_reducible refine (C3.out _).mono ?_)
  rintro e w4 ⟨rfl, hb⟩
  replace H := H.below hb
  clear hb
  go_wp2_with fail
  (with_reducible refine (HR1.out _ (H.tabs (List.Mem.head _))).mono ?_)
  rintro e w5 ⟨rfl, hb⟩
  replace H := H.below hb
  clear hb
  go_wp2_with fail
  (with_reducible refine (rnumber_is p q r n 0 _ HN.out).mono ?_)
  rintro e w6 ⟨rfl, hb⟩
  replace H := H.below hb
  clear hb
  go_wp2_with fail
  rw [HI.out]
  go_region
  all_goals go_wp2_with fail
  replace H := (H.alloc (.cells #[.int .u8 c] 5)).drew
  (with_reducible refine (HR2.out _ (H.tabs (List.Mem.head _))).mono ?_)
  rintro e w7 ⟨rfl, hb⟩
  replace H := H.below hb
  clear hb
  go_wp2_with fail
  all_goals (go_ret; exact ⟨rfl, H.old⟩)

set_option maxHeartbeats 4000000 in
set_option maxRecDepth 100000 in
theorem iparts_0ogno (y m d k c p q r n I x : Int) (A B C : List UInt8) (S T T1 : ByteArray) (w : World) (hL : Tabs w) (by0 : 0 ≤ y ∧ y < 65536) (bm0 : 0 ≤ m ∧ m < 256) (bd0 : 0 ≤ d ∧ d < 256) (bk0 : 0 ≤ k ∧ k < 256) (bc0 : 0 ≤ c ∧ c < 256) (hp : y % 10000 = p) (hq : m % 100 = q) (hr : d % 100 = r) (hI : k % 10 = I) (hA : digs p 4 = A) (hB : digs q 2 = B) (hC : digs r 2 = C) (hS : (⟨(txt p q r).toArray⟩ : ByteArray) = S) (hz : S.size = 10)
    (hn : nN p q r = n ∧ nE p q r = 0) (hR : ∀ v, Tabs v → Calls Tryd.prog 11 #[.string S] v fun e' w' => e' = .returned (.tuple #[.int .i64 n, .int .i64 0]) ∧ Below v.heap.size v w')
    (hR2 : ∀ v, Tabs v → Calls Tryd.prog 11 #[.string T] v fun e' w' => e' = .returned (.tuple #[.int .i64 x, .int .i64 3]) ∧ Below v.heap.size v w')
    (hadd1 : ∀ w, (Op.stringOp .add (S.extract 0 (I : Int).toNat) (⟨#[UInt8.ofNat (c : Int).toNat]⟩ : ByteArray)).run Tryd.prog w = .ok (.string T1) w) (hadd2 : ∀ w, (Op.stringOp .add T1 (S.extract (I + 1 : Int).toNat 10)).run Tryd.prog w = .ok (.string T) w) (i0 : 0 ≤ I ∧ I < 10) (i4 : I ≠ 4) (i7 : I ≠ 7) (hc : 48 ≤ c ∧ c ≤ 57) (ht : (T.toList == S.toList) = false) :
    Calls Tryd.prog 6 #[.agg #[.int .u16 y, .int .u8 m, .int .u8 d, .int .u8 k, .int .u8 c]] w fun e w' => e = .returned (.bool true) ∧ Below w.heap.size w w' := by
  have H := (Held.start w).add (f := tabsF) hL
  clear hL
  have HP := Lib.hid hp
  have HQ := Lib.hid hq
  have HR := Lib.hid hr
  have HI := Lib.hid hI
  have p0 : 0 ≤ p ∧ p ≤ 9999 := by omega
  have q0 : 0 ≤ q ∧ q ≤ 99 := by omega
  have r0 : 0 ≤ r ∧ r ≤ 99 := by omega
  obtain ⟨L1, L2, L3, P1, P2, P3, P4⟩ := put_any p q r A B C hA hB hC
  rw [hS] at P4
  have C1 := Lib.hid (fun v => lpad_is p 4 A v p0.1 p0.2 (by decide) (by decide) hA)
  have C2 := Lib.hid (fun v => lpad_is q 2 B v q0.1 (by omega) (by decide) (by decide) hB)
  have C3 := Lib.hid (fun v => lpad_is r 2 C v r0.1 (by omega) (by decide) (by decide) hC)
  have HN := Lib.hid hn
  have HR1 := Lib.hid hR
  have HR2 := Lib.hid hR2
  have hcv : ∀ v : World, (convert 42 9 (.slice (some ⟨v.heap.size, 0, none⟩) 1 1)).run Tryd.prog ((v.alloc (.cells #[.int .u8 c] 5)).drew) = .ok (.string ⟨#[UInt8.ofNat (c : Int).toNat]⟩) ((v.alloc (.cells #[.int .u8 c] 5)).drew) := fun v => one_byte v.drew c (by omega)
  clear hp hq hr hI hA hB hC hS hn hR hR2
  have j4 : (I == 4) = false := beq_eq_false_iff_ne.2 i4
  have j7 : (I == 7) = false := beq_eq_false_iff_ne.2 i7
  have k4 : (I != 4) = true := by simpa using i4
  have k7 : (I != 7) = true := by simpa using i7
  go_enter Tryd.func6, Tryd.ntmps6
  go_wp2_with fail
  replace H := (H.alloc (.cells #[.int .u16 y, .int .u8 m, .int .u8 d, .int .u8 k, .int .u8 c] 37))
  (with_reducible refine (ishown_any _ (H.tabs (List.Mem.head _))).mono ?_)
  rintro e w1 ⟨rfl, hb⟩
  replace H := H.below hb
  clear hb
  go_wp2_with fail
  rw [HP.out, HQ.out, HR.out]
  (with_reducible refine (C1.out _).mono ?_)
  rintro e w2 ⟨rfl, hb⟩
  replace H := H.below hb
  clear hb
  go_wp2_with fail
  (with_reducible refine (C2.out _).mono ?_)
  rintro e w3 ⟨rfl, hb⟩
  replace H := H.below hb
  clear hb
  go_wp2_with fail
  (with_reducible refine (C3.out _).mono ?_)
  rintro e w4 ⟨rfl, hb⟩
  replace H := H.below hb
  clear hb
  go_wp2_with fail
  (with_reducible refine (HR1.out _ (H.tabs (List.Mem.head _))).mono ?_)
  rintro e w5 ⟨rfl, hb⟩
  replace H := H.below hb
  clear hb
  go_wp2_with fail
  (with_reducible refine (rnumber_is p q r n 0 _ HN.out).mono ?_)
  rintro e w6 ⟨rfl, hb⟩
  replace H := H.below hb
  clear hb
  go_wp2_with fail
  rw [HI.out]
  go_region
  all_goals go_wp2_with fail
  replace H := (H.alloc (.cells #[.int .u8 c] 5)).drew
  (with_reducible refine (HR2.out _ (H.tabs (List.Mem.head _))).mono ?_)
  rintro e w7 ⟨rfl, hb⟩
  replace H := H.below hb
  clear hb
  go_wp2_with fail
  all_goals (go_ret; exact ⟨rfl, H.old⟩)

set_option maxHeartbeats 4000000 in
set_option maxRecDepth 100000 in
theorem iparts_0ogother (y m d k c p q r n I x : Int) (A B C : List UInt8) (S T T1 : ByteArray) (w : World) (hL : Tabs w) (by0 : 0 ≤ y ∧ y < 65536) (bm0 : 0 ≤ m ∧ m < 256) (bd0 : 0 ≤ d ∧ d < 256) (bk0 : 0 ≤ k ∧ k < 256) (bc0 : 0 ≤ c ∧ c < 256) (hp : y % 10000 = p) (hq : m % 100 = q) (hr : d % 100 = r) (hI : k % 10 = I) (hA : digs p 4 = A) (hB : digs q 2 = B) (hC : digs r 2 = C) (hS : (⟨(txt p q r).toArray⟩ : ByteArray) = S) (hz : S.size = 10)
    (hn : nN p q r = n ∧ nE p q r = 0) (hR : ∀ v, Tabs v → Calls Tryd.prog 11 #[.string S] v fun e' w' => e' = .returned (.tuple #[.int .i64 n, .int .i64 0]) ∧ Below v.heap.size v w')
    (hR2 : ∀ v, Tabs v → Calls Tryd.prog 11 #[.string T] v fun e' w' => e' = .returned (.tuple #[.int .i64 x, .int .i64 0]) ∧ Below v.heap.size v w')
    (hadd1 : ∀ w, (Op.stringOp .add (S.extract 0 (I : Int).toNat) (⟨#[UInt8.ofNat (c : Int).toNat]⟩ : ByteArray)).run Tryd.prog w = .ok (.string T1) w) (hadd2 : ∀ w, (Op.stringOp .add T1 (S.extract (I + 1 : Int).toNat 10)).run Tryd.prog w = .ok (.string T) w) (i0 : 0 ≤ I ∧ I < 10) (i4 : I ≠ 4) (i7 : I ≠ 7) (hc : 48 ≤ c ∧ c ≤ 57) (ht : (T.toList == S.toList) = false) (hx : (x != n) = true) :
    Calls Tryd.prog 6 #[.agg #[.int .u16 y, .int .u8 m, .int .u8 d, .int .u8 k, .int .u8 c]] w fun e w' => e = .returned (.bool true) ∧ Below w.heap.size w w' := by
  have H := (Held.start w).add (f := tabsF) hL
  clear hL
  have HP := Lib.hid hp
  have HQ := Lib.hid hq
  have HR := Lib.hid hr
  have HI := Lib.hid hI
  have p0 : 0 ≤ p ∧ p ≤ 9999 := by omega
  have q0 : 0 ≤ q ∧ q ≤ 99 := by omega
  have r0 : 0 ≤ r ∧ r ≤ 99 := by omega
  obtain ⟨L1, L2, L3, P1, P2, P3, P4⟩ := put_any p q r A B C hA hB hC
  rw [hS] at P4
  have C1 := Lib.hid (fun v => lpad_is p 4 A v p0.1 p0.2 (by decide) (by decide) hA)
  have C2 := Lib.hid (fun v => lpad_is q 2 B v q0.1 (by omega) (by decide) (by decide) hB)
  have C3 := Lib.hid (fun v => lpad_is r 2 C v r0.1 (by omega) (by decide) (by decide) hC)
  have HN := Lib.hid hn
  have HR1 := Lib.hid hR
  have HR2 := Lib.hid hR2
  have hcv : ∀ v : World, (convert 42 9 (.slice (some ⟨v.heap.size, 0, none⟩) 1 1)).run Tryd.prog ((v.alloc (.cells #[.int .u8 c] 5)).drew) = .ok (.string ⟨#[UInt8.ofNat (c : Int).toNat]⟩) ((v.alloc (.cells #[.int .u8 c] 5)).drew) := fun v => one_byte v.drew c (by omega)
  clear hp hq hr hI hA hB hC hS hn hR hR2
  have j4 : (I == 4) = false := beq_eq_false_iff_ne.2 i4
  have j7 : (I == 7) = false := beq_eq_false_iff_ne.2 i7
  have k4 : (I != 4) = true := by simpa using i4
  have k7 : (I != 7) = true := by simpa using i7
  go_enter Tryd.func6, Tryd.ntmps6
  go_wp2_with fail
  replace H := (H.alloc (.cells #[.int .u16 y, .int .u8 m, .int .u8 d, .int .u8 k, .int .u8 c] 37))
  (with_reducible refine (ishown_any _ (H.tabs (List.Mem.head _))).mono ?_)
  rintro e w1 ⟨rfl, hb⟩
  replace H := H.below hb
  clear hb
  go_wp2_with fail
  rw [HP.out, HQ.out, HR.out]
  (with_reducible refine (C1.out _).mono ?_)
  rintro e w2 ⟨rfl, hb⟩
  replace H := H.below hb
  clear hb
  go_wp2_with fail
  (with_reducible refine (C2.out _).mono ?_)
  rintro e w3 ⟨rfl, hb⟩
  replace H := H.below hb
  clear hb
  go_wp2_with fail
  (with_reducible refine (C3.out _).mono ?_)
  rintro e w4 ⟨rfl, hb⟩
  replace H := H.below hb
  clear hb
  go_wp2_with fail
  (with_reducible refine (HR1.out _ (H.tabs (List.Mem.head _))).mono ?_)
  rintro e w5 ⟨rfl, hb⟩
  replace H := H.below hb
  clear hb
  go_wp2_with fail
  (with_reducible refine (rnumber_is p q r n 0 _ HN.out).mono ?_)
  rintro e w6 ⟨rfl, hb⟩
  replace H := H.below hb
  clear hb
  go_wp2_with fail
  rw [HI.out]
  go_region
  all_goals go_wp2_with fail
  replace H := (H.alloc (.cells #[.int .u8 c] 5)).drew
  (with_reducible refine (HR2.out _ (H.tabs (List.Mem.head _))).mono ?_)
  rintro e w7 ⟨rfl, hb⟩
  replace H := H.below hb
  clear hb
  go_wp2_with fail
  all_goals (go_ret; exact ⟨rfl, H.old⟩)
end Go.Proofs.YtgdhpganognmlaaDoor
