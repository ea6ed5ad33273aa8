/- WideDivides: the walk. -/
import Derived.Test.YtcpifgoglcoeeaaHeld
import Derived.Test.YtcpifgoglcoeeaaQuot
namespace Go.Proofs.Ytcpifgoglcoeeaa
open Go.RowKit

theorem is_yes (xh xl : Int) (a : Option Addr) (k c : Nat) (n : Int) (m : Nat) (w : World) (h0 : 0 ≤ xh) (h1 : xh < 18446744073709551616) (l0 : 0 ≤ xl) (l1 : xl < 18446744073709551616) (nv : BigN w (.slice a k c) n m) (hm : m ≤ 100000) (hn : wn xh xl = n) :
    Calls Try.prog 20 #[.agg #[.int .u64 xh, .int .u64 xl], .agg #[.slice a k c]] w fun e w' => e = .returned (.bool true) ∧ Below w.heap.size w w' := by
  have := is_n xh xl a k c n m w h0 h1 l0 l1 nv hm
  rwa [decide_eq_true hn] at this
theorem cmp_same (va vb : Value) (n : Int) (a b : Nat) (w : World) (ha : BigN w va n a) (hb : BigN w vb n b) (la : a ≤ 100000) (lb : b ≤ 100000) :
    Calls Try.prog 19 #[.agg #[va], .agg #[vb]] w fun e w' => e = .returned (.int .i64 0) ∧ Below w.heap.size w w' := by
  have := cmp_n va vb n n a b w ha hb la lb
  rwa [cmpI_eq rfl] at this

set_option maxHeartbeats 4000000 in
theorem divides_none (xh xl : Int) (w : World) :
    Calls Try.prog 4 #[.agg #[.int .u64 xh, .int .u64 xl], .int .u64 0] w fun e w' => e = .returned (.bool true) ∧ Below w.heap.size w w' := by
  have H := Held.start w
  go_enter Try.func4, Try.ntmps4
  go_wp2_with fail
  (with_reducible refine (shown_any _).mono ?_)
  rintro e w1 ⟨rfl, hb⟩
  replace H := (H.box2 (.int .u64 xh) (.int .u64 xl) _).below hb
  clear hb
  have cx0 := H.cell (w.heap.size) 0 (.int .u64 xh) (List.Mem.head _)
  have cx1 := H.cell (w.heap.size) 1 (.int .u64 xl) (List.Mem.tail _ (List.Mem.head _))
  go_wp2_with fail
  clear cx0 cx1
  (with_reducible refine (div_no xh xl _).mono ?_)
  rintro e w2 ⟨rfl, hb⟩
  replace H := H.below hb
  clear hb
  go_wp2
  go_ret
  exact ⟨rfl, H.old.alloc H.old.size _⟩

set_option maxHeartbeats 20000000 in
set_option maxRecDepth 100000 in
theorem divides_some (xh xl d : Int) (w : World) (xh0 : 0 ≤ xh) (xh1 : xh < 18446744073709551616) (xl0 : 0 ≤ xl) (xl1 : xl < 18446744073709551616) (d0 : 0 < d) (d1 : d < 18446744073709551616) :
    Calls Try.prog 4 #[.agg #[.int .u64 xh, .int .u64 xl], .int .u64 d] w fun e w' => e = .returned (.bool true) ∧ Below w.heap.size w w' := by
  have H := Held.start w
  obtain ⟨X, HX⟩ : ∃ X, Hid (wn xh xl = X) := ⟨_, Lib.hid rfl⟩
  have XB := wn_bd xh xl xh0 xh1 xl0 xl1
  rw [HX.out] at XB
  obtain ⟨Q, HQ⟩ : ∃ Q, Hid (X / d = Q) := ⟨_, Lib.hid rfl⟩
  obtain ⟨R, HR⟩ : ∃ R, Hid (X % d = R) := ⟨_, Lib.hid rfl⟩
  obtain ⟨qh, ql, hq⟩ : ∃ qh ql, Hid (hi Q = qh ∧ lo Q = ql) := ⟨_, _, Lib.hid ⟨rfl, rfl⟩⟩
  have Q0 : 0 ≤ Q := by rw [← HQ.out]; exact Int.ediv_nonneg XB.1 (by omega)
  have Q1 : Q < top := by rw [← HQ.out]; exact Int.lt_of_le_of_lt (Int.ediv_le_self _ XB.1) XB.2
  have b1 := hi_bd Q Q0 Q1
  have b2 := lo_bd Q
  have R0 : 0 ≤ R := by rw [← HR.out]; exact Int.emod_nonneg _ (by omega)
  have R1 : R < d := by rw [← HR.out]; exact Int.emod_lt_of_pos _ d0
  have WQ : wn qh ql = Q := by rw [← hq.out.1, ← hq.out.2, wn_hi_lo]
  rw [hq.out.1] at b1
  rw [hq.out.2] at b2
  obtain ⟨b11, b12⟩ := b1
  obtain ⟨b21, b22⟩ := b2
  have HWQ := Lib.hid WQ
  have t1 : (d == 0) = false := beq_eq_false_iff_ne.2 (by omega)
  clear WQ XB Q0 Q1
  go_enter Try.func4, Try.ntmps4
  go_wp2_with fail
  (with_reducible refine (shown_any _).mono ?_)
  rintro e w1 ⟨rfl, hb⟩
  replace H := (H.box2 (.int .u64 xh) (.int .u64 xl) _).below hb
  clear hb
  have cx0 := H.cell (w.heap.size) 0 (.int .u64 xh) (List.Mem.head _)
  have cx1 := H.cell (w.heap.size) 1 (.int .u64 xl) (List.Mem.tail _ (List.Mem.head _))
  have lx := H.lt (w.heap.size) 0 (.int .u64 xh) (List.Mem.head _)
  go_wp2_with fail
  clear cx0 cx1 lx
  (with_reducible refine (div_yes xh xl d _ (by omega) (by omega) (by omega) (by omega) (by omega) (by omega)).mono ?_)
  rw [HX.out, HQ.out, HR.out, hq.out.1, hq.out.2]
  rintro e w2 ⟨rfl, hb⟩
  replace H := H.below hb
  clear hb
  have cx0 := H.cell (w.heap.size) 0 (.int .u64 xh) (List.Mem.head _)
  have cx1 := H.cell (w.heap.size) 1 (.int .u64 xl) (List.Mem.tail _ (List.Mem.head _))
  have lx := H.lt (w.heap.size) 0 (.int .u64 xh) (List.Mem.head _)
  go_wp2_with fail
  clear cx0 cx1 lx
  replace H := (H.box2 (.int .u64 qh) (.int .u64 ql) 24)
  (with_reducible refine (fromW_n xh xl _ (by omega) (by omega) (by omega) (by omega)).mono ?_)
  rw [HX.out]
  rintro e w3 ⟨fa, fk, fc, rfl, NN, -, hb⟩
  replace H := H.below hb
  clear hb
  replace H := H.num NN
  clear NN
  go_wp2_with fail
  (with_reducible refine (fromU_n d _ (by omega) (by omega)).mono ?_)
  rintro e w4 ⟨ga, gk, gc, rfl, NN, -, hb⟩
  replace H := H.below hb
  clear hb
  replace H := H.num NN
  clear NN
  go_wp2_with fail
  (with_reducible refine (quot_n (.slice fa fk fc) ga gk gc X d 18 5 _ (H.big (.slice fa fk fc) (X) 18 (List.Mem.tail _ (List.Mem.head _))) (H.big (.slice ga gk gc) (d) 5 (List.Mem.head _)) (by omega) (by omega) d0).mono ?_)
  unfold QuotPost; rw [HQ.out, HR.out]
  rintro e w5 ⟨a1, k1, c1, a2, k2, c2, rfl, N1, N2, hb⟩
  replace H := H.below hb
  clear hb
  replace H := (H.num N1).num N2
  clear N1 N2
  go_wp2_with fail
  replace H := ((H.box1 (.slice a1 k1 c1) 28).box1 (.slice a2 k2 c2) 28)
  have eB : (w5.alloc (.cells #[.slice a1 k1 c1] 28)).heap.size = w5.heap.size + 1 := by simp
  rw [eB] at H
  clear eB
  have KS : Hid (∀ w' : World, Held w [.cell (w5.heap.size + 1) 0 (.slice a2 k2 c2), .cell (w5.heap.size) 0 (.slice a1 k1 c1), .num (.slice a2 k2 c2) (R) 18, .num (.slice a1 k1 c1) (Q) 18, .num (.slice ga gk gc) (d) 5, .num (.slice fa fk fc) (X) 18, .cell (w2.heap.size) 0 (.int .u64 qh), .cell (w2.heap.size) 1 (.int .u64 ql), .cell (w.heap.size) 0 (.int .u64 xh), .cell (w.heap.size) 1 (.int .u64 xl)] w' → w'.cell? ⟨w2.heap.size, 0, none⟩ = some (.int .u64 qh) ∧ w'.cell? ⟨w2.heap.size, 1, none⟩ = some (.int .u64 ql) ∧ w'.cell? ⟨w5.heap.size, 0, none⟩ = some (.slice a1 k1 c1) ∧ w'.cell? ⟨w5.heap.size + 1, 0, none⟩ = some (.slice a2 k2 c2) ∧ Held w [.cell (w5.heap.size + 1) 0 (.slice a2 k2 c2), .cell (w5.heap.size) 0 (.slice a1 k1 c1), .num (.slice a2 k2 c2) (R) 18, .num (.slice a1 k1 c1) (Q) 18, .num (.slice ga gk gc) (d) 5, .num (.slice fa fk fc) (X) 18, .cell (w2.heap.size) 0 (.int .u64 qh), .cell (w2.heap.size) 1 (.int .u64 ql), .cell (w.heap.size) 0 (.int .u64 xh), .cell (w.heap.size) 1 (.int .u64 xl)] w') := Lib.hid (fun _ h => ⟨h.cell (w2.heap.size) 0 (.int .u64 qh) (List.Mem.tail _ (List.Mem.tail _ (List.Mem.tail _ (List.Mem.tail _ (List.Mem.tail _ (List.Mem.tail _ (List.Mem.head _))))))), h.cell (w2.heap.size) 1 (.int .u64 ql) (List.Mem.tail _ (List.Mem.tail _ (List.Mem.tail _ (List.Mem.tail _ (List.Mem.tail _ (List.Mem.tail _ (List.Mem.tail _ (List.Mem.head _)))))))), h.cell (w5.heap.size) 0 (.slice a1 k1 c1) (List.Mem.tail _ (List.Mem.head _)), h.cell (w5.heap.size + 1) 0 (.slice a2 k2 c2) (List.Mem.head _), h⟩)
  have KH : Hid (∀ w' : World, w'.cell? ⟨w2.heap.size, 0, none⟩ = some (.int .u64 qh) ∧ w'.cell? ⟨w2.heap.size, 1, none⟩ = some (.int .u64 ql) ∧ w'.cell? ⟨w5.heap.size, 0, none⟩ = some (.slice a1 k1 c1) ∧ w'.cell? ⟨w5.heap.size + 1, 0, none⟩ = some (.slice a2 k2 c2) ∧ Held w [.cell (w5.heap.size + 1) 0 (.slice a2 k2 c2), .cell (w5.heap.size) 0 (.slice a1 k1 c1), .num (.slice a2 k2 c2) (R) 18, .num (.slice a1 k1 c1) (Q) 18, .num (.slice ga gk gc) (d) 5, .num (.slice fa fk fc) (X) 18, .cell (w2.heap.size) 0 (.int .u64 qh), .cell (w2.heap.size) 1 (.int .u64 ql), .cell (w.heap.size) 0 (.int .u64 xh), .cell (w.heap.size) 1 (.int .u64 xl)] w' → Held w [.cell (w5.heap.size + 1) 0 (.slice a2 k2 c2), .cell (w5.heap.size) 0 (.slice a1 k1 c1), .num (.slice a2 k2 c2) (R) 18, .num (.slice a1 k1 c1) (Q) 18, .num (.slice ga gk gc) (d) 5, .num (.slice fa fk fc) (X) 18, .cell (w2.heap.size) 0 (.int .u64 qh), .cell (w2.heap.size) 1 (.int .u64 ql), .cell (w.heap.size) 0 (.int .u64 xh), .cell (w.heap.size) 1 (.int .u64 xl)] w') := Lib.hid (fun _ h => h.2.2.2.2)
  have HS := Lib.hid (KS.out _ H.drew)
  go_region_held3 (fun w' => w'.cell? ⟨w2.heap.size, 0, none⟩ = some (.int .u64 qh) ∧ w'.cell? ⟨w2.heap.size, 1, none⟩ = some (.int .u64 ql) ∧ w'.cell? ⟨w5.heap.size, 0, none⟩ = some (.slice a1 k1 c1) ∧ w'.cell? ⟨w5.heap.size + 1, 0, none⟩ = some (.slice a2 k2 c2) ∧ Held w [.cell (w5.heap.size + 1) 0 (.slice a2 k2 c2), .cell (w5.heap.size) 0 (.slice a1 k1 c1), .num (.slice a2 k2 c2) (R) 18, .num (.slice a1 k1 c1) (Q) 18, .num (.slice ga gk gc) (d) 5, .num (.slice fa fk fc) (X) 18, .cell (w2.heap.size) 0 (.int .u64 qh), .cell (w2.heap.size) 1 (.int .u64 ql), .cell (w.heap.size) 0 (.int .u64 xh), .cell (w.heap.size) 1 (.int .u64 xl)] w')
    (first | exact HS.out | (refine KS.out _ (Held.below (KH.out _ ?_) hb); assumption))
    (first
      | (go_at_call 20; (with_reducible refine (is_yes qh ql a1 k1 c1 Q 18 _ (by omega) (by omega) (by omega) (by omega) (Held.big (KH.out _ (by assumption)) (.slice a1 k1 c1) (Q) 18 (List.Mem.tail _ (List.Mem.tail _ (List.Mem.tail _ (List.Mem.head _))))) (by omega) HWQ.out).mono ?_); rintro e w' ⟨rfl, hb⟩)
      | (go_at_call 12; (with_reducible refine (fromU_n R _ (by omega) (by omega)).mono ?_); rintro e w' ⟨fa, fk, fc, rfl, NF, -, hb⟩)
      | (go_at_call 19; (with_reducible refine (cmp_same (.slice fa fk fc) (.slice a2 k2 c2) R 5 18 _ NF (Held.big (KH.out _ (by assumption)) (.slice a2 k2 c2) (R) 18 (List.Mem.tail _ (List.Mem.tail _ (List.Mem.head _)))) (by omega) (by omega)).mono ?_); rintro e w' ⟨rfl, hb⟩))
  all_goals
    go_wp2
    go_ret
    exact ⟨rfl, (KH.out _ (by assumption)).old⟩

theorem divides_walk (xh xl d : Int) (w : World) (xh0 : 0 ≤ xh) (xh1 : xh < 18446744073709551616) (xl0 : 0 ≤ xl) (xl1 : xl < 18446744073709551616) (d0 : 0 ≤ d) (d1 : d < 18446744073709551616) :
    Calls Try.prog 4 #[.agg #[.int .u64 xh, .int .u64 xl], .int .u64 d] w fun e w' => e = .returned (.bool true) ∧ Below w.heap.size w w' := by
  by_cases h : d = 0
  · subst h; exact divides_none xh xl w
  · exact divides_some xh xl d w xh0 xh1 xl0 xl1 (by omega) d1
end Go.Proofs.Ytcpifgoglcoeeaa
