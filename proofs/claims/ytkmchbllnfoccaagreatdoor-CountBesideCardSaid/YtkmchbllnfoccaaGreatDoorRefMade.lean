/- The reference: a fraction of two numbers of any size, in lowest terms, or told as too great. -/
import Derived.Test.YtkmchbllnfoccaaGreatDoorRefVal
import Derived.Test.YtkmchbllnfoccaaGreatDoorRKit
import Derived.Deep.RegionWith
namespace Go.Proofs.YtkmchbllnfoccaaGreatDoor
open Go.RowKit
set_option linter.unusedVariables false

set_option maxHeartbeats 4000000 in
theorem made_ok (aa : Option Addr) (ak ac : Nat) (ba : Option Addr) (bk bc : Nat) (x y : Int) (m : Nat) (w : World) (ha : BigN w (.slice aa ak ac) x m) (hb : BigN w (.slice ba bk bc) y m) (hm : m ≤ 30000) (hy : 0 < y) (hX : mN x y ≤ 4611686018427387904) (hY : mD x y ≤ 4611686018427387904) :
    Calls Tryz.prog 32 #[.agg #[.slice aa ak ac], .agg #[.slice ba bk bc]] w fun e w' => e = .returned (.tuple #[.agg #[.int .i64 (mN x y), .int .i64 (mD x y)], .int .i64 0]) ∧ Below w.heap.size w w' := by
  have H := ((Held.start w).num ha).num hb
  have x0 := ha.nonneg
  have gp := gi_pos x y (Or.inr hy)
  have X0 := mN_nonneg x y x0
  have Y0 := mD_pos x y hy
  obtain ⟨g, HG⟩ : ∃ g, Hid (gi x y = g) := ⟨_, Lib.hid rfl⟩
  obtain ⟨X, HX'⟩ : ∃ z, Hid (mN x y = z) := ⟨_, Lib.hid rfl⟩
  obtain ⟨Y, HY'⟩ : ∃ z, Hid (mD x y = z) := ⟨_, Lib.hid rfl⟩
  have HX : Hid (x / g = X) := Lib.hid (by rw [← HG.out]; exact HX'.out)
  have HY : Hid (y / g = Y) := Lib.hid (by rw [← HG.out]; exact HY'.out)
  rw [HG.out] at gp
  rw [HX'.out] at hX X0
  rw [HY'.out] at hY Y0
  rw [HX'.out, HY'.out]
  obtain ⟨c1, hc1⟩ : ∃ c, Hid (cmpI X 4611686018427387904 = c) := ⟨_, Lib.hid rfl⟩
  obtain ⟨c2, hc2⟩ : ∃ c, Hid (cmpI Y 4611686018427387904 = c) := ⟨_, Lib.hid rfl⟩
  have t1 : decide (0 < c1) = false := by rw [← hc1.out]; exact cmpI_no hX
  have t2 : decide (0 < c2) = false := by rw [← hc2.out]; exact cmpI_no hY
  clear ha hb
  go_enter Tryz.func32, Tryz.ntmps32
  go_wp2_with fail
  replace H := (((H.lone (w.heap.size) (.slice aa ak ac) 71 rfl).lone (w.heap.size + 1) (.slice ba bk bc) 71 (by simp)).pair (w.heap.size + 2) (.int .i64 0) (.int .i64 0) 29 (by simp))
  (with_reducible refine (rgcd_n aa ak ac ba bk bc x y m _ (H.big (.slice aa ak ac) (x) m (List.Mem.tail _ (List.Mem.tail _ (List.Mem.tail _ (List.Mem.tail _ (List.Mem.tail _ (List.Mem.tail _ (List.Mem.tail _ (List.Mem.tail _ (List.Mem.tail _ (List.Mem.head _))))))))))) (H.big (.slice ba bk bc) (y) m (List.Mem.tail _ (List.Mem.tail _ (List.Mem.tail _ (List.Mem.tail _ (List.Mem.tail _ (List.Mem.tail _ (List.Mem.tail _ (List.Mem.tail _ (List.Mem.head _)))))))))) hm).mono ?_)
  rw [HG.out]
  rintro e w1 ⟨ga, gk, gc, rfl, NN, hb⟩
  replace H := H.below hb
  clear hb
  replace H := H.num NN
  clear NN
  have cba0 := H.cell (w.heap.size) 0 (.slice aa ak ac) (List.Mem.tail _ (List.Mem.tail _ (List.Mem.tail _ (List.Mem.tail _ (List.Mem.tail _ (List.Mem.tail _ (List.Mem.tail _ (List.Mem.head _))))))))
  have lba := H.lt (w.heap.size) 0 (.slice aa ak ac) (List.Mem.tail _ (List.Mem.tail _ (List.Mem.tail _ (List.Mem.tail _ (List.Mem.tail _ (List.Mem.tail _ (List.Mem.tail _ (List.Mem.head _))))))))
  go_wp2_with fail
  clear cba0 lba
  replace H := (H.lone (w1.heap.size) (.slice ga gk gc) 71 rfl)
  (with_reducible refine (quot_f (.slice aa ak ac) ga gk gc x g m m _ (H.big (.slice aa ak ac) (x) m (List.Mem.tail _ (List.Mem.tail _ (List.Mem.tail _ (List.Mem.tail _ (List.Mem.tail _ (List.Mem.tail _ (List.Mem.tail _ (List.Mem.tail _ (List.Mem.tail _ (List.Mem.tail _ (List.Mem.tail _ (List.Mem.tail _ (List.Mem.head _)))))))))))))) (H.big (.slice ga gk gc) (g) m (List.Mem.tail _ (List.Mem.tail _ (List.Mem.head _)))) hm hm gp).mono ?_)
  rintro e w2 ⟨qa, qk, qc, ua, uk, uc, rfl, N1, N2, F1, F2, hb⟩
  replace H := H.below hb
  clear hb
  rw [HX.out] at N1
  replace H := (H.num N1).num N2
  clear N1 N2 F1 F2
  have cbb0 := H.cell (w.heap.size + 1) 0 (.slice ba bk bc) (List.Mem.tail _ (List.Mem.tail _ (List.Mem.tail _ (List.Mem.tail _ (List.Mem.tail _ (List.Mem.tail _ (List.Mem.tail _ (List.Mem.tail _ (List.Mem.tail _ (List.Mem.head _))))))))))
  have lbb := H.lt (w.heap.size + 1) 0 (.slice ba bk bc) (List.Mem.tail _ (List.Mem.tail _ (List.Mem.tail _ (List.Mem.tail _ (List.Mem.tail _ (List.Mem.tail _ (List.Mem.tail _ (List.Mem.tail _ (List.Mem.tail _ (List.Mem.head _))))))))))
  have lbb_0 := Nat.lt_trans (show w.heap.size < w.heap.size + 1 by omega) lbb
  have cbg0 := H.cell (w1.heap.size) 0 (.slice ga gk gc) (List.Mem.tail _ (List.Mem.tail _ (List.Mem.head _)))
  have lbg := H.lt (w1.heap.size) 0 (.slice ga gk gc) (List.Mem.tail _ (List.Mem.tail _ (List.Mem.head _)))
  go_wp2_with fail
  clear cbb0 lbb lbb_0 cbg0 lbg
  replace H := ((H.lone (w2.heap.size) (.slice qa qk qc) 71 rfl).lone (w2.heap.size + 1) (.slice ua uk uc) 71 (by simp))
  (with_reducible refine (quot_f (.slice ba bk bc) ga gk gc y g m m _ (H.big (.slice ba bk bc) (y) m (List.Mem.tail _ (List.Mem.tail _ (List.Mem.tail _ (List.Mem.tail _ (List.Mem.tail _ (List.Mem.tail _ (List.Mem.tail _ (List.Mem.tail _ (List.Mem.tail _ (List.Mem.tail _ (List.Mem.tail _ (List.Mem.tail _ (List.Mem.tail _ (List.Mem.tail _ (List.Mem.tail _ (List.Mem.tail _ (List.Mem.tail _ (List.Mem.head _))))))))))))))))))) (H.big (.slice ga gk gc) (g) m (List.Mem.tail _ (List.Mem.tail _ (List.Mem.tail _ (List.Mem.tail _ (List.Mem.tail _ (List.Mem.tail _ (List.Mem.tail _ (List.Mem.tail _ (List.Mem.head _)))))))))) hm hm gp).mono ?_)
  rintro e w3 ⟨pa, pk, pc, va, vk, vc, rfl, N1, N2, F1, F2, hb⟩
  replace H := H.below hb
  clear hb
  rw [HY.out] at N1
  replace H := (H.num N1).num N2
  clear N1 N2 F1 F2
  go_wp2_with fail
  replace H := ((H.lone (w3.heap.size) (.slice pa pk pc) 71 rfl).lone (w3.heap.size + 1) (.slice va vk vc) 71 (by simp))
  (with_reducible refine (fromU_n 4611686018427387904 _ (by omega) (by omega)).mono ?_)
  rintro e w4 ⟨fa, fk, fc, rfl, NN, -, hb⟩
  replace H := H.below hb
  clear hb
  replace H := H.num NN
  clear NN
  have cbq0 := H.cell (w2.heap.size) 0 (.slice qa qk qc) (List.Mem.tail _ (List.Mem.tail _ (List.Mem.tail _ (List.Mem.tail _ (List.Mem.tail _ (List.Mem.tail _ (List.Mem.tail _ (List.Mem.tail _ (List.Mem.tail _ (List.Mem.head _))))))))))
  have lbq := H.lt (w2.heap.size) 0 (.slice qa qk qc) (List.Mem.tail _ (List.Mem.tail _ (List.Mem.tail _ (List.Mem.tail _ (List.Mem.tail _ (List.Mem.tail _ (List.Mem.tail _ (List.Mem.tail _ (List.Mem.tail _ (List.Mem.head _))))))))))
  go_wp2_with fail
  clear cbq0 lbq
  replace H := (H.lone (w4.heap.size) (.slice fa fk fc) 71 rfl)
  (with_reducible refine (cmp_n (.slice qa qk qc) (.slice fa fk fc) X 4611686018427387904 m 5 _ (H.big (.slice qa qk qc) (X) m (List.Mem.tail _ (List.Mem.tail _ (List.Mem.tail _ (List.Mem.tail _ (List.Mem.tail _ (List.Mem.tail _ (List.Mem.tail _ (List.Mem.tail _ (List.Mem.tail _ (List.Mem.tail _ (List.Mem.tail _ (List.Mem.tail _ (List.Mem.tail _ (List.Mem.tail _ (List.Mem.head _)))))))))))))))) (H.big (.slice fa fk fc) (4611686018427387904) 5 (List.Mem.tail _ (List.Mem.tail _ (List.Mem.head _)))) (by omega) (by omega)).mono ?_)
  rw [hc1.out]
  rintro e w5 ⟨rfl, hb⟩
  replace H := H.below hb
  clear hb
  have cbp0 := H.cell (w3.heap.size) 0 (.slice pa pk pc) (List.Mem.tail _ (List.Mem.tail _ (List.Mem.tail _ (List.Mem.tail _ (List.Mem.tail _ (List.Mem.head _))))))
  have lbp := H.lt (w3.heap.size) 0 (.slice pa pk pc) (List.Mem.tail _ (List.Mem.tail _ (List.Mem.tail _ (List.Mem.tail _ (List.Mem.tail _ (List.Mem.head _))))))
  have cbf0 := H.cell (w4.heap.size) 0 (.slice fa fk fc) (List.Mem.head _)
  have lbf := H.lt (w4.heap.size) 0 (.slice fa fk fc) (List.Mem.head _)
  go_wp2_with fail
  clear cbp0 lbp cbf0 lbf
  (with_reducible refine (cmp_n (.slice pa pk pc) (.slice fa fk fc) Y 4611686018427387904 m 5 _ (H.big (.slice pa pk pc) (Y) m (List.Mem.tail _ (List.Mem.tail _ (List.Mem.tail _ (List.Mem.tail _ (List.Mem.tail _ (List.Mem.tail _ (List.Mem.tail _ (List.Mem.tail _ (List.Mem.head _)))))))))) (H.big (.slice fa fk fc) (4611686018427387904) 5 (List.Mem.tail _ (List.Mem.tail _ (List.Mem.head _)))) (by omega) (by omega)).mono ?_)
  rw [hc2.out]
  rintro e w6 ⟨rfl, hb⟩
  replace H := H.below hb
  clear hb
  go_wp2_with fail
  have cbq0 := H.cell (w2.heap.size) 0 (.slice qa qk qc) (List.Mem.tail _ (List.Mem.tail _ (List.Mem.tail _ (List.Mem.tail _ (List.Mem.tail _ (List.Mem.tail _ (List.Mem.tail _ (List.Mem.tail _ (List.Mem.tail _ (List.Mem.tail _ (List.Mem.tail _ (List.Mem.head _))))))))))))
  have lbq := H.lt (w2.heap.size) 0 (.slice qa qk qc) (List.Mem.tail _ (List.Mem.tail _ (List.Mem.tail _ (List.Mem.tail _ (List.Mem.tail _ (List.Mem.tail _ (List.Mem.tail _ (List.Mem.tail _ (List.Mem.tail _ (List.Mem.tail _ (List.Mem.tail _ (List.Mem.head _))))))))))))
  have cbp0 := H.cell (w3.heap.size) 0 (.slice pa pk pc) (List.Mem.tail _ (List.Mem.tail _ (List.Mem.tail _ (List.Mem.tail _ (List.Mem.tail _ (List.Mem.head _))))))
  have lbp := H.lt (w3.heap.size) 0 (.slice pa pk pc) (List.Mem.tail _ (List.Mem.tail _ (List.Mem.tail _ (List.Mem.tail _ (List.Mem.tail _ (List.Mem.head _))))))
  have cr0 := H.cell (w.heap.size + 2) 0 (.int .i64 0) (List.Mem.tail _ (List.Mem.tail _ (List.Mem.tail _ (List.Mem.tail _ (List.Mem.tail _ (List.Mem.tail _ (List.Mem.tail _ (List.Mem.tail _ (List.Mem.tail _ (List.Mem.tail _ (List.Mem.tail _ (List.Mem.tail _ (List.Mem.tail _ (List.Mem.tail _ (List.Mem.tail _ (List.Mem.tail _ (List.Mem.tail _ (List.Mem.tail _ (List.Mem.head _)))))))))))))))))))
  have cr1 := H.cell (w.heap.size + 2) 1 (.int .i64 0) (List.Mem.tail _ (List.Mem.tail _ (List.Mem.tail _ (List.Mem.tail _ (List.Mem.tail _ (List.Mem.tail _ (List.Mem.tail _ (List.Mem.tail _ (List.Mem.tail _ (List.Mem.tail _ (List.Mem.tail _ (List.Mem.tail _ (List.Mem.tail _ (List.Mem.tail _ (List.Mem.tail _ (List.Mem.tail _ (List.Mem.tail _ (List.Mem.tail _ (List.Mem.tail _ (List.Mem.head _))))))))))))))))))))
  have lr := H.lt (w.heap.size + 2) 0 (.int .i64 0) (List.Mem.tail _ (List.Mem.tail _ (List.Mem.tail _ (List.Mem.tail _ (List.Mem.tail _ (List.Mem.tail _ (List.Mem.tail _ (List.Mem.tail _ (List.Mem.tail _ (List.Mem.tail _ (List.Mem.tail _ (List.Mem.tail _ (List.Mem.tail _ (List.Mem.tail _ (List.Mem.tail _ (List.Mem.tail _ (List.Mem.tail _ (List.Mem.tail _ (List.Mem.head _)))))))))))))))))))
  have fr0 := H.frozen (w.heap.size + 2) 0 (List.Mem.tail _ (List.Mem.tail _ (List.Mem.tail _ (List.Mem.tail _ (List.Mem.tail _ (List.Mem.tail _ (List.Mem.tail _ (List.Mem.tail _ (List.Mem.tail _ (List.Mem.tail _ (List.Mem.tail _ (List.Mem.tail _ (List.Mem.tail _ (List.Mem.tail _ (List.Mem.tail _ (List.Mem.tail _ (List.Mem.tail _ (List.Mem.tail _ (List.Mem.tail _ (List.Mem.tail _ (List.Mem.head _)))))))))))))))))))))
  have fr1 := H.frozen (w.heap.size + 2) 1 (List.Mem.tail _ (List.Mem.tail _ (List.Mem.tail _ (List.Mem.tail _ (List.Mem.tail _ (List.Mem.tail _ (List.Mem.tail _ (List.Mem.tail _ (List.Mem.tail _ (List.Mem.tail _ (List.Mem.tail _ (List.Mem.tail _ (List.Mem.tail _ (List.Mem.tail _ (List.Mem.tail _ (List.Mem.tail _ (List.Mem.tail _ (List.Mem.tail _ (List.Mem.tail _ (List.Mem.tail _ (List.Mem.tail _ (List.Mem.head _))))))))))))))))))))))
  replace H := H.drew
  go_region_with
    (first
      | (go_at_call 57; (with_reducible refine (value_n qa qk qc X m _ (H.big (.slice qa qk qc) (X) m (List.Mem.tail _ (List.Mem.tail _ (List.Mem.tail _ (List.Mem.tail _ (List.Mem.tail _ (List.Mem.tail _ (List.Mem.tail _ (List.Mem.tail _ (List.Mem.tail _ (List.Mem.tail _ (List.Mem.tail _ (List.Mem.tail _ (List.Mem.tail _ (List.Mem.tail _ (List.Mem.head _)))))))))))))))) hm hX).mono ?_); rintro e w' ⟨rfl, hb⟩; replace H := H.below hb; clear hb; replace cbq0 := H.cell (w2.heap.size) 0 (.slice qa qk qc) (List.Mem.tail _ (List.Mem.tail _ (List.Mem.tail _ (List.Mem.tail _ (List.Mem.tail _ (List.Mem.tail _ (List.Mem.tail _ (List.Mem.tail _ (List.Mem.tail _ (List.Mem.tail _ (List.Mem.tail _ (List.Mem.head _)))))))))))); replace lbq := H.lt (w2.heap.size) 0 (.slice qa qk qc) (List.Mem.tail _ (List.Mem.tail _ (List.Mem.tail _ (List.Mem.tail _ (List.Mem.tail _ (List.Mem.tail _ (List.Mem.tail _ (List.Mem.tail _ (List.Mem.tail _ (List.Mem.tail _ (List.Mem.tail _ (List.Mem.head _)))))))))))); replace cbp0 := H.cell (w3.heap.size) 0 (.slice pa pk pc) (List.Mem.tail _ (List.Mem.tail _ (List.Mem.tail _ (List.Mem.tail _ (List.Mem.tail _ (List.Mem.head _)))))); replace lbp := H.lt (w3.heap.size) 0 (.slice pa pk pc) (List.Mem.tail _ (List.Mem.tail _ (List.Mem.tail _ (List.Mem.tail _ (List.Mem.tail _ (List.Mem.head _)))))); replace cr0 := H.cell (w.heap.size + 2) 0 (.int .i64 0) (List.Mem.tail _ (List.Mem.tail _ (List.Mem.tail _ (List.Mem.tail _ (List.Mem.tail _ (List.Mem.tail _ (List.Mem.tail _ (List.Mem.tail _ (List.Mem.tail _ (List.Mem.tail _ (List.Mem.tail _ (List.Mem.tail _ (List.Mem.tail _ (List.Mem.tail _ (List.Mem.tail _ (List.Mem.tail _ (List.Mem.tail _ (List.Mem.tail _ (List.Mem.head _))))))))))))))))))); replace cr1 := H.cell (w.heap.size + 2) 1 (.int .i64 0) (List.Mem.tail _ (List.Mem.tail _ (List.Mem.tail _ (List.Mem.tail _ (List.Mem.tail _ (List.Mem.tail _ (List.Mem.tail _ (List.Mem.tail _ (List.Mem.tail _ (List.Mem.tail _ (List.Mem.tail _ (List.Mem.tail _ (List.Mem.tail _ (List.Mem.tail _ (List.Mem.tail _ (List.Mem.tail _ (List.Mem.tail _ (List.Mem.tail _ (List.Mem.tail _ (List.Mem.head _)))))))))))))))))))); replace lr := H.lt (w.heap.size + 2) 0 (.int .i64 0) (List.Mem.tail _ (List.Mem.tail _ (List.Mem.tail _ (List.Mem.tail _ (List.Mem.tail _ (List.Mem.tail _ (List.Mem.tail _ (List.Mem.tail _ (List.Mem.tail _ (List.Mem.tail _ (List.Mem.tail _ (List.Mem.tail _ (List.Mem.tail _ (List.Mem.tail _ (List.Mem.tail _ (List.Mem.tail _ (List.Mem.tail _ (List.Mem.tail _ (List.Mem.head _))))))))))))))))))); replace fr0 := H.frozen (w.heap.size + 2) 0 (List.Mem.tail _ (List.Mem.tail _ (List.Mem.tail _ (List.Mem.tail _ (List.Mem.tail _ (List.Mem.tail _ (List.Mem.tail _ (List.Mem.tail _ (List.Mem.tail _ (List.Mem.tail _ (List.Mem.tail _ (List.Mem.tail _ (List.Mem.tail _ (List.Mem.tail _ (List.Mem.tail _ (List.Mem.tail _ (List.Mem.tail _ (List.Mem.tail _ (List.Mem.tail _ (List.Mem.tail _ (List.Mem.head _))))))))))))))))))))); replace fr1 := H.frozen (w.heap.size + 2) 1 (List.Mem.tail _ (List.Mem.tail _ (List.Mem.tail _ (List.Mem.tail _ (List.Mem.tail _ (List.Mem.tail _ (List.Mem.tail _ (List.Mem.tail _ (List.Mem.tail _ (List.Mem.tail _ (List.Mem.tail _ (List.Mem.tail _ (List.Mem.tail _ (List.Mem.tail _ (List.Mem.tail _ (List.Mem.tail _ (List.Mem.tail _ (List.Mem.tail _ (List.Mem.tail _ (List.Mem.tail _ (List.Mem.tail _ (List.Mem.head _)))))))))))))))))))))))
      | (go_at_call 57; (with_reducible refine (value_n pa pk pc Y m _ (H.big (.slice pa pk pc) (Y) m (List.Mem.tail _ (List.Mem.tail _ (List.Mem.tail _ (List.Mem.tail _ (List.Mem.tail _ (List.Mem.tail _ (List.Mem.tail _ (List.Mem.tail _ (List.Mem.head _)))))))))) hm hY).mono ?_); rintro e w' ⟨rfl, hb⟩; replace H := H.below hb; clear hb; replace cbq0 := H.cell (w2.heap.size) 0 (.slice qa qk qc) (List.Mem.tail _ (List.Mem.tail _ (List.Mem.tail _ (List.Mem.tail _ (List.Mem.tail _ (List.Mem.tail _ (List.Mem.tail _ (List.Mem.tail _ (List.Mem.tail _ (List.Mem.tail _ (List.Mem.tail _ (List.Mem.head _)))))))))))); replace lbq := H.lt (w2.heap.size) 0 (.slice qa qk qc) (List.Mem.tail _ (List.Mem.tail _ (List.Mem.tail _ (List.Mem.tail _ (List.Mem.tail _ (List.Mem.tail _ (List.Mem.tail _ (List.Mem.tail _ (List.Mem.tail _ (List.Mem.tail _ (List.Mem.tail _ (List.Mem.head _)))))))))))); replace cbp0 := H.cell (w3.heap.size) 0 (.slice pa pk pc) (List.Mem.tail _ (List.Mem.tail _ (List.Mem.tail _ (List.Mem.tail _ (List.Mem.tail _ (List.Mem.head _)))))); replace lbp := H.lt (w3.heap.size) 0 (.slice pa pk pc) (List.Mem.tail _ (List.Mem.tail _ (List.Mem.tail _ (List.Mem.tail _ (List.Mem.tail _ (List.Mem.head _)))))); replace cr0 := H.cell (w.heap.size + 2) 0 (.int .i64 0) (List.Mem.tail _ (List.Mem.tail _ (List.Mem.tail _ (List.Mem.tail _ (List.Mem.tail _ (List.Mem.tail _ (List.Mem.tail _ (List.Mem.tail _ (List.Mem.tail _ (List.Mem.tail _ (List.Mem.tail _ (List.Mem.tail _ (List.Mem.tail _ (List.Mem.tail _ (List.Mem.tail _ (List.Mem.tail _ (List.Mem.tail _ (List.Mem.tail _ (List.Mem.head _))))))))))))))))))); replace cr1 := H.cell (w.heap.size + 2) 1 (.int .i64 0) (List.Mem.tail _ (List.Mem.tail _ (List.Mem.tail _ (List.Mem.tail _ (List.Mem.tail _ (List.Mem.tail _ (List.Mem.tail _ (List.Mem.tail _ (List.Mem.tail _ (List.Mem.tail _ (List.Mem.tail _ (List.Mem.tail _ (List.Mem.tail _ (List.Mem.tail _ (List.Mem.tail _ (List.Mem.tail _ (List.Mem.tail _ (List.Mem.tail _ (List.Mem.tail _ (List.Mem.head _)))))))))))))))))))); replace lr := H.lt (w.heap.size + 2) 0 (.int .i64 0) (List.Mem.tail _ (List.Mem.tail _ (List.Mem.tail _ (List.Mem.tail _ (List.Mem.tail _ (List.Mem.tail _ (List.Mem.tail _ (List.Mem.tail _ (List.Mem.tail _ (List.Mem.tail _ (List.Mem.tail _ (List.Mem.tail _ (List.Mem.tail _ (List.Mem.tail _ (List.Mem.tail _ (List.Mem.tail _ (List.Mem.tail _ (List.Mem.tail _ (List.Mem.head _))))))))))))))))))); replace fr0 := H.frozen (w.heap.size + 2) 0 (List.Mem.tail _ (List.Mem.tail _ (List.Mem.tail _ (List.Mem.tail _ (List.Mem.tail _ (List.Mem.tail _ (List.Mem.tail _ (List.Mem.tail _ (List.Mem.tail _ (List.Mem.tail _ (List.Mem.tail _ (List.Mem.tail _ (List.Mem.tail _ (List.Mem.tail _ (List.Mem.tail _ (List.Mem.tail _ (List.Mem.tail _ (List.Mem.tail _ (List.Mem.tail _ (List.Mem.tail _ (List.Mem.head _))))))))))))))))))))); replace fr1 := H.frozen (w.heap.size + 2) 1 (List.Mem.tail _ (List.Mem.tail _ (List.Mem.tail _ (List.Mem.tail _ (List.Mem.tail _ (List.Mem.tail _ (List.Mem.tail _ (List.Mem.tail _ (List.Mem.tail _ (List.Mem.tail _ (List.Mem.tail _ (List.Mem.tail _ (List.Mem.tail _ (List.Mem.tail _ (List.Mem.tail _ (List.Mem.tail _ (List.Mem.tail _ (List.Mem.tail _ (List.Mem.tail _ (List.Mem.tail _ (List.Mem.tail _ (List.Mem.head _))))))))))))))))))))))))
  all_goals
    go_wp2_with fail
    exact bodyPost_ret (v := .tuple #[.agg #[.int .i64 X, .int .i64 Y], .int .i64 0]) (by simp [results, Tryz.results32, go_sem, cr0, cr1]) rfl ⟨rfl, (H.old.setCell (by simp <;> omega) _).setCell (by simp <;> omega) _⟩

set_option maxHeartbeats 4000000 in
theorem made_over1 (aa : Option Addr) (ak ac : Nat) (ba : Option Addr) (bk bc : Nat) (x y : Int) (m : Nat) (w : World) (ha : BigN w (.slice aa ak ac) x m) (hb : BigN w (.slice ba bk bc) y m) (hm : m ≤ 30000) (hy : 0 < y) (hX : 4611686018427387904 < mN x y) :
    Calls Tryz.prog 32 #[.agg #[.slice aa ak ac], .agg #[.slice ba bk bc]] w fun e w' => e = .returned (.tuple #[.agg #[.int .i64 0, .int .i64 0], .int .i64 6]) ∧ Below w.heap.size w w' := by
  have H := ((Held.start w).num ha).num hb
  have x0 := ha.nonneg
  have gp := gi_pos x y (Or.inr hy)
  have X0 := mN_nonneg x y x0
  have Y0 := mD_pos x y hy
  obtain ⟨g, HG⟩ : ∃ g, Hid (gi x y = g) := ⟨_, Lib.hid rfl⟩
  obtain ⟨X, HX'⟩ : ∃ z, Hid (mN x y = z) := ⟨_, Lib.hid rfl⟩
  obtain ⟨Y, HY'⟩ : ∃ z, Hid (mD x y = z) := ⟨_, Lib.hid rfl⟩
  have HX : Hid (x / g = X) := Lib.hid (by rw [← HG.out]; exact HX'.out)
  have HY : Hid (y / g = Y) := Lib.hid (by rw [← HG.out]; exact HY'.out)
  rw [HG.out] at gp
  rw [HX'.out] at hX X0
  rw [HY'.out] at Y0
  obtain ⟨c1, hc1⟩ : ∃ c, Hid (cmpI X 4611686018427387904 = c) := ⟨_, Lib.hid rfl⟩
  obtain ⟨c2, hc2⟩ : ∃ c, Hid (cmpI Y 4611686018427387904 = c) := ⟨_, Lib.hid rfl⟩
  have t1 : decide (0 < c1) = true := by rw [← hc1.out, cmpI_gt hX]; rfl
  clear ha hb
  go_enter Tryz.func32, Tryz.ntmps32
  go_wp2_with fail
  replace H := (((H.lone (w.heap.size) (.slice aa ak ac) 71 rfl).lone (w.heap.size + 1) (.slice ba bk bc) 71 (by simp)).pair (w.heap.size + 2) (.int .i64 0) (.int .i64 0) 29 (by simp))
  (with_reducible refine (rgcd_n aa ak ac ba bk bc x y m _ (H.big (.slice aa ak ac) (x) m (List.Mem.tail _ (List.Mem.tail _ (List.Mem.tail _ (List.Mem.tail _ (List.Mem.tail _ (List.Mem.tail _ (List.Mem.tail _ (List.Mem.tail _ (List.Mem.tail _ (List.Mem.head _))))))))))) (H.big (.slice ba bk bc) (y) m (List.Mem.tail _ (List.Mem.tail _ (List.Mem.tail _ (List.Mem.tail _ (List.Mem.tail _ (List.Mem.tail _ (List.Mem.tail _ (List.Mem.tail _ (List.Mem.head _)))))))))) hm).mono ?_)
  rw [HG.out]
  rintro e w1 ⟨ga, gk, gc, rfl, NN, hb⟩
  replace H := H.below hb
  clear hb
  replace H := H.num NN
  clear NN
  have cba0 := H.cell (w.heap.size) 0 (.slice aa ak ac) (List.Mem.tail _ (List.Mem.tail _ (List.Mem.tail _ (List.Mem.tail _ (List.Mem.tail _ (List.Mem.tail _ (List.Mem.tail _ (List.Mem.head _))))))))
  have lba := H.lt (w.heap.size) 0 (.slice aa ak ac) (List.Mem.tail _ (List.Mem.tail _ (List.Mem.tail _ (List.Mem.tail _ (List.Mem.tail _ (List.Mem.tail _ (List.Mem.tail _ (List.Mem.head _))))))))
  go_wp2_with fail
  clear cba0 lba
  replace H := (H.lone (w1.heap.size) (.slice ga gk gc) 71 rfl)
  (with_reducible refine (quot_f (.slice aa ak ac) ga gk gc x g m m _ (H.big (.slice aa ak ac) (x) m (List.Mem.tail _ (List.Mem.tail _ (List.Mem.tail _ (List.Mem.tail _ (List.Mem.tail _ (List.Mem.tail _ (List.Mem.tail _ (List.Mem.tail _ (List.Mem.tail _ (List.Mem.tail _ (List.Mem.tail _ (List.Mem.tail _ (List.Mem.head _)))))))))))))) (H.big (.slice ga gk gc) (g) m (List.Mem.tail _ (List.Mem.tail _ (List.Mem.head _)))) hm hm gp).mono ?_)
  rintro e w2 ⟨qa, qk, qc, ua, uk, uc, rfl, N1, N2, F1, F2, hb⟩
  replace H := H.below hb
  clear hb
  rw [HX.out] at N1
  replace H := (H.num N1).num N2
  clear N1 N2 F1 F2
  have cbb0 := H.cell (w.heap.size + 1) 0 (.slice ba bk bc) (List.Mem.tail _ (List.Mem.tail _ (List.Mem.tail _ (List.Mem.tail _ (List.Mem.tail _ (List.Mem.tail _ (List.Mem.tail _ (List.Mem.tail _ (List.Mem.tail _ (List.Mem.head _))))))))))
  have lbb := H.lt (w.heap.size + 1) 0 (.slice ba bk bc) (List.Mem.tail _ (List.Mem.tail _ (List.Mem.tail _ (List.Mem.tail _ (List.Mem.tail _ (List.Mem.tail _ (List.Mem.tail _ (List.Mem.tail _ (List.Mem.tail _ (List.Mem.head _))))))))))
  have lbb_0 := Nat.lt_trans (show w.heap.size < w.heap.size + 1 by omega) lbb
  have cbg0 := H.cell (w1.heap.size) 0 (.slice ga gk gc) (List.Mem.tail _ (List.Mem.tail _ (List.Mem.head _)))
  have lbg := H.lt (w1.heap.size) 0 (.slice ga gk gc) (List.Mem.tail _ (List.Mem.tail _ (List.Mem.head _)))
  go_wp2_with fail
  clear cbb0 lbb lbb_0 cbg0 lbg
  replace H := ((H.lone (w2.heap.size) (.slice qa qk qc) 71 rfl).lone (w2.heap.size + 1) (.slice ua uk uc) 71 (by simp))
  (with_reducible refine (quot_f (.slice ba bk bc) ga gk gc y g m m _ (H.big (.slice ba bk bc) (y) m (List.Mem.tail _ (List.Mem.tail _ (List.Mem.tail _ (List.Mem.tail _ (List.Mem.tail _ (List.Mem.tail _ (List.Mem.tail _ (List.Mem.tail _ (List.Mem.tail _ (List.Mem.tail _ (List.Mem.tail _ (List.Mem.tail _ (List.Mem.tail _ (List.Mem.tail _ (List.Mem.tail _ (List.Mem.tail _ (List.Mem.tail _ (List.Mem.head _))))))))))))))))))) (H.big (.slice ga gk gc) (g) m (List.Mem.tail _ (List.Mem.tail _ (List.Mem.tail _ (List.Mem.tail _ (List.Mem.tail _ (List.Mem.tail _ (List.Mem.tail _ (List.Mem.tail _ (List.Mem.head _)))))))))) hm hm gp).mono ?_)
  rintro e w3 ⟨pa, pk, pc, va, vk, vc, rfl, N1, N2, F1, F2, hb⟩
  replace H := H.below hb
  clear hb
  rw [HY.out] at N1
  replace H := (H.num N1).num N2
  clear N1 N2 F1 F2
  go_wp2_with fail
  replace H := ((H.lone (w3.heap.size) (.slice pa pk pc) 71 rfl).lone (w3.heap.size + 1) (.slice va vk vc) 71 (by simp))
  (with_reducible refine (fromU_n 4611686018427387904 _ (by omega) (by omega)).mono ?_)
  rintro e w4 ⟨fa, fk, fc, rfl, NN, -, hb⟩
  replace H := H.below hb
  clear hb
  replace H := H.num NN
  clear NN
  have cbq0 := H.cell (w2.heap.size) 0 (.slice qa qk qc) (List.Mem.tail _ (List.Mem.tail _ (List.Mem.tail _ (List.Mem.tail _ (List.Mem.tail _ (List.Mem.tail _ (List.Mem.tail _ (List.Mem.tail _ (List.Mem.tail _ (List.Mem.head _))))))))))
  have lbq := H.lt (w2.heap.size) 0 (.slice qa qk qc) (List.Mem.tail _ (List.Mem.tail _ (List.Mem.tail _ (List.Mem.tail _ (List.Mem.tail _ (List.Mem.tail _ (List.Mem.tail _ (List.Mem.tail _ (List.Mem.tail _ (List.Mem.head _))))))))))
  go_wp2_with fail
  clear cbq0 lbq
  replace H := (H.lone (w4.heap.size) (.slice fa fk fc) 71 rfl)
  (with_reducible refine (cmp_n (.slice qa qk qc) (.slice fa fk fc) X 4611686018427387904 m 5 _ (H.big (.slice qa qk qc) (X) m (List.Mem.tail _ (List.Mem.tail _ (List.Mem.tail _ (List.Mem.tail _ (List.Mem.tail _ (List.Mem.tail _ (List.Mem.tail _ (List.Mem.tail _ (List.Mem.tail _ (List.Mem.tail _ (List.Mem.tail _ (List.Mem.tail _ (List.Mem.tail _ (List.Mem.tail _ (List.Mem.head _)))))))))))))))) (H.big (.slice fa fk fc) (4611686018427387904) 5 (List.Mem.tail _ (List.Mem.tail _ (List.Mem.head _)))) (by omega) (by omega)).mono ?_)
  rw [hc1.out]
  rintro e w5 ⟨rfl, hb⟩
  replace H := H.below hb
  clear hb
  have cr0 := H.cell (w.heap.size + 2) 0 (.int .i64 0) (List.Mem.tail _ (List.Mem.tail _ (List.Mem.tail _ (List.Mem.tail _ (List.Mem.tail _ (List.Mem.tail _ (List.Mem.tail _ (List.Mem.tail _ (List.Mem.tail _ (List.Mem.tail _ (List.Mem.tail _ (List.Mem.tail _ (List.Mem.tail _ (List.Mem.tail _ (List.Mem.tail _ (List.Mem.tail _ (List.Mem.tail _ (List.Mem.tail _ (List.Mem.head _)))))))))))))))))))
  have cr1 := H.cell (w.heap.size + 2) 1 (.int .i64 0) (List.Mem.tail _ (List.Mem.tail _ (List.Mem.tail _ (List.Mem.tail _ (List.Mem.tail _ (List.Mem.tail _ (List.Mem.tail _ (List.Mem.tail _ (List.Mem.tail _ (List.Mem.tail _ (List.Mem.tail _ (List.Mem.tail _ (List.Mem.tail _ (List.Mem.tail _ (List.Mem.tail _ (List.Mem.tail _ (List.Mem.tail _ (List.Mem.tail _ (List.Mem.tail _ (List.Mem.head _))))))))))))))))))))
  have lr := H.lt (w.heap.size + 2) 0 (.int .i64 0) (List.Mem.tail _ (List.Mem.tail _ (List.Mem.tail _ (List.Mem.tail _ (List.Mem.tail _ (List.Mem.tail _ (List.Mem.tail _ (List.Mem.tail _ (List.Mem.tail _ (List.Mem.tail _ (List.Mem.tail _ (List.Mem.tail _ (List.Mem.tail _ (List.Mem.tail _ (List.Mem.tail _ (List.Mem.tail _ (List.Mem.tail _ (List.Mem.tail _ (List.Mem.head _)))))))))))))))))))
  have fr0 := H.frozen (w.heap.size + 2) 0 (List.Mem.tail _ (List.Mem.tail _ (List.Mem.tail _ (List.Mem.tail _ (List.Mem.tail _ (List.Mem.tail _ (List.Mem.tail _ (List.Mem.tail _ (List.Mem.tail _ (List.Mem.tail _ (List.Mem.tail _ (List.Mem.tail _ (List.Mem.tail _ (List.Mem.tail _ (List.Mem.tail _ (List.Mem.tail _ (List.Mem.tail _ (List.Mem.tail _ (List.Mem.tail _ (List.Mem.tail _ (List.Mem.head _)))))))))))))))))))))
  have fr1 := H.frozen (w.heap.size + 2) 1 (List.Mem.tail _ (List.Mem.tail _ (List.Mem.tail _ (List.Mem.tail _ (List.Mem.tail _ (List.Mem.tail _ (List.Mem.tail _ (List.Mem.tail _ (List.Mem.tail _ (List.Mem.tail _ (List.Mem.tail _ (List.Mem.tail _ (List.Mem.tail _ (List.Mem.tail _ (List.Mem.tail _ (List.Mem.tail _ (List.Mem.tail _ (List.Mem.tail _ (List.Mem.tail _ (List.Mem.tail _ (List.Mem.tail _ (List.Mem.head _))))))))))))))))))))))
  go_wp2_with fail
  exact bodyPost_ret (v := .tuple #[.agg #[.int .i64 0, .int .i64 0], .int .i64 6]) (by simp [results, Tryz.results32, go_sem, cr0, cr1]) rfl ⟨rfl, (H.old.setCell (by simp <;> omega) _).setCell (by simp <;> omega) _⟩

set_option maxHeartbeats 4000000 in
theorem made_over2 (aa : Option Addr) (ak ac : Nat) (ba : Option Addr) (bk bc : Nat) (x y : Int) (m : Nat) (w : World) (ha : BigN w (.slice aa ak ac) x m) (hb : BigN w (.slice ba bk bc) y m) (hm : m ≤ 30000) (hy : 0 < y) (hX : mN x y ≤ 4611686018427387904) (hY : 4611686018427387904 < mD x y) :
    Calls Tryz.prog 32 #[.agg #[.slice aa ak ac], .agg #[.slice ba bk bc]] w fun e w' => e = .returned (.tuple #[.agg #[.int .i64 0, .int .i64 0], .int .i64 6]) ∧ Below w.heap.size w w' := by
  have H := ((Held.start w).num ha).num hb
  have x0 := ha.nonneg
  have gp := gi_pos x y (Or.inr hy)
  have X0 := mN_nonneg x y x0
  have Y0 := mD_pos x y hy
  obtain ⟨g, HG⟩ : ∃ g, Hid (gi x y = g) := ⟨_, Lib.hid rfl⟩
  obtain ⟨X, HX'⟩ : ∃ z, Hid (mN x y = z) := ⟨_, Lib.hid rfl⟩
  obtain ⟨Y, HY'⟩ : ∃ z, Hid (mD x y = z) := ⟨_, Lib.hid rfl⟩
  have HX : Hid (x / g = X) := Lib.hid (by rw [← HG.out]; exact HX'.out)
  have HY : Hid (y / g = Y) := Lib.hid (by rw [← HG.out]; exact HY'.out)
  rw [HG.out] at gp
  rw [HX'.out] at hX X0
  rw [HY'.out] at hY Y0
  obtain ⟨c1, hc1⟩ : ∃ c, Hid (cmpI X 4611686018427387904 = c) := ⟨_, Lib.hid rfl⟩
  obtain ⟨c2, hc2⟩ : ∃ c, Hid (cmpI Y 4611686018427387904 = c) := ⟨_, Lib.hid rfl⟩
  have t1 : decide (0 < c1) = false := by rw [← hc1.out]; exact cmpI_no hX
  have t2 : decide (0 < c2) = true := by rw [← hc2.out, cmpI_gt hY]; rfl
  clear ha hb
  go_enter Tryz.func32, Tryz.ntmps32
  go_wp2_with fail
  replace H := (((H.lone (w.heap.size) (.slice aa ak ac) 71 rfl).lone (w.heap.size + 1) (.slice ba bk bc) 71 (by simp)).pair (w.heap.size + 2) (.int .i64 0) (.int .i64 0) 29 (by simp))
  (with_reducible refine (rgcd_n aa ak ac ba bk bc x y m _ (H.big (.slice aa ak ac) (x) m (List.Mem.tail _ (List.Mem.tail _ (List.Mem.tail _ (List.Mem.tail _ (List.Mem.tail _ (List.Mem.tail _ (List.Mem.tail _ (List.Mem.tail _ (List.Mem.tail _ (List.Mem.head _))))))))))) (H.big (.slice ba bk bc) (y) m (List.Mem.tail _ (List.Mem.tail _ (List.Mem.tail _ (List.Mem.tail _ (List.Mem.tail _ (List.Mem.tail _ (List.Mem.tail _ (List.Mem.tail _ (List.Mem.head _)))))))))) hm).mono ?_)
  rw [HG.out]
  rintro e w1 ⟨ga, gk, gc, rfl, NN, hb⟩
  replace H := H.below hb
  clear hb
  replace H := H.num NN
  clear NN
  have cba0 := H.cell (w.heap.size) 0 (.slice aa ak ac) (List.Mem.tail _ (List.Mem.tail _ (List.Mem.tail _ (List.Mem.tail _ (List.Mem.tail _ (List.Mem.tail _ (List.Mem.tail _ (List.Mem.head _))))))))
  have lba := H.lt (w.heap.size) 0 (.slice aa ak ac) (List.Mem.tail _ (List.Mem.tail _ (List.Mem.tail _ (List.Mem.tail _ (List.Mem.tail _ (List.Mem.tail _ (List.Mem.tail _ (List.Mem.head _))))))))
  go_wp2_with fail
  clear cba0 lba
  replace H := (H.lone (w1.heap.size) (.slice ga gk gc) 71 rfl)
  (with_reducible refine (quot_f (.slice aa ak ac) ga gk gc x g m m _ (H.big (.slice aa ak ac) (x) m (List.Mem.tail _ (List.Mem.tail _ (List.Mem.tail _ (List.Mem.tail _ (List.Mem.tail _ (List.Mem.tail _ (List.Mem.tail _ (List.Mem.tail _ (List.Mem.tail _ (List.Mem.tail _ (List.Mem.tail _ (List.Mem.tail _ (List.Mem.head _)))))))))))))) (H.big (.slice ga gk gc) (g) m (List.Mem.tail _ (List.Mem.tail _ (List.Mem.head _)))) hm hm gp).mono ?_)
  rintro e w2 ⟨qa, qk, qc, ua, uk, uc, rfl, N1, N2, F1, F2, hb⟩
  replace H := H.below hb
  clear hb
  rw [HX.out] at N1
  replace H := (H.num N1).num N2
  clear N1 N2 F1 F2
  have cbb0 := H.cell (w.heap.size + 1) 0 (.slice ba bk bc) (List.Mem.tail _ (List.Mem.tail _ (List.Mem.tail _ (List.Mem.tail _ (List.Mem.tail _ (List.Mem.tail _ (List.Mem.tail _ (List.Mem.tail _ (List.Mem.tail _ (List.Mem.head _))))))))))
  have lbb := H.lt (w.heap.size + 1) 0 (.slice ba bk bc) (List.Mem.tail _ (List.Mem.tail _ (List.Mem.tail _ (List.Mem.tail _ (List.Mem.tail _ (List.Mem.tail _ (List.Mem.tail _ (List.Mem.tail _ (List.Mem.tail _ (List.Mem.head _))))))))))
  have lbb_0 := Nat.lt_trans (show w.heap.size < w.heap.size + 1 by omega) lbb
  have cbg0 := H.cell (w1.heap.size) 0 (.slice ga gk gc) (List.Mem.tail _ (List.Mem.tail _ (List.Mem.head _)))
  have lbg := H.lt (w1.heap.size) 0 (.slice ga gk gc) (List.Mem.tail _ (List.Mem.tail _ (List.Mem.head _)))
  go_wp2_with fail
  clear cbb0 lbb lbb_0 cbg0 lbg
  replace H := ((H.lone (w2.heap.size) (.slice qa qk qc) 71 rfl).lone (w2.heap.size + 1) (.slice ua uk uc) 71 (by simp))
  (with_reducible refine (quot_f (.slice ba bk bc) ga gk gc y g m m _ (H.big (.slice ba bk bc) (y) m (List.Mem.tail _ (List.Mem.tail _ (List.Mem.tail _ (List.Mem.tail _ (List.Mem.tail _ (List.Mem.tail _ (List.Mem.tail _ (List.Mem.tail _ (List.Mem.tail _ (List.Mem.tail _ (List.Mem.tail _ (List.Mem.tail _ (List.Mem.tail _ (List.Mem.tail _ (List.Mem.tail _ (List.Mem.tail _ (List.Mem.tail _ (List.Mem.head _))))))))))))))))))) (H.big (.slice ga gk gc) (g) m (List.Mem.tail _ (List.Mem.tail _ (List.Mem.tail _ (List.Mem.tail _ (List.Mem.tail _ (List.Mem.tail _ (List.Mem.tail _ (List.Mem.tail _ (List.Mem.head _)))))))))) hm hm gp).mono ?_)
  rintro e w3 ⟨pa, pk, pc, va, vk, vc, rfl, N1, N2, F1, F2, hb⟩
  replace H := H.below hb
  clear hb
  rw [HY.out] at N1
  replace H := (H.num N1).num N2
  clear N1 N2 F1 F2
  go_wp2_with fail
  replace H := ((H.lone (w3.heap.size) (.slice pa pk pc) 71 rfl).lone (w3.heap.size + 1) (.slice va vk vc) 71 (by simp))
  (with_reducible refine (fromU_n 4611686018427387904 _ (by omega) (by omega)).mono ?_)
  rintro e w4 ⟨fa, fk, fc, rfl, NN, -, hb⟩
  replace H := H.below hb
  clear hb
  replace H := H.num NN
  clear NN
  have cbq0 := H.cell (w2.heap.size) 0 (.slice qa qk qc) (List.Mem.tail _ (List.Mem.tail _ (List.Mem.tail _ (List.Mem.tail _ (List.Mem.tail _ (List.Mem.tail _ (List.Mem.tail _ (List.Mem.tail _ (List.Mem.tail _ (List.Mem.head _))))))))))
  have lbq := H.lt (w2.heap.size) 0 (.slice qa qk qc) (List.Mem.tail _ (List.Mem.tail _ (List.Mem.tail _ (List.Mem.tail _ (List.Mem.tail _ (List.Mem.tail _ (List.Mem.tail _ (List.Mem.tail _ (List.Mem.tail _ (List.Mem.head _))))))))))
  go_wp2_with fail
  clear cbq0 lbq
  replace H := (H.lone (w4.heap.size) (.slice fa fk fc) 71 rfl)
  (with_reducible refine (cmp_n (.slice qa qk qc) (.slice fa fk fc) X 4611686018427387904 m 5 _ (H.big (.slice qa qk qc) (X) m (List.Mem.tail _ (List.Mem.tail _ (List.Mem.tail _ (List.Mem.tail _ (List.Mem.tail _ (List.Mem.tail _ (List.Mem.tail _ (List.Mem.tail _ (List.Mem.tail _ (List.Mem.tail _ (List.Mem.tail _ (List.Mem.tail _ (List.Mem.tail _ (List.Mem.tail _ (List.Mem.head _)))))))))))))))) (H.big (.slice fa fk fc) (4611686018427387904) 5 (List.Mem.tail _ (List.Mem.tail _ (List.Mem.head _)))) (by omega) (by omega)).mono ?_)
  rw [hc1.out]
  rintro e w5 ⟨rfl, hb⟩
  replace H := H.below hb
  clear hb
  have cbp0 := H.cell (w3.heap.size) 0 (.slice pa pk pc) (List.Mem.tail _ (List.Mem.tail _ (List.Mem.tail _ (List.Mem.tail _ (List.Mem.tail _ (List.Mem.head _))))))
  have lbp := H.lt (w3.heap.size) 0 (.slice pa pk pc) (List.Mem.tail _ (List.Mem.tail _ (List.Mem.tail _ (List.Mem.tail _ (List.Mem.tail _ (List.Mem.head _))))))
  have cbf0 := H.cell (w4.heap.size) 0 (.slice fa fk fc) (List.Mem.head _)
  have lbf := H.lt (w4.heap.size) 0 (.slice fa fk fc) (List.Mem.head _)
  go_wp2_with fail
  clear cbp0 lbp cbf0 lbf
  (with_reducible refine (cmp_n (.slice pa pk pc) (.slice fa fk fc) Y 4611686018427387904 m 5 _ (H.big (.slice pa pk pc) (Y) m (List.Mem.tail _ (List.Mem.tail _ (List.Mem.tail _ (List.Mem.tail _ (List.Mem.tail _ (List.Mem.tail _ (List.Mem.tail _ (List.Mem.tail _ (List.Mem.head _)))))))))) (H.big (.slice fa fk fc) (4611686018427387904) 5 (List.Mem.tail _ (List.Mem.tail _ (List.Mem.head _)))) (by omega) (by omega)).mono ?_)
  rw [hc2.out]
  rintro e w6 ⟨rfl, hb⟩
  replace H := H.below hb
  clear hb
  have cr0 := H.cell (w.heap.size + 2) 0 (.int .i64 0) (List.Mem.tail _ (List.Mem.tail _ (List.Mem.tail _ (List.Mem.tail _ (List.Mem.tail _ (List.Mem.tail _ (List.Mem.tail _ (List.Mem.tail _ (List.Mem.tail _ (List.Mem.tail _ (List.Mem.tail _ (List.Mem.tail _ (List.Mem.tail _ (List.Mem.tail _ (List.Mem.tail _ (List.Mem.tail _ (List.Mem.tail _ (List.Mem.tail _ (List.Mem.head _)))))))))))))))))))
  have cr1 := H.cell (w.heap.size + 2) 1 (.int .i64 0) (List.Mem.tail _ (List.Mem.tail _ (List.Mem.tail _ (List.Mem.tail _ (List.Mem.tail _ (List.Mem.tail _ (List.Mem.tail _ (List.Mem.tail _ (List.Mem.tail _ (List.Mem.tail _ (List.Mem.tail _ (List.Mem.tail _ (List.Mem.tail _ (List.Mem.tail _ (List.Mem.tail _ (List.Mem.tail _ (List.Mem.tail _ (List.Mem.tail _ (List.Mem.tail _ (List.Mem.head _))))))))))))))))))))
  have lr := H.lt (w.heap.size + 2) 0 (.int .i64 0) (List.Mem.tail _ (List.Mem.tail _ (List.Mem.tail _ (List.Mem.tail _ (List.Mem.tail _ (List.Mem.tail _ (List.Mem.tail _ (List.Mem.tail _ (List.Mem.tail _ (List.Mem.tail _ (List.Mem.tail _ (List.Mem.tail _ (List.Mem.tail _ (List.Mem.tail _ (List.Mem.tail _ (List.Mem.tail _ (List.Mem.tail _ (List.Mem.tail _ (List.Mem.head _)))))))))))))))))))
  have fr0 := H.frozen (w.heap.size + 2) 0 (List.Mem.tail _ (List.Mem.tail _ (List.Mem.tail _ (List.Mem.tail _ (List.Mem.tail _ (List.Mem.tail _ (List.Mem.tail _ (List.Mem.tail _ (List.Mem.tail _ (List.Mem.tail _ (List.Mem.tail _ (List.Mem.tail _ (List.Mem.tail _ (List.Mem.tail _ (List.Mem.tail _ (List.Mem.tail _ (List.Mem.tail _ (List.Mem.tail _ (List.Mem.tail _ (List.Mem.tail _ (List.Mem.head _)))))))))))))))))))))
  have fr1 := H.frozen (w.heap.size + 2) 1 (List.Mem.tail _ (List.Mem.tail _ (List.Mem.tail _ (List.Mem.tail _ (List.Mem.tail _ (List.Mem.tail _ (List.Mem.tail _ (List.Mem.tail _ (List.Mem.tail _ (List.Mem.tail _ (List.Mem.tail _ (List.Mem.tail _ (List.Mem.tail _ (List.Mem.tail _ (List.Mem.tail _ (List.Mem.tail _ (List.Mem.tail _ (List.Mem.tail _ (List.Mem.tail _ (List.Mem.tail _ (List.Mem.tail _ (List.Mem.head _))))))))))))))))))))))
  go_wp2_with fail
  exact bodyPost_ret (v := .tuple #[.agg #[.int .i64 0, .int .i64 0], .int .i64 6]) (by simp [results, Tryz.results32, go_sem, cr0, cr1]) rfl ⟨rfl, (H.old.setCell (by simp <;> omega) _).setCell (by simp <;> omega) _⟩

theorem made_n (aa : Option Addr) (ak ac : Nat) (ba : Option Addr) (bk bc : Nat) (x y : Int) (m : Nat) (w : World) (ha : BigN w (.slice aa ak ac) x m) (hb : BigN w (.slice ba bk bc) y m) (hm : m ≤ 30000) (hy : 0 < y) :
    Calls Tryz.prog 32 #[.agg #[.slice aa ak ac], .agg #[.slice ba bk bc]] w fun e w' => e = .returned (.tuple #[.agg #[.int .i64 (rN x y), .int .i64 (rD x y)], .int .i64 (rE x y)]) ∧ Below w.heap.size w w' := by
  by_cases h : fitB x y = true
  · have k := (fit_iff x y).1 h
    obtain ⟨a, b, c⟩ := r_yes h
    rw [a, b, c]
    exact made_ok aa ak ac ba bk bc x y m w ha hb hm hy k.1 k.2
  · obtain ⟨a, b, c⟩ := r_no h
    rw [a, b, c]
    by_cases h1 : mN x y ≤ 4611686018427387904
    · have h2 : 4611686018427387904 < mD x y := by
        by_cases h2 : mD x y ≤ 4611686018427387904
        · exact absurd ((fit_iff x y).2 ⟨h1, h2⟩) h
        · omega
      exact made_over2 aa ak ac ba bk bc x y m w ha hb hm hy h1 h2
    · exact made_over1 aa ak ac ba bk bc x y m w ha hb hm hy (by omega)
end Go.Proofs.YtkmchbllnfoccaaGreatDoor
