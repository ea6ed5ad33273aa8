/- RatioTells: the walk. -/
import Derived.Test.YtghhnpbepilefaaRShown
import Derived.Test.YtghhnpbepilefaaRefRight
import Derived.Test.YtghhnpbepilefaaRefNew
namespace Go.Proofs.Ytghhnpbepilefaa
open Go.RowKit
set_option linter.unusedVariables false

theorem new_same (n d : Int) (n1 : n < 9223372036854775808) (d1 : d < 9223372036854775808) : ∃ xn xd xe : Int,
    (∀ w, Calls Try.prog 10 #[.int .i64 n, .int .i64 d] w fun e w' => e = .returned (.tuple #[.agg #[.int .i64 xn, .int .i64 xd], .int .i64 xe]) ∧ Below w.heap.size w w') ∧
    (∀ w, Calls Try.prog 11 #[.int .i64 n, .int .i64 d] w fun e w' => e = .returned (.tuple #[.agg #[.int .i64 xn, .int .i64 xd], .int .i64 xe]) ∧ Below w.heap.size w w') := by
  by_cases a : n < 0
  · exact ⟨0, 0, 1, fun w => new_arg n d w (Or.inl a), fun w => refnew_arg1 n d w a⟩
  by_cases b : d < 0
  · exact ⟨0, 0, 1, fun w => new_arg n d w (Or.inr b), fun w => refnew_arg2 n d w (by omega) b⟩
  by_cases c : d = 0
  · exact ⟨0, 0, 7, fun w => new_zero n d w (by omega) c, fun w => refnew_zero n d w (by omega) c⟩
  · exact ⟨_, _, _, fun w => new_any n d w (by omega) n1 (by omega) d1, fun w => refnew_any n d w (by omega) n1 (by omega) d1⟩

set_option maxHeartbeats 8000000 in
set_option maxRecDepth 100000 in
theorem rtells_walk (rn rd n d a b : Int) (w : World) (h1 : (-9223372036854775808 ≤ rn ∧ rn < 9223372036854775808)) (h2 : (-9223372036854775808 ≤ rd ∧ rd < 9223372036854775808)) (h3 : (-9223372036854775808 ≤ n ∧ n < 9223372036854775808)) (h4 : (-9223372036854775808 ≤ d ∧ d < 9223372036854775808)) (h5 : (0 ≤ a ∧ a < 18446744073709551616)) (h6 : (0 ≤ b ∧ b < 18446744073709551616)) :
    Calls Try.prog 3 #[.agg #[.int .i64 rn, .int .i64 rd, .int .i64 n, .int .i64 d, .int .u64 a, .int .u64 b]] w fun e w' => e = .returned (.bool true) ∧ Below w.heap.size w w' := by
  have H := Held.start w
  obtain ⟨xn, xd, xe, N1, N2⟩ := new_same n d h3.2 h4.2
  have C1 := Lib.hid N1
  have C2 := Lib.hid N2
  obtain ⟨c, HR⟩ : ∃ c, Hid (rightB rn rd = c) := ⟨_, Lib.hid rfl⟩
  have gb := gi_bd a b 18446744073709551616 h5.1 h6.1 h5.2 h6.2
  obtain ⟨g, HG⟩ : ∃ g, Hid (gi a b = g) := ⟨_, Lib.hid rfl⟩
  rw [HG.out] at gb
  obtain ⟨g0, g1⟩ := gb
  obtain ⟨a0, a1⟩ := h5
  obtain ⟨b0, b1⟩ := h6
  clear N1 N2
  go_enter Try.func3, Try.ntmps3
  go_wp2_with fail
  replace H := ((H.alloc (.cells #[.int .i64 rn, .int .i64 rd, .int .i64 n, .int .i64 d, .int .u64 a, .int .u64 b] 26)).pair (w.heap.size + 1) (.int .i64 rn) (.int .i64 rd) 23 (by simp))
  (with_reducible refine (rshown_any _).mono ?_)
  rintro e w1 ⟨rfl, hb⟩
  replace H := H.below hb
  clear hb
  go_wp2_with fail
  (with_reducible refine (C1.out _).mono ?_)
  rintro e w2 ⟨rfl, hb⟩
  replace H := H.below hb
  clear hb
  go_wp2_with fail
  replace H := (H.pair (w2.heap.size) (.int .i64 xn) (.int .i64 xd) 23 rfl)
  (with_reducible refine (C2.out _).mono ?_)
  rintro e w3 ⟨rfl, hb⟩
  replace H := H.below hb
  clear hb
  go_wp2_with fail
  replace H := (H.pair (w3.heap.size) (.int .i64 xn) (.int .i64 xd) 23 rfl)
  (with_reducible refine (fromU_n a _ (by omega) (by omega)).mono ?_)
  rintro e w4 ⟨ua, uk, uc, rfl, NN, -, hb⟩
  replace H := H.below hb
  clear hb
  replace H := H.num NN
  clear NN
  go_wp2_with fail
  (with_reducible refine (fromU_n b _ (by omega) (by omega)).mono ?_)
  rintro e w5 ⟨va, vk, vc, rfl, NN, -, hb⟩
  replace H := H.below hb
  clear hb
  replace H := H.num NN
  clear NN
  go_wp2_with fail
  (with_reducible refine (rgcd_n ua uk uc va vk vc a b 5 _ (H.big (.slice ua uk uc) (a) 5 (List.Mem.tail _ (List.Mem.head _))) (H.big (.slice va vk vc) (b) 5 (List.Mem.head _)) (by omega)).mono ?_)
  rw [HG.out]
  rintro e w6 ⟨ga, gk, gc, rfl, NN, hb⟩
  replace H := H.below hb
  clear hb
  replace H := H.num NN
  clear NN
  go_wp2_with fail
  replace H := (H.lone (w6.heap.size) (.slice ga gk gc) 35 rfl)
  have KS : Hid (∀ w' : World, Held w [.cell (w6.heap.size) 0 (.slice ga gk gc), .free (w6.heap.size) 0, .num (.slice ga gk gc) (g) 5, .num (.slice va vk vc) (b) 5, .num (.slice ua uk uc) (a) 5, .cell (w3.heap.size) 0 (.int .i64 xn), .cell (w3.heap.size) 1 (.int .i64 xd), .free (w3.heap.size) 0, .free (w3.heap.size) 1, .cell (w2.heap.size) 0 (.int .i64 xn), .cell (w2.heap.size) 1 (.int .i64 xd), .free (w2.heap.size) 0, .free (w2.heap.size) 1, .cell (w.heap.size + 1) 0 (.int .i64 rn), .cell (w.heap.size + 1) 1 (.int .i64 rd), .free (w.heap.size + 1) 0, .free (w.heap.size + 1) 1] w' → w'.cell? ⟨w.heap.size + 1, 0, none⟩ = some (.int .i64 rn) ∧ w'.cell? ⟨w.heap.size + 1, 1, none⟩ = some (.int .i64 rd) ∧ w'.cell? ⟨w2.heap.size, 0, none⟩ = some (.int .i64 xn) ∧ w'.cell? ⟨w2.heap.size, 1, none⟩ = some (.int .i64 xd) ∧ w'.cell? ⟨w3.heap.size, 0, none⟩ = some (.int .i64 xn) ∧ w'.cell? ⟨w3.heap.size, 1, none⟩ = some (.int .i64 xd) ∧ w'.cell? ⟨w6.heap.size, 0, none⟩ = some (.slice ga gk gc) ∧ Held w [.cell (w6.heap.size) 0 (.slice ga gk gc), .free (w6.heap.size) 0, .num (.slice ga gk gc) (g) 5, .num (.slice va vk vc) (b) 5, .num (.slice ua uk uc) (a) 5, .cell (w3.heap.size) 0 (.int .i64 xn), .cell (w3.heap.size) 1 (.int .i64 xd), .free (w3.heap.size) 0, .free (w3.heap.size) 1, .cell (w2.heap.size) 0 (.int .i64 xn), .cell (w2.heap.size) 1 (.int .i64 xd), .free (w2.heap.size) 0, .free (w2.heap.size) 1, .cell (w.heap.size + 1) 0 (.int .i64 rn), .cell (w.heap.size + 1) 1 (.int .i64 rd), .free (w.heap.size + 1) 0, .free (w.heap.size + 1) 1] w') := Lib.hid (fun _ h => ⟨h.cell (w.heap.size + 1) 0 (.int .i64 rn) (List.Mem.tail _ (List.Mem.tail _ (List.Mem.tail _ (List.Mem.tail _ (List.Mem.tail _ (List.Mem.tail _ (List.Mem.tail _ (List.Mem.tail _ (List.Mem.tail _ (List.Mem.tail _ (List.Mem.tail _ (List.Mem.tail _ (List.Mem.tail _ (List.Mem.head _)))))))))))))), h.cell (w.heap.size + 1) 1 (.int .i64 rd) (List.Mem.tail _ (List.Mem.tail _ (List.Mem.tail _ (List.Mem.tail _ (List.Mem.tail _ (List.Mem.tail _ (List.Mem.tail _ (List.Mem.tail _ (List.Mem.tail _ (List.Mem.tail _ (List.Mem.tail _ (List.Mem.tail _ (List.Mem.tail _ (List.Mem.tail _ (List.Mem.head _))))))))))))))), h.cell (w2.heap.size) 0 (.int .i64 xn) (List.Mem.tail _ (List.Mem.tail _ (List.Mem.tail _ (List.Mem.tail _ (List.Mem.tail _ (List.Mem.tail _ (List.Mem.tail _ (List.Mem.tail _ (List.Mem.tail _ (List.Mem.head _)))))))))), h.cell (w2.heap.size) 1 (.int .i64 xd) (List.Mem.tail _ (List.Mem.tail _ (List.Mem.tail _ (List.Mem.tail _ (List.Mem.tail _ (List.Mem.tail _ (List.Mem.tail _ (List.Mem.tail _ (List.Mem.tail _ (List.Mem.tail _ (List.Mem.head _))))))))))), h.cell (w3.heap.size) 0 (.int .i64 xn) (List.Mem.tail _ (List.Mem.tail _ (List.Mem.tail _ (List.Mem.tail _ (List.Mem.tail _ (List.Mem.head _)))))), h.cell (w3.heap.size) 1 (.int .i64 xd) (List.Mem.tail _ (List.Mem.tail _ (List.Mem.tail _ (List.Mem.tail _ (List.Mem.tail _ (List.Mem.tail _ (List.Mem.head _))))))), h.cell (w6.heap.size) 0 (.slice ga gk gc) (List.Mem.head _), h⟩)
  have KH : Hid (∀ w' : World, w'.cell? ⟨w.heap.size + 1, 0, none⟩ = some (.int .i64 rn) ∧ w'.cell? ⟨w.heap.size + 1, 1, none⟩ = some (.int .i64 rd) ∧ w'.cell? ⟨w2.heap.size, 0, none⟩ = some (.int .i64 xn) ∧ w'.cell? ⟨w2.heap.size, 1, none⟩ = some (.int .i64 xd) ∧ w'.cell? ⟨w3.heap.size, 0, none⟩ = some (.int .i64 xn) ∧ w'.cell? ⟨w3.heap.size, 1, none⟩ = some (.int .i64 xd) ∧ w'.cell? ⟨w6.heap.size, 0, none⟩ = some (.slice ga gk gc) ∧ Held w [.cell (w6.heap.size) 0 (.slice ga gk gc), .free (w6.heap.size) 0, .num (.slice ga gk gc) (g) 5, .num (.slice va vk vc) (b) 5, .num (.slice ua uk uc) (a) 5, .cell (w3.heap.size) 0 (.int .i64 xn), .cell (w3.heap.size) 1 (.int .i64 xd), .free (w3.heap.size) 0, .free (w3.heap.size) 1, .cell (w2.heap.size) 0 (.int .i64 xn), .cell (w2.heap.size) 1 (.int .i64 xd), .free (w2.heap.size) 0, .free (w2.heap.size) 1, .cell (w.heap.size + 1) 0 (.int .i64 rn), .cell (w.heap.size + 1) 1 (.int .i64 rd), .free (w.heap.size + 1) 0, .free (w.heap.size + 1) 1] w' → Held w [.cell (w6.heap.size) 0 (.slice ga gk gc), .free (w6.heap.size) 0, .num (.slice ga gk gc) (g) 5, .num (.slice va vk vc) (b) 5, .num (.slice ua uk uc) (a) 5, .cell (w3.heap.size) 0 (.int .i64 xn), .cell (w3.heap.size) 1 (.int .i64 xd), .free (w3.heap.size) 0, .free (w3.heap.size) 1, .cell (w2.heap.size) 0 (.int .i64 xn), .cell (w2.heap.size) 1 (.int .i64 xd), .free (w2.heap.size) 0, .free (w2.heap.size) 1, .cell (w.heap.size + 1) 0 (.int .i64 rn), .cell (w.heap.size + 1) 1 (.int .i64 rd), .free (w.heap.size + 1) 0, .free (w.heap.size + 1) 1] w') := Lib.hid (fun _ h => h.2.2.2.2.2.2.2)
  have HS := Lib.hid (KS.out _ H.drew)
  go_region_held3 (fun w' => w'.cell? ⟨w.heap.size + 1, 0, none⟩ = some (.int .i64 rn) ∧ w'.cell? ⟨w.heap.size + 1, 1, none⟩ = some (.int .i64 rd) ∧ w'.cell? ⟨w2.heap.size, 0, none⟩ = some (.int .i64 xn) ∧ w'.cell? ⟨w2.heap.size, 1, none⟩ = some (.int .i64 xd) ∧ w'.cell? ⟨w3.heap.size, 0, none⟩ = some (.int .i64 xn) ∧ w'.cell? ⟨w3.heap.size, 1, none⟩ = some (.int .i64 xd) ∧ w'.cell? ⟨w6.heap.size, 0, none⟩ = some (.slice ga gk gc) ∧ Held w [.cell (w6.heap.size) 0 (.slice ga gk gc), .free (w6.heap.size) 0, .num (.slice ga gk gc) (g) 5, .num (.slice va vk vc) (b) 5, .num (.slice ua uk uc) (a) 5, .cell (w3.heap.size) 0 (.int .i64 xn), .cell (w3.heap.size) 1 (.int .i64 xd), .free (w3.heap.size) 0, .free (w3.heap.size) 1, .cell (w2.heap.size) 0 (.int .i64 xn), .cell (w2.heap.size) 1 (.int .i64 xd), .free (w2.heap.size) 0, .free (w2.heap.size) 1, .cell (w.heap.size + 1) 0 (.int .i64 rn), .cell (w.heap.size + 1) 1 (.int .i64 rd), .free (w.heap.size + 1) 0, .free (w.heap.size + 1) 1] w')
    (first | exact HS.out | (refine KS.out _ (Held.below (KH.out _ ?_) hb); assumption) | (refine KS.out _ (Held.alloc (KH.out _ ?_) _); assumption))
    (first
      | (go_at_call 14; (with_reducible refine (right_is rn rd c _ HR.out).mono ?_); rintro e w' ⟨rfl, hb⟩)
      | (go_at_call 15; (with_reducible refine (rright_is rn rd c _ HR.out).mono ?_); rintro e w' ⟨rfl, hb⟩)
      | (go_at_call 17; (with_reducible refine (gcd_is a b g _ a0 a1 b0 b1 HG.out).mono ?_); rintro e w' ⟨rfl, hb⟩)
      | (go_at_call 13; (with_reducible refine (fromU_n g _ (by omega) (by omega)).mono ?_); rintro e w' ⟨fa, fk, fc, rfl, NF, -, hb⟩)
      | (go_at_call 16; (with_reducible refine (cmp_n (.slice fa fk fc) (.slice ga gk gc) g g 5 5 _ NF (Held.big (KH.out _ (by assumption)) (.slice ga gk gc) g 5 (by repeat (first | with_reducible exact List.mem_cons_self | with_reducible apply List.mem_cons_of_mem))) (by omega) (by omega)).mono ?_); rw [cmpI_eq rfl]; rintro e w' ⟨rfl, hb⟩))
  all_goals
    go_wp2
    go_ret
    exact ⟨rfl, (KH.out _ (by assumption)).old⟩
end Go.Proofs.Ytghhnpbepilefaa
