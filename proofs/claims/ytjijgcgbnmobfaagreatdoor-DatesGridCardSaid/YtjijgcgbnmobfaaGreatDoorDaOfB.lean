/- Package dates: Of. -/
import Derived.Test.YtjijgcgbnmobfaaGreatDoorDaOf
namespace Go.Proofs.YtjijgcgbnmobfaaGreatDoor
open Go.RowKit
set_option linter.unusedVariables false
set_option linter.unusedSimpArgs false

theorem of_no (mo ra ki co st en ms : Int) (bk lg eo : Bool) (ro : Int) (c : Int) (w : World) (hL : FactsT w) (hc : (Tm.mk mo ra ki co st en ms bk lg eo ro).code = c) (h0 : c ≠ 0) :
    Calls Tryz.prog 14 #[.agg #[.int .i64 mo, .int .i64 ra, .int .i64 ki, .int .i64 co, .int .i64 st, .int .i64 en, .int .i64 ms, .bool bk, .bool lg, .bool eo, .int .i64 ro]] w fun e w' => e = .returned (.tuple #[.slice none 0 0, .int .i64 c]) ∧ Below w.heap.size w w' := by
  have H := (Held.start w).add (f := factsTF) hL
  have GN := Lib.hid (fun v h => grid_no mo ra ki co st en ms bk lg eo ro c v h hc h0)
  have CE : Hid ((c == 0) = false) := Lib.hid (by simpa using h0)
  have CN : Hid ((c != 0) = true) := Lib.hid (by simpa using h0)
  clear hL hc
  go_enter Tryz.func14, Tryz.ntmps14
  go_wp2_with fail
  replace H := H.box_11 (w.heap.size) (.int .i64 mo) (.int .i64 ra) (.int .i64 ki) (.int .i64 co) (.int .i64 st) (.int .i64 en) (.int .i64 ms) (.bool bk) (.bool lg) (.bool eo) (.int .i64 ro) 23 rfl
  (with_reducible refine (GN.out _ (H.factsT (by repeat (first | with_reducible exact List.mem_cons_self | with_reducible apply List.mem_cons_of_mem)))).mono ?_)
  rintro e w1 ⟨rfl, hb⟩
  replace H := H.below hb
  clear hb
  have ce := CE.out
  have cn := CN.out
  go_wp2
  go_ret2
  exact ⟨rfl, H.old⟩
set_option maxHeartbeats 4000000 in
theorem of_yes (mo ra ki co st en ms : Int) (bk lg eo : Bool) (ro : Int) (X E : Nat → Int) (m : Nat) (D : List Int) (w : World) (hL : FactsT w) (hc : (Tm.mk mo ra ki co st en ms bk lg eo ro).code = 0) (hm : -100 ≤ ms ∧ ms ≤ 100) (hWk : (Tm.mk mo ra ki co st en ms bk lg eo ro).Walk X E m) (hD : (Tm.mk mo ra ki co st en ms bk lg eo ro).days ((Tm.mk mo ra ki co st en ms bk lg eo ro).grid X (gl E m)) = D) :
    Calls Tryz.prog 14 #[.agg #[.int .i64 mo, .int .i64 ra, .int .i64 ki, .int .i64 co, .int .i64 st, .int .i64 en, .int .i64 ms, .bool bk, .bool lg, .bool eo, .int .i64 ro]] w fun e w' => ∃ ao cap, e = .returned (.tuple #[.slice ao D.length cap, .int .i64 0]) ∧ DaysAt w' ao (ld D) D.length cap ∧ Below w.heap.size w w' := by
  have H := (Held.start w).add (f := factsTF) hL
  have GA := Lib.hid (fun v h => grid_any mo ra ki co st en ms bk lg eo ro X E m v h hc hm hWk)
  obtain ⟨K, hKe⟩ : ∃ K, gl E m = K := ⟨_, rfl⟩
  have GB := (gl_bd E m).2
  have top := hWk.top
  rw [hKe] at GA GB
  obtain ⟨G, hG⟩ : ∃ G, (Tm.mk mo ra ki co st en ms bk lg eo ro).grid X K = G := ⟨_, rfl⟩
  rw [hKe, hG] at hD
  rw [hG] at GA
  have gl1 : G.length = K := by rw [← hG]; exact Tm.grid_len _ _ _
  obtain ⟨L, hLk⟩ : ∃ L, (Tm.mk mo ra ki co st en ms bk lg eo ro).kept G = L := ⟨_, rfl⟩
  have kl := Tm.kept_len (Tm.mk mo ra ki co st en ms bk lg eo ro) G
  rw [hLk, gl1] at kl
  have hlen : L.length + 2 = D.length := by rw [← hD, Tm.days_len, hLk]
  have hdd : [st] ++ L ++ [en] = D := by rw [← hD, Tm.days_app, hLk]
  have IN := Lib.hid (fun ao cap v h => inner_any mo ra ki co st en ms bk lg eo ro ao K cap (ld G) L v (by omega) hm h (by rw [← hLk, ← gl1, dl_ld]))
  have HDD := Lib.hid hdd
  have HLEN := Lib.hid hlen
  clear hL hc hWk hD hG hLk hKe hdd gl1 hlen
  go_enter Tryz.func14, Tryz.ntmps14
  go_wp2_with fail
  replace H := H.box_11 (w.heap.size) (.int .i64 mo) (.int .i64 ra) (.int .i64 ki) (.int .i64 co) (.int .i64 st) (.int .i64 en) (.int .i64 ms) (.bool bk) (.bool lg) (.bool eo) (.int .i64 ro) 23 rfl
  (with_reducible refine (GA.out _ (H.factsT (by repeat (first | with_reducible exact List.mem_cons_self | with_reducible apply List.mem_cons_of_mem)))).mono ?_)
  rintro e w1 ⟨ao, cap, rfl, hdays, hb⟩
  replace H := (H.below hb).add (f := daysF ao (ld G) K cap) hdays
  clear hb hdays GA
  have ct0 := H.cell (w.heap.size) 0 (.int .i64 mo) (by repeat (first | with_reducible exact List.mem_cons_self | with_reducible apply List.mem_cons_of_mem))
  have ct1 := H.cell (w.heap.size) 1 (.int .i64 ra) (by repeat (first | with_reducible exact List.mem_cons_self | with_reducible apply List.mem_cons_of_mem))
  have ct2 := H.cell (w.heap.size) 2 (.int .i64 ki) (by repeat (first | with_reducible exact List.mem_cons_self | with_reducible apply List.mem_cons_of_mem))
  have ct3 := H.cell (w.heap.size) 3 (.int .i64 co) (by repeat (first | with_reducible exact List.mem_cons_self | with_reducible apply List.mem_cons_of_mem))
  have ct4 := H.cell (w.heap.size) 4 (.int .i64 st) (by repeat (first | with_reducible exact List.mem_cons_self | with_reducible apply List.mem_cons_of_mem))
  have ct5 := H.cell (w.heap.size) 5 (.int .i64 en) (by repeat (first | with_reducible exact List.mem_cons_self | with_reducible apply List.mem_cons_of_mem))
  have ct6 := H.cell (w.heap.size) 6 (.int .i64 ms) (by repeat (first | with_reducible exact List.mem_cons_self | with_reducible apply List.mem_cons_of_mem))
  have ct7 := H.cell (w.heap.size) 7 (.bool bk) (by repeat (first | with_reducible exact List.mem_cons_self | with_reducible apply List.mem_cons_of_mem))
  have ct8 := H.cell (w.heap.size) 8 (.bool lg) (by repeat (first | with_reducible exact List.mem_cons_self | with_reducible apply List.mem_cons_of_mem))
  have ct9 := H.cell (w.heap.size) 9 (.bool eo) (by repeat (first | with_reducible exact List.mem_cons_self | with_reducible apply List.mem_cons_of_mem))
  have ct10 := H.cell (w.heap.size) 10 (.int .i64 ro) (by repeat (first | with_reducible exact List.mem_cons_self | with_reducible apply List.mem_cons_of_mem))
  have lt := cell_lt ct0
  go_wp2_with fail
  clear ct0 ct1 ct2 ct3 ct4 ct5 ct6 ct7 ct8 ct9 ct10 lt
  (with_reducible refine (IN.out _ _ _ (H.days (by repeat (first | with_reducible exact List.mem_cons_self | with_reducible apply List.mem_cons_of_mem)))).mono ?_)
  rintro e w2 ⟨ao2, cap2, rfl, hdays, hb⟩
  replace H := (H.below hb).add (f := daysF ao2 (ld L) L.length cap2) hdays
  clear hb hdays IN
  have l1 : L.length ≤ 1101 := by omega
  have t1 : decide ((L.length : Int) + 1 > 1200) = false := decide_eq_false (by omega)
  have ct0 := H.cell (w.heap.size) 0 (.int .i64 mo) (by repeat (first | with_reducible exact List.mem_cons_self | with_reducible apply List.mem_cons_of_mem))
  have ct1 := H.cell (w.heap.size) 1 (.int .i64 ra) (by repeat (first | with_reducible exact List.mem_cons_self | with_reducible apply List.mem_cons_of_mem))
  have ct2 := H.cell (w.heap.size) 2 (.int .i64 ki) (by repeat (first | with_reducible exact List.mem_cons_self | with_reducible apply List.mem_cons_of_mem))
  have ct3 := H.cell (w.heap.size) 3 (.int .i64 co) (by repeat (first | with_reducible exact List.mem_cons_self | with_reducible apply List.mem_cons_of_mem))
  have ct4 := H.cell (w.heap.size) 4 (.int .i64 st) (by repeat (first | with_reducible exact List.mem_cons_self | with_reducible apply List.mem_cons_of_mem))
  have ct5 := H.cell (w.heap.size) 5 (.int .i64 en) (by repeat (first | with_reducible exact List.mem_cons_self | with_reducible apply List.mem_cons_of_mem))
  have ct6 := H.cell (w.heap.size) 6 (.int .i64 ms) (by repeat (first | with_reducible exact List.mem_cons_self | with_reducible apply List.mem_cons_of_mem))
  have ct7 := H.cell (w.heap.size) 7 (.bool bk) (by repeat (first | with_reducible exact List.mem_cons_self | with_reducible apply List.mem_cons_of_mem))
  have ct8 := H.cell (w.heap.size) 8 (.bool lg) (by repeat (first | with_reducible exact List.mem_cons_self | with_reducible apply List.mem_cons_of_mem))
  have ct9 := H.cell (w.heap.size) 9 (.bool eo) (by repeat (first | with_reducible exact List.mem_cons_self | with_reducible apply List.mem_cons_of_mem))
  have ct10 := H.cell (w.heap.size) 10 (.int .i64 ro) (by repeat (first | with_reducible exact List.mem_cons_self | with_reducible apply List.mem_cons_of_mem))
  have lt := cell_lt ct0
  go_wp2_with fail
  clear ct0 ct1 ct2 ct3 ct4 ct5 ct6 ct7 ct8 ct9 ct10 lt
  have R2 := row_days (H.days (ao := ao2) (X := ld L) (by repeat (first | with_reducible exact List.mem_cons_self | with_reducible apply List.mem_cons_of_mem)))
  rw [dl_ld] at R2
  have R1 := row_one w2 st
  have R3 := row_one (w2.alloc (.cells #[.int .i64 st] 3)) en
  rw [World.size_alloc] at R3
  obtain ⟨W3, hW3⟩ : ∃ W3, ((w2.alloc (.cells #[.int .i64 st] 3)).alloc (.cells #[.int .i64 en] 3)) = W3 := ⟨_, rfl⟩
  have B3 : Below w2.heap.size w2 W3 := by rw [← hW3]; exact ((Below.refl _ _).alloc (Nat.le_refl _) _).alloc (by simp) _
  have s3 : W3.heap.size = w2.heap.size + 1 + 1 := by rw [← hW3]; simp
  have Q1 := R1.alloc (.cells #[.int .i64 en] 3)
  rw [hW3] at Q1 R3
  have Q2 := R2.below B3
  obtain ⟨W4, hW4⟩ : ∃ W4, W3.alloc (.cells #[.slice (some ⟨w2.heap.size, 0, none⟩) 1 1, .slice ao2 L.length cap2, .slice (some ⟨w2.heap.size + 1, 0, none⟩) 1 1] 27) = W4 := ⟨_, rfl⟩
  rw [hW3, hW4]
  have c0 : W4.cell? ⟨w2.heap.size + 1 + 1, 0, none⟩ = some (.slice (some ⟨w2.heap.size, 0, none⟩) 1 1) := by rw [← s3, ← hW4]; simp [World.cell?_alloc_new]
  have c1 : W4.cell? ⟨w2.heap.size + 1 + 1, 1, none⟩ = some (.slice ao2 L.length cap2) := by rw [← s3, ← hW4]; simp [World.cell?_alloc_new]
  have c2 : W4.cell? ⟨w2.heap.size + 1 + 1, 2, none⟩ = some (.slice (some ⟨w2.heap.size + 1, 0, none⟩) 1 1) := by rw [← s3, ← hW4]; simp [World.cell?_alloc_new]
  have B4 : Below W3.heap.size W3 W4 := by rw [← hW4]; exact (Below.refl _ _).alloc (Nat.le_refl _) _
  have P1 := Q1.below B4
  have P2 := Q2.below B4
  have P3 := R3.below B4
  replace H := (H.below B3).below B4
  clear hW3 hW4 s3 R1 R2 R3 Q1 Q2 B3 B4 t1
  (with_reducible refine (ccat_3 (w2.heap.size + 1 + 1) (some ⟨w2.heap.size, 0, none⟩) 1 1 [.int .i64 st] ao2 L.length cap2 (il L) (some ⟨w2.heap.size + 1, 0, none⟩) 1 1 [.int .i64 en] W4 c0 c1 c2 P1 P2 P3 (by omega) (by omega) (by omega)).mono ?_)
  rintro e w5 ⟨v, rfl, hown, hb⟩
  replace H := H.below hb
  rw [show [Value.int .i64 st] ++ il L ++ [Value.int .i64 en] = il D by rw [← HDD.out]; simp [il], show 1 + L.length + 1 = D.length by have := HLEN.out; omega] at hown
  obtain ⟨aD, cD, rfl, hd⟩ := own_days13 rfl hown
  clear hown hb c0 c1 c2 P1 P2 P3
  go_wp2
  go_ret2
  exact ⟨aD, cD, rfl, hd, H.old⟩
end Go.Proofs.YtjijgcgbnmobfaaGreatDoor
