/- DatesMany: a loan of a whole number of periods tells the same days from both ends; a day more makes a stub. -/
import Derived.Test.YtjijgcgbnmobfaaGreatDoorDaManyNum
import Derived.Test.YtjijgcgbnmobfaaGreatDoorDaDays
namespace Go.Proofs.YtjijgcgbnmobfaaGreatDoor
open Go.RowKit
set_option linter.unusedVariables false
set_option linter.unusedSimpArgs false

theorem Held.quad {w W : World} {fs : List Fact} (h : Held w fs W) (B : Nat) (x0 x1 x2 x3 : Value) (t : TypeId) (hB : W.heap.size = B) :
    Held w (.cell B 0 x0 :: .cell B 1 x1 :: .cell B 2 x2 :: .cell B 3 x3 :: .free B 0 :: .free B 1 :: .free B 2 :: .free B 3 :: fs) (W.alloc (.cells #[x0, x1, x2, x3] t)) := by
  subst hB
  exact ((((((((h.alloc _).add (f := .free W.heap.size 3) ⟨by simp, by simp [go_sem]⟩).add (f := .free W.heap.size 2) ⟨by simp, by simp [go_sem]⟩).add (f := .free W.heap.size 1) ⟨by simp, by simp [go_sem]⟩).add (f := .free W.heap.size 0) ⟨by simp, by simp [go_sem]⟩).add (f := .cell W.heap.size 3 x3) (by simp [Fact.at, World.cell?_alloc_new])).add (f := .cell W.heap.size 2 x2) (by simp [Fact.at, World.cell?_alloc_new])).add (f := .cell W.heap.size 1 x1) (by simp [Fact.at, World.cell?_alloc_new])).add (f := .cell W.heap.size 0 x0) (by simp [Fact.at, World.cell?_alloc_new])
set_option maxHeartbeats 8000000 in
set_option maxRecDepth 100000 in
theorem dmany_walk (n many period : Int) (long : Bool) (w : World) (hL : FactsT w) (hn : -9223372036854775808 ≤ n ∧ n < 9223372036854775808) (hm : 0 ≤ many ∧ many < 256) (hp : 0 ≤ period ∧ period < 256) : Calls Tryz.prog 7 #[.agg #[.int .i64 n, .int .u8 many, .int .u8 period, .bool long]] w fun e w' => e = .returned (.bool true) ∧ Below w.heap.size w w' := by
  have H := (Held.start w).add (f := factsTF) hL
  have HF := Lib.hid hL
  obtain ⟨ms, hms⟩ : ∃ ms, msOf (period % 6) = ms := ⟨_, rfl⟩
  have hMo : Mo ms := hms ▸ msOf_mo _
  have mb := mo_bd hMo
  obtain ⟨j, hj⟩ : ∃ j : Nat, (j : Int) = many % 100 := ⟨(many % 100).toNat, by omega⟩
  have jb : j ≤ 99 := by omega
  obtain ⟨K, hK⟩ : ∃ K : Int, 1 + many % 100 = K := ⟨_, rfl⟩
  have kb : 1 ≤ K ∧ K ≤ 100 := by omega
  obtain ⟨z, hz⟩ : ∃ z, K * ms = z := ⟨_, rfl⟩
  have zb := mul_bd2 (k := K) (a := ms) (by omega) (by omega) mb.1 mb.2
  rw [hz] at zb
  obtain ⟨y, mo, d, e, r, e2, hd, hr, he, he2, hX⟩ := many_is n ms z j hMo jb (by rw [← hz]; congr 1; omega)
  have OFn := Lib.hid (fun v => rof_any n y mo d e v hd)
  have SHn := Lib.hid (fun v => rshift_any n z r e2 v hr)
  have HKJ : Hid (K = (j : Int) + 1) := Lib.hid (by omega)
  have HZ := Lib.hid hz
  have HK := Lib.hid hK
  have HD := Lib.hid he
  have HR := Lib.hid he2
  have HX := Lib.hid hX
  have HM := Lib.hid hMo
  have HMS := Lib.hid hms
  obtain ⟨m1, m2⟩ := hm
  obtain ⟨p1, p2⟩ := hp
  obtain ⟨z1, z2⟩ := zb
  obtain ⟨k1, k2⟩ := kb
  obtain ⟨b1, b2⟩ := mb
  clear hL hd hms hMo hj hK hz hr he he2 hX
  go_enter Tryz.func7, Tryz.ntmps7
  go_wp2_with fail
  replace H := H.quad (w.heap.size) (.int .i64 n) (.int .u8 many) (.int .u8 period) (.bool long) 38 rfl
  (with_reducible refine (dshown_any _ (H.factsT (by repeat (first | with_reducible exact List.mem_cons_self | with_reducible apply List.mem_cons_of_mem)))).mono ?_)
  rintro e w1 ⟨rfl, hb⟩
  replace H := H.below hb
  clear hb
  have cp0 := H.cell (w.heap.size) 0 (.int .i64 n) (by repeat (first | with_reducible exact List.mem_cons_self | with_reducible apply List.mem_cons_of_mem))
  have cp1 := H.cell (w.heap.size) 1 (.int .u8 many) (by repeat (first | with_reducible exact List.mem_cons_self | with_reducible apply List.mem_cons_of_mem))
  have cp2 := H.cell (w.heap.size) 2 (.int .u8 period) (by repeat (first | with_reducible exact List.mem_cons_self | with_reducible apply List.mem_cons_of_mem))
  have cp3 := H.cell (w.heap.size) 3 (.bool long) (by repeat (first | with_reducible exact List.mem_cons_self | with_reducible apply List.mem_cons_of_mem))
  have lp := cell_lt cp0
  go_upto_region 6 with fail
  clear cp0 cp1 cp2 cp3 lp
  go_cut [8] from 23 (fun v wc => v = .int .i64 ms ∧ Held w [factsTF] wc)
  case first =>
    have hs : period % 6 = 0 ∨ period % 6 = 1 ∨ period % 6 = 2 ∨ period % 6 = 3 ∨ period % 6 = 4 ∨ period % 6 = 5 := by omega
    rcases hs with hs | hs | hs | hs | hs | hs
    all_goals
      go_wp2_with fail
      go_meet
      case rel =>
        have hq := HMS.out
        rw [hs] at hq
        refine ⟨?_, (H.alloc _).sub (by intro f hf; simp only [List.mem_cons, List.not_mem_nil, or_false] at hf; rcases hf with rfl; exact (by repeat (first | with_reducible exact List.mem_cons_self | with_reducible apply List.mem_cons_of_mem)))⟩
        rw [← hq]
        rfl
  case rest =>
    clear H
    obtain ⟨rfl, H⟩ := hcut
    obtain ⟨w2, hw2⟩ : ∃ w2, wc = w2 := ⟨_, rfl⟩
    rw [hw2] at H ⊢
    clear hw2
    have hK := HK.out
    go_upto_region 8 with fail
    clear hK
    go_wp2_with fail
    (with_reducible refine (OFn.out _).mono ?_)
    rintro e w3 ⟨rfl, hb⟩
    replace H := H.below hb
    clear hb
    have hz := HZ.out
    go_wp2_with fail
    clear hz
    replace H := H.triple (w3.heap.size) (.int .i64 y) (.int .i64 mo) (.int .i64 d) 40 rfl
    (with_reducible refine (SHn.out _).mono ?_)
    rintro e w4 ⟨rfl, hb⟩
    replace H := H.below hb
    clear hb
    have ca0 := H.cell (w3.heap.size) 0 (.int .i64 y) (by repeat (first | with_reducible exact List.mem_cons_self | with_reducible apply List.mem_cons_of_mem))
    have ca1 := H.cell (w3.heap.size) 1 (.int .i64 mo) (by repeat (first | with_reducible exact List.mem_cons_self | with_reducible apply List.mem_cons_of_mem))
    have ca2 := H.cell (w3.heap.size) 2 (.int .i64 d) (by repeat (first | with_reducible exact List.mem_cons_self | with_reducible apply List.mem_cons_of_mem))
    have la := cell_lt ca0
    have e_is := HD.out
    have e2_is := HR.out
    rcases e_is with rfl | rfl
    rotate_left
    · go_wp2
      go_ret
      exact ⟨rfl, H.old⟩
    rcases e2_is with rfl | rfl
    rotate_left
    · go_wp2
      go_ret
      exact ⟨rfl, H.old⟩
    by_cases h28 : d ≤ 28
    rotate_left
    · have td : decide (d > 28) = true := decide_eq_true (by omega)
      clear h28
      go_wp2
      go_ret
      exact ⟨rfl, H.old⟩
    by_cases hr : r ≤ 3652000
    rotate_left
    · have td : decide (d > 28) = false := decide_eq_false (by omega)
      have tr : decide (r > 3652000) = true := decide_eq_true (by omega)
      clear hr h28
      go_wp2
      go_ret
      exact ⟨rfl, H.old⟩
    have M := HX.out rfl rfl h28
    obtain ⟨T, hT⟩ : ∃ T, 12 * y + mo - 1 = T := ⟨_, rfl⟩
    rw [hT] at M
    clear hT
    have ds := M.days
    obtain ⟨⟨n1, n2⟩, ⟨r1, r2⟩, nr⟩ := ds
    have O1 := Lib.hid (fun v h => of_dd 1 0 0 0 n r ms false long false 0 _ _ (j + 1) j v h (M.code r ⟨by omega, by omega⟩ false long) (by omega) (by omega) (M.fwd long) (M.qF long))
    have O2 := Lib.hid (fun v h => of_dd 1 0 0 0 n r ms true long false 0 _ _ (j + 1) j v h (M.code r ⟨by omega, by omega⟩ true long) (by omega) (by omega) (M.back long) (M.qB long))
    have O3 := Lib.hid (fun v h => of_dd 1 0 0 0 n (r + 1) ms false false false 0 _ _ (j + 1 + 1) (j + 1) v h (M.code (r + 1) ⟨by omega, by omega⟩ false false) (by omega) (by omega) (M.more false hr) (if_neg (fun g => by cases g.1)))
    have O4 := Lib.hid (fun v h => of_dd 1 0 0 0 n (r + 1) ms false true false 0 _ _ (j + 1 + 1) j v h (M.code (r + 1) ⟨by omega, by omega⟩ false true) (by omega) (by omega) (M.more true hr) (if_pos ⟨rfl, by omega, M.beyond⟩))
    have SM : Hid (∀ i, i < j + 1 + 1 → _) := Lib.hid (fun i hi => M.same long i (by omega))
    simp only [Nat.add_sub_cancel] at SM
    obtain ⟨Y1, hY1⟩ : ∃ Y, (Tm.mk 1 0 0 0 n r ms false long false 0).dd (fun i => sx false y mo d (T + (i : Int) * ms)) j = Y := ⟨_, rfl⟩
    obtain ⟨Y2, hY2⟩ : ∃ Y, (Tm.mk 1 0 0 0 n r ms true long false 0).dd (fun i => sx false y mo d (T + ((j + 1 : Nat) : Int) * ms + (i : Int) * -ms)) j = Y := ⟨_, rfl⟩
    obtain ⟨Y3, hY3⟩ : ∃ Y, (Tm.mk 1 0 0 0 n (r + 1) ms false false false 0).dd (fun i => sx false y mo d (T + (i : Int) * ms)) (j + 1) = Y := ⟨_, rfl⟩
    obtain ⟨Y4, hY4⟩ : ∃ Y, (Tm.mk 1 0 0 0 n (r + 1) ms false true false 0).dd (fun i => sx false y mo d (T + (i : Int) * ms)) j = Y := ⟨_, rfl⟩
    rw [hY1] at O1 SM
    rw [hY2] at O2 SM
    rw [hY3] at O3
    rw [hY4] at O4
    clear hY1 hY2 hY3 hY4 M
    have kj := HKJ.out
    have q1 : ((j : Int) + 1 + 1 != K + 1) = false := by rw [kj]; simp
    have q2 : ((j : Int) + 1 + 1 + 1 == K + 2) = true := by rw [kj]; simp; omega
    have q3 : ((j : Int) + 1 + 1 == K + 1) = true := by rw [kj]; simp
    have td : decide (d > 28) = false := decide_eq_false (by omega)
    have tr : decide (r > 3652000) = false := decide_eq_false (by omega)
    clear kj h28 hr
    go_wp2_with fail
    clear td tr
    have HB0 := H.size
    replace H := H.box_11 (w4.heap.size) (.int .i64 1) (.int .i64 0) (.int .i64 0) (.int .i64 0) (.int .i64 n) (.int .i64 r) (.int .i64 ms) (.bool false) (.bool long) (.bool false) (.int .i64 0) 23 rfl
    have HBT : w.heap.size ≤ w4.heap.size := HB0
    clear HB0
    (with_reducible refine (O1.out _ (H.factsT (by repeat (first | with_reducible exact List.mem_cons_self | with_reducible apply List.mem_cons_of_mem)))).mono ?_)
    rintro e w5 ⟨aA, cA, rfl, hd, hb⟩
    replace H := (H.below hb).add (f := daysF aA Y1 (j + 1 + 1) cA) hd
    clear hb hd
    have ct0 := H.cell (w4.heap.size) 0 (.int .i64 1) (by repeat (first | with_reducible exact List.mem_cons_self | with_reducible apply List.mem_cons_of_mem))
    have ct1 := H.cell (w4.heap.size) 1 (.int .i64 0) (by repeat (first | with_reducible exact List.mem_cons_self | with_reducible apply List.mem_cons_of_mem))
    have ct2 := H.cell (w4.heap.size) 2 (.int .i64 0) (by repeat (first | with_reducible exact List.mem_cons_self | with_reducible apply List.mem_cons_of_mem))
    have ct3 := H.cell (w4.heap.size) 3 (.int .i64 0) (by repeat (first | with_reducible exact List.mem_cons_self | with_reducible apply List.mem_cons_of_mem))
    have ct4 := H.cell (w4.heap.size) 4 (.int .i64 n) (by repeat (first | with_reducible exact List.mem_cons_self | with_reducible apply List.mem_cons_of_mem))
    have ct5 := H.cell (w4.heap.size) 5 (.int .i64 r) (by repeat (first | with_reducible exact List.mem_cons_self | with_reducible apply List.mem_cons_of_mem))
    have ct6 := H.cell (w4.heap.size) 6 (.int .i64 ms) (by repeat (first | with_reducible exact List.mem_cons_self | with_reducible apply List.mem_cons_of_mem))
    have ct7 := H.cell (w4.heap.size) 7 (.bool false) (by repeat (first | with_reducible exact List.mem_cons_self | with_reducible apply List.mem_cons_of_mem))
    have ct8 := H.cell (w4.heap.size) 8 (.bool long) (by repeat (first | with_reducible exact List.mem_cons_self | with_reducible apply List.mem_cons_of_mem))
    have ct9 := H.cell (w4.heap.size) 9 (.bool false) (by repeat (first | with_reducible exact List.mem_cons_self | with_reducible apply List.mem_cons_of_mem))
    have ct10 := H.cell (w4.heap.size) 10 (.int .i64 0) (by repeat (first | with_reducible exact List.mem_cons_self | with_reducible apply List.mem_cons_of_mem))
    have lt := cell_lt ct0
    have ft7 := H.frozen (w4.heap.size) 7 (by repeat (first | with_reducible exact List.mem_cons_self | with_reducible apply List.mem_cons_of_mem))
    go_wp2_with fail
    clear ct0 ct1 ct2 ct3 ct4 ct5 ct6 ct7 ct8 ct9 ct10 lt
    replace H := H.put16 [.cell (w4.heap.size) 0 (.int .i64 1), .cell (w4.heap.size) 1 (.int .i64 0), .cell (w4.heap.size) 2 (.int .i64 0), .cell (w4.heap.size) 3 (.int .i64 0), .cell (w4.heap.size) 4 (.int .i64 n), .cell (w4.heap.size) 5 (.int .i64 r), .cell (w4.heap.size) 6 (.int .i64 ms), .cell (w4.heap.size) 8 (.bool long), .cell (w4.heap.size) 9 (.bool false), .cell (w4.heap.size) 10 (.int .i64 0), .free (w4.heap.size) 0, .free (w4.heap.size) 1, .free (w4.heap.size) 2, .free (w4.heap.size) 3, .free (w4.heap.size) 4, .free (w4.heap.size) 5, .free (w4.heap.size) 6, .free (w4.heap.size) 7, .free (w4.heap.size) 8, .free (w4.heap.size) 9, .free (w4.heap.size) 10, factsTF, daysF aA Y1 (j + 1 + 1) cA] (w4.heap.size) 7 (.bool false) (.bool true) (by repeat (first | with_reducible exact List.mem_cons_self | with_reducible apply List.mem_cons_of_mem)) HBT (by
      intro f hf
      simp only [List.mem_cons, List.not_mem_nil, or_false] at hf
      rcases hf with rfl | rfl | rfl | rfl | rfl | rfl | rfl | rfl | rfl | rfl | rfl | rfl | rfl | rfl | rfl | rfl | rfl | rfl | rfl | rfl | rfl | rfl | rfl
      all_goals refine ⟨(by repeat (first | with_reducible exact List.mem_cons_self | with_reducible apply List.mem_cons_of_mem)), ?_⟩
      all_goals first
        | exact Or.inr (by decide)
        | exact trivial
        | exact Or.inl HF.out
        | exact Or.inr (fun W u ho h => setv16 h ho (fun j hj e => by cases e) u))
    revert H
    generalize World.setCell _ _ _ = V1
    intro H
    (with_reducible refine (O2.out _ (H.factsT (by repeat (first | with_reducible exact List.mem_cons_self | with_reducible apply List.mem_cons_of_mem)))).mono ?_)
    rintro e w6 ⟨aB, cB, rfl, hd, hb⟩
    replace H := (H.below hb).add (f := daysF aB Y2 (j + 1 + 1) cB) hd
    clear hb hd
    have ct0 := H.cell (w4.heap.size) 0 (.int .i64 1) (by repeat (first | with_reducible exact List.mem_cons_self | with_reducible apply List.mem_cons_of_mem))
    have ct1 := H.cell (w4.heap.size) 1 (.int .i64 0) (by repeat (first | with_reducible exact List.mem_cons_self | with_reducible apply List.mem_cons_of_mem))
    have ct2 := H.cell (w4.heap.size) 2 (.int .i64 0) (by repeat (first | with_reducible exact List.mem_cons_self | with_reducible apply List.mem_cons_of_mem))
    have ct3 := H.cell (w4.heap.size) 3 (.int .i64 0) (by repeat (first | with_reducible exact List.mem_cons_self | with_reducible apply List.mem_cons_of_mem))
    have ct4 := H.cell (w4.heap.size) 4 (.int .i64 n) (by repeat (first | with_reducible exact List.mem_cons_self | with_reducible apply List.mem_cons_of_mem))
    have ct5 := H.cell (w4.heap.size) 5 (.int .i64 r) (by repeat (first | with_reducible exact List.mem_cons_self | with_reducible apply List.mem_cons_of_mem))
    have ct6 := H.cell (w4.heap.size) 6 (.int .i64 ms) (by repeat (first | with_reducible exact List.mem_cons_self | with_reducible apply List.mem_cons_of_mem))
    have ct7 := H.cell (w4.heap.size) 7 (.bool true) (by repeat (first | with_reducible exact List.mem_cons_self | with_reducible apply List.mem_cons_of_mem))
    have ct8 := H.cell (w4.heap.size) 8 (.bool long) (by repeat (first | with_reducible exact List.mem_cons_self | with_reducible apply List.mem_cons_of_mem))
    have ct9 := H.cell (w4.heap.size) 9 (.bool false) (by repeat (first | with_reducible exact List.mem_cons_self | with_reducible apply List.mem_cons_of_mem))
    have ct10 := H.cell (w4.heap.size) 10 (.int .i64 0) (by repeat (first | with_reducible exact List.mem_cons_self | with_reducible apply List.mem_cons_of_mem))
    have lt := cell_lt ct0
    go_wp2_with fail
    clear ct0 ct1 ct2 ct3 ct4 ct5 ct6 ct7 ct8 ct9 ct10 lt
    (with_reducible refine (rrow_yes aA (j + 1 + 1) cA Y1 aB cB Y2 _ (by omega) (H.days (ao := aA) (X := Y1) (n := (j + 1 + 1)) (cap := cA) (by repeat (first | with_reducible exact List.mem_cons_self | with_reducible apply List.mem_cons_of_mem))) (H.days (ao := aB) (X := Y2) (n := (j + 1 + 1)) (cap := cB) (by repeat (first | with_reducible exact List.mem_cons_self | with_reducible apply List.mem_cons_of_mem))) (fun i hi => SM.out i hi)).mono ?_)
    rintro e w7 ⟨rfl, hb⟩
    replace H := H.below hb
    clear hb
    have ct0 := H.cell (w4.heap.size) 0 (.int .i64 1) (by repeat (first | with_reducible exact List.mem_cons_self | with_reducible apply List.mem_cons_of_mem))
    have ct1 := H.cell (w4.heap.size) 1 (.int .i64 0) (by repeat (first | with_reducible exact List.mem_cons_self | with_reducible apply List.mem_cons_of_mem))
    have ct2 := H.cell (w4.heap.size) 2 (.int .i64 0) (by repeat (first | with_reducible exact List.mem_cons_self | with_reducible apply List.mem_cons_of_mem))
    have ct3 := H.cell (w4.heap.size) 3 (.int .i64 0) (by repeat (first | with_reducible exact List.mem_cons_self | with_reducible apply List.mem_cons_of_mem))
    have ct4 := H.cell (w4.heap.size) 4 (.int .i64 n) (by repeat (first | with_reducible exact List.mem_cons_self | with_reducible apply List.mem_cons_of_mem))
    have ct5 := H.cell (w4.heap.size) 5 (.int .i64 r) (by repeat (first | with_reducible exact List.mem_cons_self | with_reducible apply List.mem_cons_of_mem))
    have ct6 := H.cell (w4.heap.size) 6 (.int .i64 ms) (by repeat (first | with_reducible exact List.mem_cons_self | with_reducible apply List.mem_cons_of_mem))
    have ct7 := H.cell (w4.heap.size) 7 (.bool true) (by repeat (first | with_reducible exact List.mem_cons_self | with_reducible apply List.mem_cons_of_mem))
    have ct8 := H.cell (w4.heap.size) 8 (.bool long) (by repeat (first | with_reducible exact List.mem_cons_self | with_reducible apply List.mem_cons_of_mem))
    have ct9 := H.cell (w4.heap.size) 9 (.bool false) (by repeat (first | with_reducible exact List.mem_cons_self | with_reducible apply List.mem_cons_of_mem))
    have ct10 := H.cell (w4.heap.size) 10 (.int .i64 0) (by repeat (first | with_reducible exact List.mem_cons_self | with_reducible apply List.mem_cons_of_mem))
    have lt := cell_lt ct0
    have ft7 := H.frozen (w4.heap.size) 7 (by repeat (first | with_reducible exact List.mem_cons_self | with_reducible apply List.mem_cons_of_mem))
    have ft8 := H.frozen (w4.heap.size) 8 (by repeat (first | with_reducible exact List.mem_cons_self | with_reducible apply List.mem_cons_of_mem))
    have ft5 := H.frozen (w4.heap.size) 5 (by repeat (first | with_reducible exact List.mem_cons_self | with_reducible apply List.mem_cons_of_mem))
    go_wp2_with fail
    clear ct0 ct1 ct2 ct3 ct4 ct5 ct6 ct7 ct8 ct9 ct10 lt
    replace H := H.put16 [.cell (w4.heap.size) 0 (.int .i64 1), .cell (w4.heap.size) 1 (.int .i64 0), .cell (w4.heap.size) 2 (.int .i64 0), .cell (w4.heap.size) 3 (.int .i64 0), .cell (w4.heap.size) 4 (.int .i64 n), .cell (w4.heap.size) 5 (.int .i64 r), .cell (w4.heap.size) 6 (.int .i64 ms), .cell (w4.heap.size) 8 (.bool long), .cell (w4.heap.size) 9 (.bool false), .cell (w4.heap.size) 10 (.int .i64 0), .free (w4.heap.size) 0, .free (w4.heap.size) 1, .free (w4.heap.size) 2, .free (w4.heap.size) 3, .free (w4.heap.size) 4, .free (w4.heap.size) 5, .free (w4.heap.size) 6, .free (w4.heap.size) 7, .free (w4.heap.size) 8, .free (w4.heap.size) 9, .free (w4.heap.size) 10, factsTF] (w4.heap.size) 7 (.bool true) (.bool false) (by repeat (first | with_reducible exact List.mem_cons_self | with_reducible apply List.mem_cons_of_mem)) HBT (by
      intro f hf
      simp only [List.mem_cons, List.not_mem_nil, or_false] at hf
      rcases hf with rfl | rfl | rfl | rfl | rfl | rfl | rfl | rfl | rfl | rfl | rfl | rfl | rfl | rfl | rfl | rfl | rfl | rfl | rfl | rfl | rfl | rfl
      all_goals refine ⟨(by repeat (first | with_reducible exact List.mem_cons_self | with_reducible apply List.mem_cons_of_mem)), ?_⟩
      all_goals first
        | exact Or.inr (by decide)
        | exact trivial
        | exact Or.inl HF.out
        | exact Or.inr (fun W u ho h => setv16 h ho (fun j hj e => by cases e) u))
    replace H := H.put16 [.cell (w4.heap.size) 0 (.int .i64 1), .cell (w4.heap.size) 1 (.int .i64 0), .cell (w4.heap.size) 2 (.int .i64 0), .cell (w4.heap.size) 3 (.int .i64 0), .cell (w4.heap.size) 4 (.int .i64 n), .cell (w4.heap.size) 5 (.int .i64 r), .cell (w4.heap.size) 6 (.int .i64 ms), .cell (w4.heap.size) 7 (.bool false), .cell (w4.heap.size) 9 (.bool false), .cell (w4.heap.size) 10 (.int .i64 0), .free (w4.heap.size) 0, .free (w4.heap.size) 1, .free (w4.heap.size) 2, .free (w4.heap.size) 3, .free (w4.heap.size) 4, .free (w4.heap.size) 5, .free (w4.heap.size) 6, .free (w4.heap.size) 7, .free (w4.heap.size) 8, .free (w4.heap.size) 9, .free (w4.heap.size) 10, factsTF] (w4.heap.size) 8 (.bool long) (.bool false) (by repeat (first | with_reducible exact List.mem_cons_self | with_reducible apply List.mem_cons_of_mem)) HBT (by
      intro f hf
      simp only [List.mem_cons, List.not_mem_nil, or_false] at hf
      rcases hf with rfl | rfl | rfl | rfl | rfl | rfl | rfl | rfl | rfl | rfl | rfl | rfl | rfl | rfl | rfl | rfl | rfl | rfl | rfl | rfl | rfl | rfl
      all_goals refine ⟨(by repeat (first | with_reducible exact List.mem_cons_self | with_reducible apply List.mem_cons_of_mem)), ?_⟩
      all_goals first
        | exact Or.inr (by decide)
        | exact trivial
        | exact Or.inl HF.out
        | exact Or.inr (fun W u ho h => setv16 h ho (fun j hj e => by cases e) u))
    replace H := H.put16 [.cell (w4.heap.size) 0 (.int .i64 1), .cell (w4.heap.size) 1 (.int .i64 0), .cell (w4.heap.size) 2 (.int .i64 0), .cell (w4.heap.size) 3 (.int .i64 0), .cell (w4.heap.size) 4 (.int .i64 n), .cell (w4.heap.size) 6 (.int .i64 ms), .cell (w4.heap.size) 7 (.bool false), .cell (w4.heap.size) 8 (.bool false), .cell (w4.heap.size) 9 (.bool false), .cell (w4.heap.size) 10 (.int .i64 0), .free (w4.heap.size) 0, .free (w4.heap.size) 1, .free (w4.heap.size) 2, .free (w4.heap.size) 3, .free (w4.heap.size) 4, .free (w4.heap.size) 5, .free (w4.heap.size) 6, .free (w4.heap.size) 7, .free (w4.heap.size) 8, .free (w4.heap.size) 9, .free (w4.heap.size) 10, factsTF] (w4.heap.size) 5 (.int .i64 r) (.int .i64 (r + 1)) (by repeat (first | with_reducible exact List.mem_cons_self | with_reducible apply List.mem_cons_of_mem)) HBT (by
      intro f hf
      simp only [List.mem_cons, List.not_mem_nil, or_false] at hf
      rcases hf with rfl | rfl | rfl | rfl | rfl | rfl | rfl | rfl | rfl | rfl | rfl | rfl | rfl | rfl | rfl | rfl | rfl | rfl | rfl | rfl | rfl | rfl
      all_goals refine ⟨(by repeat (first | with_reducible exact List.mem_cons_self | with_reducible apply List.mem_cons_of_mem)), ?_⟩
      all_goals first
        | exact Or.inr (by decide)
        | exact trivial
        | exact Or.inl HF.out
        | exact Or.inr (fun W u ho h => setv16 h ho (fun j hj e => by cases e) u))
    revert H
    generalize World.setCell _ _ _ = V2
    intro H
    (with_reducible refine (O3.out _ (H.factsT (by repeat (first | with_reducible exact List.mem_cons_self | with_reducible apply List.mem_cons_of_mem)))).mono ?_)
    rintro e w8 ⟨aC, cC, rfl, hd, hb⟩
    replace H := (H.below hb).add (f := daysF aC Y3 (j + 1 + 1 + 1) cC) hd
    clear hb hd
    have ct0 := H.cell (w4.heap.size) 0 (.int .i64 1) (by repeat (first | with_reducible exact List.mem_cons_self | with_reducible apply List.mem_cons_of_mem))
    have ct1 := H.cell (w4.heap.size) 1 (.int .i64 0) (by repeat (first | with_reducible exact List.mem_cons_self | with_reducible apply List.mem_cons_of_mem))
    have ct2 := H.cell (w4.heap.size) 2 (.int .i64 0) (by repeat (first | with_reducible exact List.mem_cons_self | with_reducible apply List.mem_cons_of_mem))
    have ct3 := H.cell (w4.heap.size) 3 (.int .i64 0) (by repeat (first | with_reducible exact List.mem_cons_self | with_reducible apply List.mem_cons_of_mem))
    have ct4 := H.cell (w4.heap.size) 4 (.int .i64 n) (by repeat (first | with_reducible exact List.mem_cons_self | with_reducible apply List.mem_cons_of_mem))
    have ct5 := H.cell (w4.heap.size) 5 (.int .i64 (r + 1)) (by repeat (first | with_reducible exact List.mem_cons_self | with_reducible apply List.mem_cons_of_mem))
    have ct6 := H.cell (w4.heap.size) 6 (.int .i64 ms) (by repeat (first | with_reducible exact List.mem_cons_self | with_reducible apply List.mem_cons_of_mem))
    have ct7 := H.cell (w4.heap.size) 7 (.bool false) (by repeat (first | with_reducible exact List.mem_cons_self | with_reducible apply List.mem_cons_of_mem))
    have ct8 := H.cell (w4.heap.size) 8 (.bool false) (by repeat (first | with_reducible exact List.mem_cons_self | with_reducible apply List.mem_cons_of_mem))
    have ct9 := H.cell (w4.heap.size) 9 (.bool false) (by repeat (first | with_reducible exact List.mem_cons_self | with_reducible apply List.mem_cons_of_mem))
    have ct10 := H.cell (w4.heap.size) 10 (.int .i64 0) (by repeat (first | with_reducible exact List.mem_cons_self | with_reducible apply List.mem_cons_of_mem))
    have lt := cell_lt ct0
    have ft8 := H.frozen (w4.heap.size) 8 (by repeat (first | with_reducible exact List.mem_cons_self | with_reducible apply List.mem_cons_of_mem))
    go_wp2_with fail
    clear ct0 ct1 ct2 ct3 ct4 ct5 ct6 ct7 ct8 ct9 ct10 lt
    replace H := H.put16 [.cell (w4.heap.size) 0 (.int .i64 1), .cell (w4.heap.size) 1 (.int .i64 0), .cell (w4.heap.size) 2 (.int .i64 0), .cell (w4.heap.size) 3 (.int .i64 0), .cell (w4.heap.size) 4 (.int .i64 n), .cell (w4.heap.size) 5 (.int .i64 (r + 1)), .cell (w4.heap.size) 6 (.int .i64 ms), .cell (w4.heap.size) 7 (.bool false), .cell (w4.heap.size) 9 (.bool false), .cell (w4.heap.size) 10 (.int .i64 0), .free (w4.heap.size) 0, .free (w4.heap.size) 1, .free (w4.heap.size) 2, .free (w4.heap.size) 3, .free (w4.heap.size) 4, .free (w4.heap.size) 5, .free (w4.heap.size) 6, .free (w4.heap.size) 7, .free (w4.heap.size) 8, .free (w4.heap.size) 9, .free (w4.heap.size) 10, factsTF] (w4.heap.size) 8 (.bool false) (.bool true) (by repeat (first | with_reducible exact List.mem_cons_self | with_reducible apply List.mem_cons_of_mem)) HBT (by
      intro f hf
      simp only [List.mem_cons, List.not_mem_nil, or_false] at hf
      rcases hf with rfl | rfl | rfl | rfl | rfl | rfl | rfl | rfl | rfl | rfl | rfl | rfl | rfl | rfl | rfl | rfl | rfl | rfl | rfl | rfl | rfl | rfl
      all_goals refine ⟨(by repeat (first | with_reducible exact List.mem_cons_self | with_reducible apply List.mem_cons_of_mem)), ?_⟩
      all_goals first
        | exact Or.inr (by decide)
        | exact trivial
        | exact Or.inl HF.out
        | exact Or.inr (fun W u ho h => setv16 h ho (fun j hj e => by cases e) u))
    revert H
    generalize World.setCell _ _ _ = V3
    intro H
    (with_reducible refine (O4.out _ (H.factsT (by repeat (first | with_reducible exact List.mem_cons_self | with_reducible apply List.mem_cons_of_mem)))).mono ?_)
    rintro e w9 ⟨aD, cD, rfl, hd, hb⟩
    replace H := (H.below hb).add (f := daysF aD Y4 (j + 1 + 1) cD) hd
    clear hb hd
    go_wp2
    go_ret
    exact ⟨rfl, H.old⟩
end Go.Proofs.YtjijgcgbnmobfaaGreatDoor
