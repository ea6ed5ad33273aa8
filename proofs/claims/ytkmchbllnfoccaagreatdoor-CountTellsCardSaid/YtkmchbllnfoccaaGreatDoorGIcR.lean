/- Several texts in one: IcRefP, IcRefQ. -/
import Derived.Test.YtkmchbllnfoccaaGreatDoorGIc
import Derived.Test.YtkmchbllnfoccaaGreatDoorRefNew
import Derived.Test.YtkmchbllnfoccaaGreatDoorRefArith
/- The reference of layer 9: Part. -/
namespace Go.Proofs.YtkmchbllnfoccaaGreatDoor
open Go.RowKit
set_option linter.unusedVariables false
set_option linter.unusedSimpArgs false

theorem refnew_is (n d p q c : Int) (w : World) (n0 : 0 ≤ n) (n1 : n < 9223372036854775808) (d0 : 0 < d) (d1 : d < 9223372036854775808) (h : rN n d = p ∧ rD n d = q ∧ rE n d = c) :
    Calls Tryz.prog 41 #[.int .i64 n, .int .i64 d] w fun e w' => e = .returned (.tuple #[.agg #[.int .i64 p, .int .i64 q], .int .i64 c]) ∧ Below w.heap.size w w' := by
  obtain ⟨rfl, rfl, rfl⟩ := h; exact refnew_any n d w n0 n1 d0 d1
theorem refadd_is (an ad bn bd p q c : Int) (w : World) (ha : rightB an ad = true) (hb : rightB bn bd = true) (h : rN (an * bd + bn * ad) (ad * bd) = p ∧ rD (an * bd + bn * ad) (ad * bd) = q ∧ rE (an * bd + bn * ad) (ad * bd) = c) :
    Calls Tryz.prog 18 #[.agg #[.int .i64 an, .int .i64 ad], .agg #[.int .i64 bn, .int .i64 bd]] w fun e w' => e = .returned (.tuple #[.agg #[.int .i64 p, .int .i64 q], .int .i64 c]) ∧ Below w.heap.size w w' := by
  obtain ⟨rfl, rfl, rfl⟩ := h; exact refadd_any an ad bn bd w ha hb

/-- A period more. -/
theorem ref_step (X : Nat → Int) (f a b : Int) (k : Nat) (hf : 1 ≤ f ∧ f ≤ 12) (hab : a ≤ b) (hX : Rising X (k + 2)) (hk : k ≤ 1203) (hd : 0 < dy a b (X k) (X (k + 1))) :
    ∃ p1 q1 : Int, (rN (dy a b (X k) (X (k + 1))) (f * (X (k + 1) - X k)) = p1 ∧ rD (dy a b (X k) (X (k + 1))) (f * (X (k + 1) - X k)) = q1 ∧ rE (dy a b (X k) (X (k + 1))) (f * (X (k + 1) - X k)) = 0) ∧
      rightB p1 q1 = true ∧ rightB (vP X k f a b).num (vP X k f a b).den = true ∧
      rN ((vP X k f a b).num * q1 + p1 * (vP X k f a b).den) ((vP X k f a b).den * q1) = (vP X (k + 1) f a b).num ∧ rD ((vP X k f a b).num * q1 + p1 * (vP X k f a b).den) ((vP X k f a b).den * q1) = (vP X (k + 1) f a b).den ∧
      rE ((vP X k f a b).num * q1 + p1 * (vP X k f a b).den) ((vP X k f a b).den * q1) = 0 := by
  have hle := hX.2 k (by omega)
  have b0 := hX.1 k (by omega)
  have b1 := hX.1 (k + 1) (by omega)
  obtain ⟨z, k1, _⟩ := dy_yes hab hle hd
  have hh : 0 < dy a b (X k) (X (k + 1)) ∧ dy a b (X k) (X (k + 1)) ≤ X (k + 1) - X k ∧ X (k + 1) - X k ≤ 3652058 := ⟨hd, k1, by omega⟩
  have hr := share_right f ⟨(dy a b (X k) (X (k + 1)), X (k + 1) - X k), hh⟩ hf
  have hs := share_is f ⟨(dy a b (X k) (X (k + 1)), X (k + 1) - X k), hh⟩ hf
  have sb := share_bd f ⟨(dy a b (X k) (X (k + 1)), X (k + 1) - X k), hh⟩ hf
  have hv := vP_right X k f a b (hX.less (by omega)) (by omega) hf hab
  have hv' := vP_right X (k + 1) f a b hX (by omega) hf hab
  dsimp only at hr hs sb
  refine ⟨_, _, ⟨rfl, rfl, ?_⟩, hr, hv, ?_⟩
  · refine (r_yes ((fit_iff _ _).2 ?_)).2.2
    have := m_le (dy a b (X k) (X (k + 1))) (f * (X (k + 1) - X k)) (by omega) (by omega)
    omega
  · rw [vP_step, step_share f a b _ _ hf hab hle hd] at hv' ⊢
    rw [hs.1, hs.2] at hr ⊢
    have := add_is _ _ hv hr hv'
    exact ⟨this.1, this.2.1, this.2.2⟩
theorem ref_skip (X : Nat → Int) (f a b : Int) (k : Nat) (hab : a ≤ b) (hX : Rising X (k + 2)) (hd : ¬ 0 < dy a b (X k) (X (k + 1))) : vP X (k + 1) f a b = vP X k f a b := by
  rw [vP_step, dy_no hab (hX.2 k (by omega)) hd]
  simp [Rat.div_def, Rat.add_zero, Rat.zero_mul]

set_option maxHeartbeats 4000000 in
set_option maxRecDepth 100000 in
theorem rpart_day0 (a b : Int) (ao : Option Addr) (n cap : Nat) (X : Nat → Int) (f : Int) (w : World) (hn : n ≤ 100) (hR : RowAt w ao X n cap) (hd : a < 1 ∨ 3652059 < a) :
    Calls Tryz.prog 26 #[.int .i64 a, .int .i64 b, .slice ao n cap, .int .i64 f] w fun e w' => e = .returned (.tuple #[.agg #[.int .i64 0, .int .i64 0], .int .i64 3]) ∧ Below w.heap.size w w' := by
  have H := (Held.start w).add (f := rowF ao X n cap) hR
  clear hR
  have D0 := Lib.hid (fun v => rday_is a false v (by first | (simp; done) | (simp; omega)))
  have D1 := Lib.hid (fun v => rday_is b _ v rfl)
  clear hd
  go_enter Tryz.func26, Tryz.ntmps26
  go_wp2_with fail
  replace H := H.pair (w.heap.size) (.int .i64 0) (.int .i64 0) 29 rfl
  (with_reducible refine (D0.out _).mono ?_)
  rintro e w1 ⟨rfl, rfl⟩
  go_wp2_with fail
  (with_reducible refine (D1.out _).mono ?_)
  rintro e w1 ⟨rfl, rfl⟩
  have cz0 := H.cell (w.heap.size) 0 (.int .i64 0) (by repeat (first | with_reducible exact List.mem_cons_self | with_reducible apply List.mem_cons_of_mem))
  have cz1 := H.cell (w.heap.size) 1 (.int .i64 0) (by repeat (first | with_reducible exact List.mem_cons_self | with_reducible apply List.mem_cons_of_mem))
  have fz0 := H.frozen (w.heap.size) 0 (by repeat (first | with_reducible exact List.mem_cons_self | with_reducible apply List.mem_cons_of_mem))
  have fz1 := H.frozen (w.heap.size) 1 (by repeat (first | with_reducible exact List.mem_cons_self | with_reducible apply List.mem_cons_of_mem))
  have lz := cell_lt cz0
  have HK := H.old
  clear H
  go_wp2_with fail
  exact bodyPost_ret (v := .tuple #[.agg #[.int .i64 0, .int .i64 0], .int .i64 3]) (by simp [results, Tryz.results26, go_sem, cz0, cz1, lz]) rfl ⟨rfl, by repeat (first | exact HK | refine Below.drew ?_ | refine Below.setCell ?_ (by simp <;> omega) _ | refine Below.alloc ?_ (by simp <;> omega) _)⟩

set_option maxHeartbeats 4000000 in
set_option maxRecDepth 100000 in
theorem rpart_day1 (a b : Int) (ao : Option Addr) (n cap : Nat) (X : Nat → Int) (f : Int) (w : World) (hn : n ≤ 100) (hR : RowAt w ao X n cap) (hd : 1 ≤ a ∧ a ≤ 3652059) (hd2 : b < 1 ∨ 3652059 < b) :
    Calls Tryz.prog 26 #[.int .i64 a, .int .i64 b, .slice ao n cap, .int .i64 f] w fun e w' => e = .returned (.tuple #[.agg #[.int .i64 0, .int .i64 0], .int .i64 3]) ∧ Below w.heap.size w w' := by
  have H := (Held.start w).add (f := rowF ao X n cap) hR
  clear hR
  have D0 := Lib.hid (fun v => rday_is a true v (by first | (simp; done) | (simp; omega)))
  have D1 := Lib.hid (fun v => rday_is b false v (by first | (simp; done) | (simp; omega)))
  clear hd hd2
  go_enter Tryz.func26, Tryz.ntmps26
  go_wp2_with fail
  replace H := H.pair (w.heap.size) (.int .i64 0) (.int .i64 0) 29 rfl
  (with_reducible refine (D0.out _).mono ?_)
  rintro e w1 ⟨rfl, rfl⟩
  go_wp2_with fail
  (with_reducible refine (D1.out _).mono ?_)
  rintro e w1 ⟨rfl, rfl⟩
  have cz0 := H.cell (w.heap.size) 0 (.int .i64 0) (by repeat (first | with_reducible exact List.mem_cons_self | with_reducible apply List.mem_cons_of_mem))
  have cz1 := H.cell (w.heap.size) 1 (.int .i64 0) (by repeat (first | with_reducible exact List.mem_cons_self | with_reducible apply List.mem_cons_of_mem))
  have fz0 := H.frozen (w.heap.size) 0 (by repeat (first | with_reducible exact List.mem_cons_self | with_reducible apply List.mem_cons_of_mem))
  have fz1 := H.frozen (w.heap.size) 1 (by repeat (first | with_reducible exact List.mem_cons_self | with_reducible apply List.mem_cons_of_mem))
  have lz := cell_lt cz0
  have HK := H.old
  clear H
  go_wp2_with fail
  exact bodyPost_ret (v := .tuple #[.agg #[.int .i64 0, .int .i64 0], .int .i64 3]) (by simp [results, Tryz.results26, go_sem, cz0, cz1, lz]) rfl ⟨rfl, by repeat (first | exact HK | refine Below.drew ?_ | refine Below.setCell ?_ (by simp <;> omega) _ | refine Below.alloc ?_ (by simp <;> omega) _)⟩

set_option maxHeartbeats 4000000 in
set_option maxRecDepth 100000 in
theorem rpart_order (a b : Int) (ao : Option Addr) (n cap : Nat) (X : Nat → Int) (f : Int) (w : World) (hn : n ≤ 100) (hR : RowAt w ao X n cap) (hd : 1 ≤ a ∧ a ≤ 3652059) (hd2 : 1 ≤ b ∧ b ≤ 3652059) (hab : b < a) :
    Calls Tryz.prog 26 #[.int .i64 a, .int .i64 b, .slice ao n cap, .int .i64 f] w fun e w' => e = .returned (.tuple #[.agg #[.int .i64 0, .int .i64 0], .int .i64 4]) ∧ Below w.heap.size w w' := by
  have H := (Held.start w).add (f := rowF ao X n cap) hR
  clear hR
  have D0 := Lib.hid (fun v => rday_is a true v (by first | (simp; done) | (simp; omega)))
  have D1 := Lib.hid (fun v => rday_is b true v (by first | (simp; done) | (simp; omega)))
  clear hd hd2
  go_enter Tryz.func26, Tryz.ntmps26
  go_wp2_with fail
  replace H := H.pair (w.heap.size) (.int .i64 0) (.int .i64 0) 29 rfl
  (with_reducible refine (D0.out _).mono ?_)
  rintro e w1 ⟨rfl, rfl⟩
  go_wp2_with fail
  (with_reducible refine (D1.out _).mono ?_)
  rintro e w1 ⟨rfl, rfl⟩
  have cz0 := H.cell (w.heap.size) 0 (.int .i64 0) (by repeat (first | with_reducible exact List.mem_cons_self | with_reducible apply List.mem_cons_of_mem))
  have cz1 := H.cell (w.heap.size) 1 (.int .i64 0) (by repeat (first | with_reducible exact List.mem_cons_self | with_reducible apply List.mem_cons_of_mem))
  have fz0 := H.frozen (w.heap.size) 0 (by repeat (first | with_reducible exact List.mem_cons_self | with_reducible apply List.mem_cons_of_mem))
  have fz1 := H.frozen (w.heap.size) 1 (by repeat (first | with_reducible exact List.mem_cons_self | with_reducible apply List.mem_cons_of_mem))
  have lz := cell_lt cz0
  have HK := H.old
  clear H
  go_wp2_with fail
  exact bodyPost_ret (v := .tuple #[.agg #[.int .i64 0, .int .i64 0], .int .i64 4]) (by simp [results, Tryz.results26, go_sem, cz0, cz1, lz]) rfl ⟨rfl, by repeat (first | exact HK | refine Below.drew ?_ | refine Below.setCell ?_ (by simp <;> omega) _ | refine Below.alloc ?_ (by simp <;> omega) _)⟩

set_option maxHeartbeats 4000000 in
set_option maxRecDepth 100000 in
theorem rpart_may (a b : Int) (ao : Option Addr) (n cap : Nat) (X : Nat → Int) (f : Int) (w : World) (hn : n ≤ 100) (hR : RowAt w ao X n cap) (hd : 1 ≤ a ∧ a ≤ 3652059) (hd2 : 1 ≤ b ∧ b ≤ 3652059) (hab : a ≤ b) (hm : ¬ MayX X n f) :
    Calls Tryz.prog 26 #[.int .i64 a, .int .i64 b, .slice ao n cap, .int .i64 f] w fun e w' => e = .returned (.tuple #[.agg #[.int .i64 0, .int .i64 0], .int .i64 5]) ∧ Below w.heap.size w w' := by
  have H := (Held.start w).add (f := rowF ao X n cap) hR
  clear hR
  have D0 := Lib.hid (fun v => rday_is a true v (by first | (simp; done) | (simp; omega)))
  have D1 := Lib.hid (fun v => rday_is b true v (by first | (simp; done) | (simp; omega)))
  have C := Lib.hid (fun v h2 => imr_is ao n cap X f false v hn h2 ⟨fun h => (by cases h), fun h => absurd h hm⟩)
  clear hd hd2 hm
  go_enter Tryz.func26, Tryz.ntmps26
  go_wp2_with fail
  replace H := H.pair (w.heap.size) (.int .i64 0) (.int .i64 0) 29 rfl
  (with_reducible refine (D0.out _).mono ?_)
  rintro e w1 ⟨rfl, rfl⟩
  go_wp2_with fail
  (with_reducible refine (D1.out _).mono ?_)
  rintro e w1 ⟨rfl, rfl⟩
  go_wp2_with fail
  (with_reducible refine (C.out _ (H.row (by repeat (first | with_reducible exact List.mem_cons_self | with_reducible apply List.mem_cons_of_mem)))).mono ?_)
  rintro e w2 ⟨rfl, hb⟩
  replace H := H.below hb
  clear hb
  have cz0 := H.cell (w.heap.size) 0 (.int .i64 0) (by repeat (first | with_reducible exact List.mem_cons_self | with_reducible apply List.mem_cons_of_mem))
  have cz1 := H.cell (w.heap.size) 1 (.int .i64 0) (by repeat (first | with_reducible exact List.mem_cons_self | with_reducible apply List.mem_cons_of_mem))
  have fz0 := H.frozen (w.heap.size) 0 (by repeat (first | with_reducible exact List.mem_cons_self | with_reducible apply List.mem_cons_of_mem))
  have fz1 := H.frozen (w.heap.size) 1 (by repeat (first | with_reducible exact List.mem_cons_self | with_reducible apply List.mem_cons_of_mem))
  have lz := cell_lt cz0
  have HK := H.old
  clear H
  go_wp2_with fail
  exact bodyPost_ret (v := .tuple #[.agg #[.int .i64 0, .int .i64 0], .int .i64 5]) (by simp [results, Tryz.results26, go_sem, cz0, cz1, lz]) rfl ⟨rfl, by repeat (first | exact HK | refine Below.drew ?_ | refine Below.setCell ?_ (by simp <;> omega) _ | refine Below.alloc ?_ (by simp <;> omega) _)⟩

set_option maxHeartbeats 4000000 in
set_option maxRecDepth 100000 in
theorem rpart_out0 (a b : Int) (ao : Option Addr) (n cap : Nat) (X : Nat → Int) (f : Int) (w : World) (hn : n ≤ 100) (hR : RowAt w ao X n cap) (hd : 1 ≤ a ∧ a ≤ 3652059) (hd2 : 1 ≤ b ∧ b ≤ 3652059) (hab : a ≤ b) (hm : MayX X n f) (hx : a < X 0) :
    Calls Tryz.prog 26 #[.int .i64 a, .int .i64 b, .slice ao n cap, .int .i64 f] w fun e w' => e = .returned (.tuple #[.agg #[.int .i64 0, .int .i64 0], .int .i64 5]) ∧ Below w.heap.size w w' := by
  have H := (Held.start w).add (f := rowF ao X n cap) hR
  clear hR
  have D0 := Lib.hid (fun v => rday_is a true v (by first | (simp; done) | (simp; omega)))
  have D1 := Lib.hid (fun v => rday_is b true v (by first | (simp; done) | (simp; omega)))
  have C := Lib.hid (fun v h2 => imr_is ao n cap X f true v hn h2 ⟨fun _ => hm, fun _ => rfl⟩)
  have k2 := hm.1
  clear hd hd2 hm
  go_enter Tryz.func26, Tryz.ntmps26
  go_wp2_with fail
  replace H := H.pair (w.heap.size) (.int .i64 0) (.int .i64 0) 29 rfl
  (with_reducible refine (D0.out _).mono ?_)
  rintro e w1 ⟨rfl, rfl⟩
  go_wp2_with fail
  (with_reducible refine (D1.out _).mono ?_)
  rintro e w1 ⟨rfl, rfl⟩
  go_wp2_with fail
  (with_reducible refine (C.out _ (H.row (by repeat (first | with_reducible exact List.mem_cons_self | with_reducible apply List.mem_cons_of_mem)))).mono ?_)
  rintro e w2 ⟨rfl, hb⟩
  replace H := H.below hb
  clear hb
  obtain ⟨B, off, rfl, hC⟩ := (H.row (by repeat (first | with_reducible exact List.mem_cons_self | with_reducible apply List.mem_cons_of_mem))).2 (by omega)
  obtain ⟨m, rfl⟩ : ∃ m, n = m + 1 := ⟨n - 1, by omega⟩
  have c0 := hC 0 (by omega)
  rw [Nat.add_zero] at c0
  have cm := hC m (by omega)
  clear hC
  have cz0 := H.cell (w.heap.size) 0 (.int .i64 0) (by repeat (first | with_reducible exact List.mem_cons_self | with_reducible apply List.mem_cons_of_mem))
  have cz1 := H.cell (w.heap.size) 1 (.int .i64 0) (by repeat (first | with_reducible exact List.mem_cons_self | with_reducible apply List.mem_cons_of_mem))
  have fz0 := H.frozen (w.heap.size) 0 (by repeat (first | with_reducible exact List.mem_cons_self | with_reducible apply List.mem_cons_of_mem))
  have fz1 := H.frozen (w.heap.size) 1 (by repeat (first | with_reducible exact List.mem_cons_self | with_reducible apply List.mem_cons_of_mem))
  have lz := cell_lt cz0
  have HK := H.old
  clear H
  go_wp2_with fail
  exact bodyPost_ret (v := .tuple #[.agg #[.int .i64 0, .int .i64 0], .int .i64 5]) (by simp [results, Tryz.results26, go_sem, cz0, cz1, lz]) rfl ⟨rfl, by repeat (first | exact HK | refine Below.drew ?_ | refine Below.setCell ?_ (by simp <;> omega) _ | refine Below.alloc ?_ (by simp <;> omega) _)⟩

set_option maxHeartbeats 4000000 in
set_option maxRecDepth 100000 in
theorem rpart_out1 (a b : Int) (ao : Option Addr) (n cap : Nat) (X : Nat → Int) (f : Int) (w : World) (hn : n ≤ 100) (hR : RowAt w ao X n cap) (hd : 1 ≤ a ∧ a ≤ 3652059) (hd2 : 1 ≤ b ∧ b ≤ 3652059) (hab : a ≤ b) (hm : MayX X n f) (hx0 : X 0 ≤ a) (hx : X (n - 1) < b) :
    Calls Tryz.prog 26 #[.int .i64 a, .int .i64 b, .slice ao n cap, .int .i64 f] w fun e w' => e = .returned (.tuple #[.agg #[.int .i64 0, .int .i64 0], .int .i64 5]) ∧ Below w.heap.size w w' := by
  have H := (Held.start w).add (f := rowF ao X n cap) hR
  clear hR
  have D0 := Lib.hid (fun v => rday_is a true v (by first | (simp; done) | (simp; omega)))
  have D1 := Lib.hid (fun v => rday_is b true v (by first | (simp; done) | (simp; omega)))
  have C := Lib.hid (fun v h2 => imr_is ao n cap X f true v hn h2 ⟨fun _ => hm, fun _ => rfl⟩)
  have k2 := hm.1
  clear hd hd2 hm
  go_enter Tryz.func26, Tryz.ntmps26
  go_wp2_with fail
  replace H := H.pair (w.heap.size) (.int .i64 0) (.int .i64 0) 29 rfl
  (with_reducible refine (D0.out _).mono ?_)
  rintro e w1 ⟨rfl, rfl⟩
  go_wp2_with fail
  (with_reducible refine (D1.out _).mono ?_)
  rintro e w1 ⟨rfl, rfl⟩
  go_wp2_with fail
  (with_reducible refine (C.out _ (H.row (by repeat (first | with_reducible exact List.mem_cons_self | with_reducible apply List.mem_cons_of_mem)))).mono ?_)
  rintro e w2 ⟨rfl, hb⟩
  replace H := H.below hb
  clear hb
  obtain ⟨B, off, rfl, hC⟩ := (H.row (by repeat (first | with_reducible exact List.mem_cons_self | with_reducible apply List.mem_cons_of_mem))).2 (by omega)
  obtain ⟨m, rfl⟩ : ∃ m, n = m + 1 := ⟨n - 1, by omega⟩
  rw [Nat.add_sub_cancel] at hx
  have c0 := hC 0 (by omega)
  rw [Nat.add_zero] at c0
  have cm := hC m (by omega)
  clear hC
  have cz0 := H.cell (w.heap.size) 0 (.int .i64 0) (by repeat (first | with_reducible exact List.mem_cons_self | with_reducible apply List.mem_cons_of_mem))
  have cz1 := H.cell (w.heap.size) 1 (.int .i64 0) (by repeat (first | with_reducible exact List.mem_cons_self | with_reducible apply List.mem_cons_of_mem))
  have fz0 := H.frozen (w.heap.size) 0 (by repeat (first | with_reducible exact List.mem_cons_self | with_reducible apply List.mem_cons_of_mem))
  have fz1 := H.frozen (w.heap.size) 1 (by repeat (first | with_reducible exact List.mem_cons_self | with_reducible apply List.mem_cons_of_mem))
  have lz := cell_lt cz0
  have HK := H.old
  clear H
  go_wp2_with fail
  exact bodyPost_ret (v := .tuple #[.agg #[.int .i64 0, .int .i64 0], .int .i64 5]) (by simp [results, Tryz.results26, go_sem, cz0, cz1, lz]) rfl ⟨rfl, by repeat (first | exact HK | refine Below.drew ?_ | refine Below.setCell ?_ (by simp <;> omega) _ | refine Below.alloc ?_ (by simp <;> omega) _)⟩
end Go.Proofs.YtkmchbllnfoccaaGreatDoor
/- The reference of layer 9: Part. -/
namespace Go.Proofs.YtkmchbllnfoccaaGreatDoor
open Go.RowKit
set_option linter.unusedVariables false
set_option linter.unusedSimpArgs false

theorem row_of {W : World} {B off n cap : Nat} {X : Nat → Int} (hcap : n ≤ cap) (h : Cells W B off X n) : RowAt W (some ⟨B, off, none⟩) X n cap := ⟨hcap, fun _ => ⟨B, off, rfl, h⟩⟩
/-- What the loop's cells hold behind k periods. -/
def RGo (w : World) (O : Nat) (s0 s1 : Int) (W : World) : Prop := Held w [.cell O 0 (.int .i64 s0), .cell O 1 (.int .i64 s1), .free O 0, .free O 1, .cell w.heap.size 0 (.int .i64 0), .cell w.heap.size 1 (.int .i64 0), .free w.heap.size 0, .free w.heap.size 1] W
theorem rgo_store {w W : World} {O : Nat} {s0 s1 s2 s3 S2 S3 : Int} {fs : List Fact} (h : Held w fs W) (hO : w.heap.size < O) (e2 : S2 = s2) (e3 : S3 = s3)
    (m0 : Fact.cell O 0 (.int .i64 s0) ∈ fs) (m1 : Fact.cell O 1 (.int .i64 s1) ∈ fs) (m2 : Fact.free O 0 ∈ fs) (m3 : Fact.free O 1 ∈ fs) (m4 : Fact.cell w.heap.size 0 (.int .i64 0) ∈ fs) (m5 : Fact.cell w.heap.size 1 (.int .i64 0) ∈ fs) (m6 : Fact.free w.heap.size 0 ∈ fs) (m7 : Fact.free w.heap.size 1 ∈ fs) :
    RGo w O S2 S3 ((W.setCell ⟨O, 0, none⟩ (.int .i64 s2)).setCell ⟨O, 1, none⟩ (.int .i64 s3)) := by
  subst e2 e3
  have c0 := h.cell _ _ _ m0
  have c1 := h.cell _ _ _ m1
  have c4 := h.cell _ _ _ m4
  have c5 := h.cell _ _ _ m5
  have f2 := h.frozen _ _ m2
  have f3 := h.frozen _ _ m3
  have f6 := h.frozen _ _ m6
  have f7 := h.frozen _ _ m7
  have l0 := cell_lt c0
  have l4 := cell_lt c4
  have H0 : Held w [] ((W.setCell ⟨O, 0, none⟩ (.int .i64 S2)).setCell ⟨O, 1, none⟩ (.int .i64 S3)) := ⟨(h.old.setCell (by simp; omega) _).setCell (by simp; omega) _, fun f hf => by cases hf⟩
  have d : O ≠ w.heap.size := by omega
  refine (((((((H0.add (f := .free w.heap.size 1) ⟨by simpa using l4, by rw [World.frozen?_setCell, World.frozen?_setCell]; exact f7⟩).add (f := .free w.heap.size 0) ⟨by simpa using l4, by rw [World.frozen?_setCell, World.frozen?_setCell]; exact f6⟩).add (f := .cell w.heap.size 1 _) ?_).add (f := .cell w.heap.size 0 _) ?_).add (f := .free O 1) ⟨by simpa using l0, by rw [World.frozen?_setCell, World.frozen?_setCell]; exact f3⟩).add (f := .free O 0) ⟨by simpa using l0, by rw [World.frozen?_setCell, World.frozen?_setCell]; exact f2⟩).add (f := .cell O 1 _) ?_).add (f := .cell O 0 _) ?_
  · exact (World.cell?_setCell_far _ ⟨O, 1, none⟩ ⟨w.heap.size, 1, none⟩ _ d).trans ((World.cell?_setCell_far _ ⟨O, 0, none⟩ ⟨w.heap.size, 1, none⟩ _ d).trans c5)
  · exact (World.cell?_setCell_far _ ⟨O, 1, none⟩ ⟨w.heap.size, 0, none⟩ _ d).trans ((World.cell?_setCell_far _ ⟨O, 0, none⟩ ⟨w.heap.size, 0, none⟩ _ d).trans c4)
  · exact World.cell?_setCell_same' _ _ _ (by rw [World.cell?_setCell_other _ _ _ _ (by simp), c1]; rfl)
  · exact (World.cell?_setCell_other _ _ _ _ (by simp)).trans (World.cell?_setCell_same' _ _ _ (by rw [c0]; rfl))

set_option maxHeartbeats 4000000 in
set_option maxRecDepth 100000 in
theorem rpart_yes (a b p q : Int) (B off m cap : Nat) (X : Nat → Int) (f : Int) (w : World) (hm1 : 1 ≤ m) (hmm : m < 100) (hcap : m + 1 ≤ cap) (hC : Cells w B off X (m + 1)) (hd : 1 ≤ a ∧ a ≤ 3652059) (hd2 : 1 ≤ b ∧ b ≤ 3652059) (hab : a ≤ b) (hm : MayX X (m + 1) f) (hx0 : X 0 ≤ a) (hx : b ≤ X m) (hp : p = (vP X m f a b).num) (hq : q = ((vP X m f a b).den : Int)) :
    Calls Tryz.prog 26 #[.int .i64 a, .int .i64 b, .slice (some ⟨B, off, none⟩) (m + 1) cap, .int .i64 f] w fun e w' => e = .returned (.tuple #[.agg #[.int .i64 p, .int .i64 q], .int .i64 0]) ∧ Below w.heap.size w w' := by
  have H := (Held.start w).add (f := cellsF B off X (m + 1)) hC
  have D0 := Lib.hid (fun v => rday_is a true v (by first | (simp; done) | (simp; omega)))
  have D1 := Lib.hid (fun v => rday_is b true v (by first | (simp; done) | (simp; omega)))
  have C := Lib.hid (fun v h2 => imr_is (some ⟨B, off, none⟩) (m + 1) cap X f true v (by omega) h2 ⟨fun _ => hm, fun _ => rfl⟩)
  have hf := hm.2.2.1
  have HX := Lib.hid hm.2.2.2.1
  have HC := Lib.hid hC
  have c0 := hC 0 (by omega)
  rw [Nat.add_zero] at c0
  have cm := hC m (by omega)
  have FIN : Hid (p = (vP X m f a b).num ∧ q = ((vP X m f a b).den : Int)) := Lib.hid ⟨hp, hq⟩
  clear hm hC hp hq
  go_enter Tryz.func26, Tryz.ntmps26
  go_wp2_with fail
  replace H := H.pair (w.heap.size) (.int .i64 0) (.int .i64 0) 29 rfl
  (with_reducible refine (D0.out _).mono ?_)
  rintro e w1 ⟨rfl, rfl⟩
  go_wp2_with fail
  (with_reducible refine (D1.out _).mono ?_)
  rintro e w1 ⟨rfl, rfl⟩
  go_wp2_with fail
  (with_reducible refine (C.out _ (row_of hcap (H.cells (by repeat (first | with_reducible exact List.mem_cons_self | with_reducible apply List.mem_cons_of_mem))))).mono ?_)
  rintro e w2 ⟨rfl, hb⟩
  replace H := H.below hb
  clear hb c0 cm
  have hC := H.cells (by repeat (first | with_reducible exact List.mem_cons_self | with_reducible apply List.mem_cons_of_mem))
  have c0 := hC 0 (by omega)
  rw [Nat.add_zero] at c0
  have cm := hC m (by omega)
  clear hC
  go_wp2_with fail
  have hO2 := H.lt w.heap.size 0 (.int .i64 0) (by repeat (first | with_reducible exact List.mem_cons_self | with_reducible apply List.mem_cons_of_mem))
  replace H := H.pair w2.heap.size (.int .i64 0) (.int .i64 1) 29 rfl
  obtain ⟨O, eO⟩ : ∃ O, w2.heap.size = O := ⟨_, rfl⟩
  rw [eO] at H hO2 ⊢
  have HR := Lib.hid (H.sub (gs := [.cell O 0 (.int .i64 0), .cell O 1 (.int .i64 1), .free O 0, .free O 1, .cell w.heap.size 0 (.int .i64 0), .cell w.heap.size 1 (.int .i64 0), .free w.heap.size 0, .free w.heap.size 1]) (by intro f hf; simp only [List.mem_cons, List.mem_nil_iff, or_false] at hf ⊢; rcases hf with h | h | h | h | h | h | h | h <;> simp [h]))
  clear H c0 cm eO
  go_loopw [14, 15, 16, 17, 18, 19, 20, 21, 22] (fun i _ _ _ _ _ _ _ _ wr => ∃ k : Nat, k ≤ m ∧ i = .int .i64 ((k : Int) + 1) ∧ RGo w O (vP X k f a b).num (vP X k f a b).den wr) (fun i _ _ _ _ _ _ _ _ _ => m + 1 - (intOf i).toNat)
  case atStart => exact ⟨0, by omega, rfl, by rw [vP_zero]; exact HR.out⟩
  case round =>
    obtain ⟨k, hk, rfl, HG⟩ := hrel
    have G0 := HG
    unfold RGo at G0
    clear HG
    have KC := Lib.hid (HC.out.kept G0.old)
    by_cases hlt : k < m
    · have ck := KC.out k (by omega)
      have ck1 := KC.out (k + 1) (by omega)
      have b0 := HX.out.1 k (by omega)
      have b1 := HX.out.1 (k + 1) (by omega)
      have b2 := HX.out.2 k (by omega)
      by_cases he : X k = X (k + 1)
      · have t1 : (X k == X (k + 1)) = true := by simpa using he
        have EV := Lib.hid (ref_skip X f a b k hab (HX.out.less (by omega)) (by unfold dy; omega))
        rw [← EV.out] at G0
        clear EV he
        go_wp2_with fail
        go_roundw
        case rel => exact ⟨k + 1, by omega, by go_num, G0⟩
        case measure => simp [intOf]; omega
      · have t1 : (X k == X (k + 1)) = false := by simpa using he
        clear he
        by_cases c1 : a < X k
        · by_cases c2 : X (k + 1) < b
          · have D : dy a b (X k) (X (k + 1)) = X (k + 1) - X k := by unfold dy; omega
            by_cases hd : X k < X (k + 1)
            · obtain ⟨p1, q1, NP, r1, r0, AP⟩ := ref_step X f a b k hf hab (HX.out.less (by omega)) (by omega) (by omega)
              rw [D] at NP
              have FB : 0 < f * (X (k + 1) - X k) ∧ f * (X (k + 1) - X k) ≤ 43824696 := ⟨Int.mul_pos (by omega) (by omega), by have := Int.mul_le_mul hf.2 (show X (k + 1) - X k ≤ 3652058 by omega) (by omega) (by omega); omega⟩
              have C1 := Lib.hid (fun v => refnew_is (X (k + 1) - X k) (f * (X (k + 1) - X k)) p1 q1 0 v (by omega) (by omega) (by omega) (by omega) NP)
              obtain ⟨s2, hs2⟩ : ∃ s2, (vP X (k + 1) f a b).num = s2 := ⟨_, rfl⟩
              obtain ⟨s3, hs3⟩ : ∃ s3, ((vP X (k + 1) f a b).den : Int) = s3 := ⟨_, rfl⟩
              obtain ⟨s0, hs0⟩ : ∃ s0, (vP X k f a b).num = s0 := ⟨_, rfl⟩
              obtain ⟨s1, hs1⟩ : ∃ s1, ((vP X k f a b).den : Int) = s1 := ⟨_, rfl⟩
              rw [hs0, hs1] at r0 AP G0
              rw [hs2, hs3] at AP
              have C2 := Lib.hid (fun v => refadd_is s0 s1 p1 q1 s2 s3 0 v r0 r1 AP)
              have ES : Hid (vP X (k + 1) f a b = vP X (k + 1) f a b ∧ (vP X (k + 1) f a b).num = s2 ∧ ((vP X (k + 1) f a b).den : Int) = s3) := Lib.hid ⟨rfl, hs2, hs3⟩
              clear NP r1 r0 AP hs0 hs1 hs2 hs3 D
              have co0 := G0.cell O 0 (.int .i64 s0) (by repeat (first | with_reducible exact List.mem_cons_self | with_reducible apply List.mem_cons_of_mem))
              have co1 := G0.cell O 1 (.int .i64 s1) (by repeat (first | with_reducible exact List.mem_cons_self | with_reducible apply List.mem_cons_of_mem))
              go_wp2_with fail
              (with_reducible refine (C1.out _).mono ?_)
              rintro e w3 ⟨rfl, hb⟩
              replace G0 := G0.below hb
              clear hb co0 co1
              have co0 := G0.cell O 0 (.int .i64 s0) (by repeat (first | with_reducible exact List.mem_cons_self | with_reducible apply List.mem_cons_of_mem))
              have co1 := G0.cell O 1 (.int .i64 s1) (by repeat (first | with_reducible exact List.mem_cons_self | with_reducible apply List.mem_cons_of_mem))
              have lo := cell_lt co0
              go_wp2_with fail
              replace G0 := G0.pair w3.heap.size (.int .i64 p1) (.int .i64 q1) 29 rfl
              (with_reducible refine (C2.out _).mono ?_)
              rintro e w4 ⟨rfl, hb⟩
              replace G0 := G0.below hb
              clear hb co0 co1 lo
              have co0 := G0.cell O 0 (.int .i64 s0) (by repeat (first | with_reducible exact List.mem_cons_self | with_reducible apply List.mem_cons_of_mem))
              have co1 := G0.cell O 1 (.int .i64 s1) (by repeat (first | with_reducible exact List.mem_cons_self | with_reducible apply List.mem_cons_of_mem))
              have fo0 := G0.frozen O 0 (by repeat (first | with_reducible exact List.mem_cons_self | with_reducible apply List.mem_cons_of_mem))
              have fo1 := G0.frozen O 1 (by repeat (first | with_reducible exact List.mem_cons_self | with_reducible apply List.mem_cons_of_mem))
              have lo := cell_lt co0
              go_wp2_with fail
              go_roundw
              case rel => exact ⟨k + 1, by omega, by go_num, Held.alloc (rgo_store (s0 := s0) (s1 := s1) G0 hO2 ES.out.2.1 ES.out.2.2 (by repeat (first | with_reducible exact List.mem_cons_self | with_reducible apply List.mem_cons_of_mem)) (by repeat (first | with_reducible exact List.mem_cons_self | with_reducible apply List.mem_cons_of_mem)) (by repeat (first | with_reducible exact List.mem_cons_self | with_reducible apply List.mem_cons_of_mem)) (by repeat (first | with_reducible exact List.mem_cons_self | with_reducible apply List.mem_cons_of_mem)) (by repeat (first | with_reducible exact List.mem_cons_self | with_reducible apply List.mem_cons_of_mem)) (by repeat (first | with_reducible exact List.mem_cons_self | with_reducible apply List.mem_cons_of_mem)) (by repeat (first | with_reducible exact List.mem_cons_self | with_reducible apply List.mem_cons_of_mem)) (by repeat (first | with_reducible exact List.mem_cons_self | with_reducible apply List.mem_cons_of_mem))) _⟩
              case measure => simp [intOf]; omega
            · have EV := Lib.hid (ref_skip X f a b k hab (HX.out.less (by omega)) (by omega))
              rw [← EV.out] at G0
              clear D EV
              go_wp2_with fail
              go_roundw
              case rel => exact ⟨k + 1, by omega, by go_num, G0⟩
              case measure => simp [intOf]; omega
          · have D : dy a b (X k) (X (k + 1)) = b - X k := by unfold dy; omega
            by_cases hd : X k < b
            · obtain ⟨p1, q1, NP, r1, r0, AP⟩ := ref_step X f a b k hf hab (HX.out.less (by omega)) (by omega) (by omega)
              rw [D] at NP
              have FB : 0 < f * (X (k + 1) - X k) ∧ f * (X (k + 1) - X k) ≤ 43824696 := ⟨Int.mul_pos (by omega) (by omega), by have := Int.mul_le_mul hf.2 (show X (k + 1) - X k ≤ 3652058 by omega) (by omega) (by omega); omega⟩
              have C1 := Lib.hid (fun v => refnew_is (b - X k) (f * (X (k + 1) - X k)) p1 q1 0 v (by omega) (by omega) (by omega) (by omega) NP)
              obtain ⟨s2, hs2⟩ : ∃ s2, (vP X (k + 1) f a b).num = s2 := ⟨_, rfl⟩
              obtain ⟨s3, hs3⟩ : ∃ s3, ((vP X (k + 1) f a b).den : Int) = s3 := ⟨_, rfl⟩
              obtain ⟨s0, hs0⟩ : ∃ s0, (vP X k f a b).num = s0 := ⟨_, rfl⟩
              obtain ⟨s1, hs1⟩ : ∃ s1, ((vP X k f a b).den : Int) = s1 := ⟨_, rfl⟩
              rw [hs0, hs1] at r0 AP G0
              rw [hs2, hs3] at AP
              have C2 := Lib.hid (fun v => refadd_is s0 s1 p1 q1 s2 s3 0 v r0 r1 AP)
              have ES : Hid (vP X (k + 1) f a b = vP X (k + 1) f a b ∧ (vP X (k + 1) f a b).num = s2 ∧ ((vP X (k + 1) f a b).den : Int) = s3) := Lib.hid ⟨rfl, hs2, hs3⟩
              clear NP r1 r0 AP hs0 hs1 hs2 hs3 D
              have co0 := G0.cell O 0 (.int .i64 s0) (by repeat (first | with_reducible exact List.mem_cons_self | with_reducible apply List.mem_cons_of_mem))
              have co1 := G0.cell O 1 (.int .i64 s1) (by repeat (first | with_reducible exact List.mem_cons_self | with_reducible apply List.mem_cons_of_mem))
              go_wp2_with fail
              (with_reducible refine (C1.out _).mono ?_)
              rintro e w3 ⟨rfl, hb⟩
              replace G0 := G0.below hb
              clear hb co0 co1
              have co0 := G0.cell O 0 (.int .i64 s0) (by repeat (first | with_reducible exact List.mem_cons_self | with_reducible apply List.mem_cons_of_mem))
              have co1 := G0.cell O 1 (.int .i64 s1) (by repeat (first | with_reducible exact List.mem_cons_self | with_reducible apply List.mem_cons_of_mem))
              have lo := cell_lt co0
              go_wp2_with fail
              replace G0 := G0.pair w3.heap.size (.int .i64 p1) (.int .i64 q1) 29 rfl
              (with_reducible refine (C2.out _).mono ?_)
              rintro e w4 ⟨rfl, hb⟩
              replace G0 := G0.below hb
              clear hb co0 co1 lo
              have co0 := G0.cell O 0 (.int .i64 s0) (by repeat (first | with_reducible exact List.mem_cons_self | with_reducible apply List.mem_cons_of_mem))
              have co1 := G0.cell O 1 (.int .i64 s1) (by repeat (first | with_reducible exact List.mem_cons_self | with_reducible apply List.mem_cons_of_mem))
              have fo0 := G0.frozen O 0 (by repeat (first | with_reducible exact List.mem_cons_self | with_reducible apply List.mem_cons_of_mem))
              have fo1 := G0.frozen O 1 (by repeat (first | with_reducible exact List.mem_cons_self | with_reducible apply List.mem_cons_of_mem))
              have lo := cell_lt co0
              go_wp2_with fail
              go_roundw
              case rel => exact ⟨k + 1, by omega, by go_num, Held.alloc (rgo_store (s0 := s0) (s1 := s1) G0 hO2 ES.out.2.1 ES.out.2.2 (by repeat (first | with_reducible exact List.mem_cons_self | with_reducible apply List.mem_cons_of_mem)) (by repeat (first | with_reducible exact List.mem_cons_self | with_reducible apply List.mem_cons_of_mem)) (by repeat (first | with_reducible exact List.mem_cons_self | with_reducible apply List.mem_cons_of_mem)) (by repeat (first | with_reducible exact List.mem_cons_self | with_reducible apply List.mem_cons_of_mem)) (by repeat (first | with_reducible exact List.mem_cons_self | with_reducible apply List.mem_cons_of_mem)) (by repeat (first | with_reducible exact List.mem_cons_self | with_reducible apply List.mem_cons_of_mem)) (by repeat (first | with_reducible exact List.mem_cons_self | with_reducible apply List.mem_cons_of_mem)) (by repeat (first | with_reducible exact List.mem_cons_self | with_reducible apply List.mem_cons_of_mem))) _⟩
              case measure => simp [intOf]; omega
            · have EV := Lib.hid (ref_skip X f a b k hab (HX.out.less (by omega)) (by omega))
              rw [← EV.out] at G0
              clear D EV
              go_wp2_with fail
              go_roundw
              case rel => exact ⟨k + 1, by omega, by go_num, G0⟩
              case measure => simp [intOf]; omega
        · by_cases c2 : X (k + 1) < b
          · have D : dy a b (X k) (X (k + 1)) = X (k + 1) - a := by unfold dy; omega
            by_cases hd : a < X (k + 1)
            · obtain ⟨p1, q1, NP, r1, r0, AP⟩ := ref_step X f a b k hf hab (HX.out.less (by omega)) (by omega) (by omega)
              rw [D] at NP
              have FB : 0 < f * (X (k + 1) - X k) ∧ f * (X (k + 1) - X k) ≤ 43824696 := ⟨Int.mul_pos (by omega) (by omega), by have := Int.mul_le_mul hf.2 (show X (k + 1) - X k ≤ 3652058 by omega) (by omega) (by omega); omega⟩
              have C1 := Lib.hid (fun v => refnew_is (X (k + 1) - a) (f * (X (k + 1) - X k)) p1 q1 0 v (by omega) (by omega) (by omega) (by omega) NP)
              obtain ⟨s2, hs2⟩ : ∃ s2, (vP X (k + 1) f a b).num = s2 := ⟨_, rfl⟩
              obtain ⟨s3, hs3⟩ : ∃ s3, ((vP X (k + 1) f a b).den : Int) = s3 := ⟨_, rfl⟩
              obtain ⟨s0, hs0⟩ : ∃ s0, (vP X k f a b).num = s0 := ⟨_, rfl⟩
              obtain ⟨s1, hs1⟩ : ∃ s1, ((vP X k f a b).den : Int) = s1 := ⟨_, rfl⟩
              rw [hs0, hs1] at r0 AP G0
              rw [hs2, hs3] at AP
              have C2 := Lib.hid (fun v => refadd_is s0 s1 p1 q1 s2 s3 0 v r0 r1 AP)
              have ES : Hid (vP X (k + 1) f a b = vP X (k + 1) f a b ∧ (vP X (k + 1) f a b).num = s2 ∧ ((vP X (k + 1) f a b).den : Int) = s3) := Lib.hid ⟨rfl, hs2, hs3⟩
              clear NP r1 r0 AP hs0 hs1 hs2 hs3 D
              have co0 := G0.cell O 0 (.int .i64 s0) (by repeat (first | with_reducible exact List.mem_cons_self | with_reducible apply List.mem_cons_of_mem))
              have co1 := G0.cell O 1 (.int .i64 s1) (by repeat (first | with_reducible exact List.mem_cons_self | with_reducible apply List.mem_cons_of_mem))
              go_wp2_with fail
              (with_reducible refine (C1.out _).mono ?_)
              rintro e w3 ⟨rfl, hb⟩
              replace G0 := G0.below hb
              clear hb co0 co1
              have co0 := G0.cell O 0 (.int .i64 s0) (by repeat (first | with_reducible exact List.mem_cons_self | with_reducible apply List.mem_cons_of_mem))
              have co1 := G0.cell O 1 (.int .i64 s1) (by repeat (first | with_reducible exact List.mem_cons_self | with_reducible apply List.mem_cons_of_mem))
              have lo := cell_lt co0
              go_wp2_with fail
              replace G0 := G0.pair w3.heap.size (.int .i64 p1) (.int .i64 q1) 29 rfl
              (with_reducible refine (C2.out _).mono ?_)
              rintro e w4 ⟨rfl, hb⟩
              replace G0 := G0.below hb
              clear hb co0 co1 lo
              have co0 := G0.cell O 0 (.int .i64 s0) (by repeat (first | with_reducible exact List.mem_cons_self | with_reducible apply List.mem_cons_of_mem))
              have co1 := G0.cell O 1 (.int .i64 s1) (by repeat (first | with_reducible exact List.mem_cons_self | with_reducible apply List.mem_cons_of_mem))
              have fo0 := G0.frozen O 0 (by repeat (first | with_reducible exact List.mem_cons_self | with_reducible apply List.mem_cons_of_mem))
              have fo1 := G0.frozen O 1 (by repeat (first | with_reducible exact List.mem_cons_self | with_reducible apply List.mem_cons_of_mem))
              have lo := cell_lt co0
              go_wp2_with fail
              go_roundw
              case rel => exact ⟨k + 1, by omega, by go_num, Held.alloc (rgo_store (s0 := s0) (s1 := s1) G0 hO2 ES.out.2.1 ES.out.2.2 (by repeat (first | with_reducible exact List.mem_cons_self | with_reducible apply List.mem_cons_of_mem)) (by repeat (first | with_reducible exact List.mem_cons_self | with_reducible apply List.mem_cons_of_mem)) (by repeat (first | with_reducible exact List.mem_cons_self | with_reducible apply List.mem_cons_of_mem)) (by repeat (first | with_reducible exact List.mem_cons_self | with_reducible apply List.mem_cons_of_mem)) (by repeat (first | with_reducible exact List.mem_cons_self | with_reducible apply List.mem_cons_of_mem)) (by repeat (first | with_reducible exact List.mem_cons_self | with_reducible apply List.mem_cons_of_mem)) (by repeat (first | with_reducible exact List.mem_cons_self | with_reducible apply List.mem_cons_of_mem)) (by repeat (first | with_reducible exact List.mem_cons_self | with_reducible apply List.mem_cons_of_mem))) _⟩
              case measure => simp [intOf]; omega
            · have EV := Lib.hid (ref_skip X f a b k hab (HX.out.less (by omega)) (by omega))
              rw [← EV.out] at G0
              clear D EV
              go_wp2_with fail
              go_roundw
              case rel => exact ⟨k + 1, by omega, by go_num, G0⟩
              case measure => simp [intOf]; omega
          · have D : dy a b (X k) (X (k + 1)) = b - a := by unfold dy; omega
            by_cases hd : a < b
            · obtain ⟨p1, q1, NP, r1, r0, AP⟩ := ref_step X f a b k hf hab (HX.out.less (by omega)) (by omega) (by omega)
              rw [D] at NP
              have FB : 0 < f * (X (k + 1) - X k) ∧ f * (X (k + 1) - X k) ≤ 43824696 := ⟨Int.mul_pos (by omega) (by omega), by have := Int.mul_le_mul hf.2 (show X (k + 1) - X k ≤ 3652058 by omega) (by omega) (by omega); omega⟩
              have C1 := Lib.hid (fun v => refnew_is (b - a) (f * (X (k + 1) - X k)) p1 q1 0 v (by omega) (by omega) (by omega) (by omega) NP)
              obtain ⟨s2, hs2⟩ : ∃ s2, (vP X (k + 1) f a b).num = s2 := ⟨_, rfl⟩
              obtain ⟨s3, hs3⟩ : ∃ s3, ((vP X (k + 1) f a b).den : Int) = s3 := ⟨_, rfl⟩
              obtain ⟨s0, hs0⟩ : ∃ s0, (vP X k f a b).num = s0 := ⟨_, rfl⟩
              obtain ⟨s1, hs1⟩ : ∃ s1, ((vP X k f a b).den : Int) = s1 := ⟨_, rfl⟩
              rw [hs0, hs1] at r0 AP G0
              rw [hs2, hs3] at AP
              have C2 := Lib.hid (fun v => refadd_is s0 s1 p1 q1 s2 s3 0 v r0 r1 AP)
              have ES : Hid (vP X (k + 1) f a b = vP X (k + 1) f a b ∧ (vP X (k + 1) f a b).num = s2 ∧ ((vP X (k + 1) f a b).den : Int) = s3) := Lib.hid ⟨rfl, hs2, hs3⟩
              clear NP r1 r0 AP hs0 hs1 hs2 hs3 D
              have co0 := G0.cell O 0 (.int .i64 s0) (by repeat (first | with_reducible exact List.mem_cons_self | with_reducible apply List.mem_cons_of_mem))
              have co1 := G0.cell O 1 (.int .i64 s1) (by repeat (first | with_reducible exact List.mem_cons_self | with_reducible apply List.mem_cons_of_mem))
              go_wp2_with fail
              (with_reducible refine (C1.out _).mono ?_)
              rintro e w3 ⟨rfl, hb⟩
              replace G0 := G0.below hb
              clear hb co0 co1
              have co0 := G0.cell O 0 (.int .i64 s0) (by repeat (first | with_reducible exact List.mem_cons_self | with_reducible apply List.mem_cons_of_mem))
              have co1 := G0.cell O 1 (.int .i64 s1) (by repeat (first | with_reducible exact List.mem_cons_self | with_reducible apply List.mem_cons_of_mem))
              have lo := cell_lt co0
              go_wp2_with fail
              replace G0 := G0.pair w3.heap.size (.int .i64 p1) (.int .i64 q1) 29 rfl
              (with_reducible refine (C2.out _).mono ?_)
              rintro e w4 ⟨rfl, hb⟩
              replace G0 := G0.below hb
              clear hb co0 co1 lo
              have co0 := G0.cell O 0 (.int .i64 s0) (by repeat (first | with_reducible exact List.mem_cons_self | with_reducible apply List.mem_cons_of_mem))
              have co1 := G0.cell O 1 (.int .i64 s1) (by repeat (first | with_reducible exact List.mem_cons_self | with_reducible apply List.mem_cons_of_mem))
              have fo0 := G0.frozen O 0 (by repeat (first | with_reducible exact List.mem_cons_self | with_reducible apply List.mem_cons_of_mem))
              have fo1 := G0.frozen O 1 (by repeat (first | with_reducible exact List.mem_cons_self | with_reducible apply List.mem_cons_of_mem))
              have lo := cell_lt co0
              go_wp2_with fail
              go_roundw
              case rel => exact ⟨k + 1, by omega, by go_num, Held.alloc (rgo_store (s0 := s0) (s1 := s1) G0 hO2 ES.out.2.1 ES.out.2.2 (by repeat (first | with_reducible exact List.mem_cons_self | with_reducible apply List.mem_cons_of_mem)) (by repeat (first | with_reducible exact List.mem_cons_self | with_reducible apply List.mem_cons_of_mem)) (by repeat (first | with_reducible exact List.mem_cons_self | with_reducible apply List.mem_cons_of_mem)) (by repeat (first | with_reducible exact List.mem_cons_self | with_reducible apply List.mem_cons_of_mem)) (by repeat (first | with_reducible exact List.mem_cons_self | with_reducible apply List.mem_cons_of_mem)) (by repeat (first | with_reducible exact List.mem_cons_self | with_reducible apply List.mem_cons_of_mem)) (by repeat (first | with_reducible exact List.mem_cons_self | with_reducible apply List.mem_cons_of_mem)) (by repeat (first | with_reducible exact List.mem_cons_self | with_reducible apply List.mem_cons_of_mem))) _⟩
              case measure => simp [intOf]; omega
            · have EV := Lib.hid (ref_skip X f a b k hab (HX.out.less (by omega)) (by omega))
              rw [← EV.out] at G0
              clear D EV
              go_wp2_with fail
              go_roundw
              case rel => exact ⟨k + 1, by omega, by go_num, G0⟩
              case measure => simp [intOf]; omega
    · obtain rfl : k = m := by omega
      have E0 := FIN.out.1
      have E1 := FIN.out.2
      rw [← E0, ← E1] at G0
      clear E0 E1
      have co0 := G0.cell O 0 (.int .i64 p) (by repeat (first | with_reducible exact List.mem_cons_self | with_reducible apply List.mem_cons_of_mem))
      have co1 := G0.cell O 1 (.int .i64 q) (by repeat (first | with_reducible exact List.mem_cons_self | with_reducible apply List.mem_cons_of_mem))
      have cz0 := G0.cell (w.heap.size) 0 (.int .i64 0) (by repeat (first | with_reducible exact List.mem_cons_self | with_reducible apply List.mem_cons_of_mem))
      have cz1 := G0.cell (w.heap.size) 1 (.int .i64 0) (by repeat (first | with_reducible exact List.mem_cons_self | with_reducible apply List.mem_cons_of_mem))
      have fz0 := G0.frozen (w.heap.size) 0 (by repeat (first | with_reducible exact List.mem_cons_self | with_reducible apply List.mem_cons_of_mem))
      have fz1 := G0.frozen (w.heap.size) 1 (by repeat (first | with_reducible exact List.mem_cons_self | with_reducible apply List.mem_cons_of_mem))
      have lz := cell_lt cz0
      have lo := cell_lt co0
      have HK := G0.old
      clear G0
      go_wp2_with fail
      exact bodyPost_ret (v := .tuple #[.agg #[.int .i64 p, .int .i64 q], .int .i64 0]) (by simp [results, Tryz.results26, go_sem, cz0, cz1, lz]) rfl ⟨rfl, by repeat (first | exact HK | refine Below.drew ?_ | refine Below.setCell ?_ (by simp <;> omega) _ | refine Below.alloc ?_ (by simp <;> omega) _)⟩

/-- What the reference tells. -/
theorem rpart_is (a b : Int) (ao : Option Addr) (n cap : Nat) (X : Nat → Int) (f p q c : Int) (w : World) (hn : n ≤ 100) (hR : RowAt w ao X n cap) (hI : IcIs X n f a b p q c) :
    Calls Tryz.prog 26 #[.int .i64 a, .int .i64 b, .slice ao n cap, .int .i64 f] w fun e w' => e = .returned (.tuple #[.agg #[.int .i64 p, .int .i64 q], .int .i64 c]) ∧ Below w.heap.size w w' := by
  rcases hI with ⟨h1, rfl, rfl, rfl⟩ | ⟨h1, h2, rfl, rfl, rfl⟩ | ⟨h1, h2, h3, rfl, rfl, rfl⟩ | ⟨h1, h2, h3, hp, hq, rfl⟩
  · unfold isDay at h1
    by_cases k : a < 1 ∨ 3652059 < a
    · exact rpart_day0 a b ao n cap X f w hn hR k
    · exact rpart_day1 a b ao n cap X f w hn hR (by omega) (by omega)
  · exact rpart_order a b ao n cap X f w hn hR h1.1 h1.2 h2
  · by_cases k : MayX X n f
    · by_cases k2 : X 0 ≤ a
      · have k3 : X (n - 1) < b := Int.not_le.1 (fun z => h3 ⟨k, k2, z⟩)
        exact rpart_out1 a b ao n cap X f w hn hR h1.1 h1.2 h2 k k2 k3
      · exact rpart_out0 a b ao n cap X f w hn hR h1.1 h1.2 h2 k (by omega)
    · exact rpart_may a b ao n cap X f w hn hR h1.1 h1.2 h2 k
  · obtain ⟨hm, h4, h5⟩ := h3
    have h6 := hm.1
    obtain ⟨B, off, rfl, hC⟩ := hR.2 (by omega)
    obtain ⟨m, rfl⟩ : ∃ m, n = m + 1 := ⟨n - 1, by omega⟩
    rw [Nat.add_sub_cancel] at h5 hp hq
    exact rpart_yes a b p q B off m cap X f w (by omega) (by omega) hR.1 hC h1.1 h1.2 h2 hm h4 h5 hp hq
end Go.Proofs.YtkmchbllnfoccaaGreatDoor
