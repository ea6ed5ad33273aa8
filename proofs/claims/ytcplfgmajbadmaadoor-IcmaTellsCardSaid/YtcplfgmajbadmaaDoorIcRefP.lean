/- The reference of layer 9: Part. -/
import Derived.Test.YtcplfgmajbadmaaDoorIcMayR
import Derived.Test.YtcplfgmajbadmaaDoorRefNew
import Derived.Test.YtcplfgmajbadmaaDoorRefArith
namespace Go.Proofs.YtcplfgmajbadmaaDoor
open Go.RowKit
set_option linter.unusedVariables false
set_option linter.unusedSimpArgs false

theorem refnew_is (n d p q c : Int) (w : World) (n0 : 0 ≤ n) (n1 : n < 9223372036854775808) (d0 : 0 < d) (d1 : d < 9223372036854775808) (h : rN n d = p ∧ rD n d = q ∧ rE n d = c) :
    Calls Tryd.prog 13 #[.int .i64 n, .int .i64 d] w fun e w' => e = .returned (.tuple #[.agg #[.int .i64 p, .int .i64 q], .int .i64 c]) ∧ Below w.heap.size w w' := by
  obtain ⟨rfl, rfl, rfl⟩ := h; exact refnew_any n d w n0 n1 d0 d1
theorem refadd_is (an ad bn bd p q c : Int) (w : World) (ha : rightB an ad = true) (hb : rightB bn bd = true) (h : rN (an * bd + bn * ad) (ad * bd) = p ∧ rD (an * bd + bn * ad) (ad * bd) = q ∧ rE (an * bd + bn * ad) (ad * bd) = c) :
    Calls Tryd.prog 14 #[.agg #[.int .i64 an, .int .i64 ad], .agg #[.int .i64 bn, .int .i64 bd]] w fun e w' => e = .returned (.tuple #[.agg #[.int .i64 p, .int .i64 q], .int .i64 c]) ∧ Below w.heap.size w w' := by
  obtain ⟨rfl, rfl, rfl⟩ := h; exact refadd_any an ad bn bd w ha hb

/-- A period more. -/
theorem ref_step (X : Nat → Int) (f a b : Int) (k : Nat) (hf : 1 ≤ f ∧ f ≤ 12) (hab : a ≤ b) (hX : Rising X (k + 2)) (hk : k ≤ 1203) (hd : 0 < dy a b (X k) (X (k + 1))) :
    ∃ p1 q1 : Int, (rN (dy a b (X k) (X (k + 1))) (f * (X (k + 1) - X k)) = p1 ∧ rD (dy a b (X k) (X (k + 1))) (f * (X (k + 1) - X k)) = q1 ∧ rE (dy a b (X k) (X (k + 1))) (f * (X (k + 1) - X k)) = 0) ∧
      rightB p1 q1 = true ∧ rightB (vP X k f a b).num (vP X k f a b).den = true ∧
      rN ((vP X k f a b).num * q1 + p1 * (vP X k f a b).den) ((vP X k f a b).den * q1) = (vP X (k + 1) f a b).num ∧ rD ((vP X k f a b).num * q1 + p1 * (vP X k f a b).den) ((vP X k f a b).den * q1) = (vP X (k + 1) f a b).den ∧
      rE ((vP X k f a b).num * q1 + p1 * (vP X k f a b).den) ((vP X k f a b).den * q1) = 0 := by
  have hle := hX.2 k (by omega)
  have b0 := hX.1 k (by omega)
  have b1 := hX.1 (k + 1) (by omega)
  obtain ⟨z, k1, _⟩ := dy_yes hab hle hd
  have hh : 0 < dy a b (X k) (X (k + 1)) ∧ dy a b (X k) (X (k + 1)) ≤ X (k + 1) - X k ∧ X (k + 1) - X k ≤ 3652058 := ⟨hd, k1, by omega⟩
  have hr := share_right f ⟨(dy a b (X k) (X (k + 1)), X (k + 1) - X k), hh⟩ hf
  have hs := share_is f ⟨(dy a b (X k) (X (k + 1)), X (k + 1) - X k), hh⟩ hf
  have sb := share_bd f ⟨(dy a b (X k) (X (k + 1)), X (k + 1) - X k), hh⟩ hf
  have hv := vP_right X k f a b (hX.less (by omega)) (by omega) hf hab
  have hv' := vP_right X (k + 1) f a b hX (by omega) hf hab
  dsimp only at hr hs sb
  refine ⟨_, _, ⟨rfl, rfl, ?_⟩, hr, hv, ?_⟩
  · refine (r_yes ((fit_iff _ _).2 ?_)).2.2
    have := m_le (dy a b (X k) (X (k + 1))) (f * (X (k + 1) - X k)) (by omega) (by omega)
    omega
  · rw [vP_step, step_share f a b _ _ hf hab hle hd] at hv' ⊢
    rw [hs.1, hs.2] at hr ⊢
    have := add_is _ _ hv hr hv'
    exact ⟨this.1, this.2.1, this.2.2⟩
theorem ref_skip (X : Nat → Int) (f a b : Int) (k : Nat) (hab : a ≤ b) (hX : Rising X (k + 2)) (hd : ¬ 0 < dy a b (X k) (X (k + 1))) : vP X (k + 1) f a b = vP X k f a b := by
  rw [vP_step, dy_no hab (hX.2 k (by omega)) hd]
  simp [Rat.div_def, Rat.add_zero, Rat.zero_mul]

set_option maxHeartbeats 4000000 in
set_option maxRecDepth 100000 in
theorem rpart_day0 (a b : Int) (ao : Option Addr) (n cap : Nat) (X : Nat → Int) (f : Int) (w : World) (hn : n ≤ 100) (hR : RowAt w ao X n cap) (hd : a < 1 ∨ 3652059 < a) :
    Calls Tryd.prog 10 #[.int .i64 a, .int .i64 b, .slice ao n cap, .int .i64 f] w fun e w' => e = .returned (.tuple #[.agg #[.int .i64 0, .int .i64 0], .int .i64 3]) ∧ Below w.heap.size w w' := by
  have H := (Held.start w).add (f := rowF ao X n cap) hR
  clear hR
  have D0 := Lib.hid (fun v => rday_is a false v (by first | (simp; done) | (simp; omega)))
  have D1 := Lib.hid (fun v => rday_is b _ v rfl)
  clear hd
  go_enter Tryd.func10, Tryd.ntmps10
  go_wp2_with fail
  replace H := H.pair (w.heap.size) (.int .i64 0) (.int .i64 0) 27 rfl
  (with_reducible refine (D0.out _).mono ?_)
  rintro e w1 ⟨rfl, rfl⟩
  go_wp2_with fail
  (with_reducible refine (D1.out _).mono ?_)
  rintro e w1 ⟨rfl, rfl⟩
  have cz0 := H.cell (w.heap.size) 0 (.int .i64 0) (by repeat (first | with_reducible exact List.mem_cons_self | with_reducible apply List.mem_cons_of_mem))
  have cz1 := H.cell (w.heap.size) 1 (.int .i64 0) (by repeat (first | with_reducible exact List.mem_cons_self | with_reducible apply List.mem_cons_of_mem))
  have fz0 := H.frozen (w.heap.size) 0 (by repeat (first | with_reducible exact List.mem_cons_self | with_reducible apply List.mem_cons_of_mem))
  have fz1 := H.frozen (w.heap.size) 1 (by repeat (first | with_reducible exact List.mem_cons_self | with_reducible apply List.mem_cons_of_mem))
  have lz := cell_lt cz0
  have HK := H.old
  clear H
  go_wp2_with fail
  exact bodyPost_ret (v := .tuple #[.agg #[.int .i64 0, .int .i64 0], .int .i64 3]) (by simp [results, Tryd.results10, go_sem, cz0, cz1, lz]) rfl ⟨rfl, by repeat (first | exact HK | refine Below.drew ?_ | refine Below.setCell ?_ (by simp <;> omega) _ | refine Below.alloc ?_ (by simp <;> omega) _)⟩

set_option maxHeartbeats 4000000 in
set_option maxRecDepth 100000 in
theorem rpart_day1 (a b : Int) (ao : Option Addr) (n cap : Nat) (X : Nat → Int) (f : Int) (w : World) (hn : n ≤ 100) (hR : RowAt w ao X n cap) (hd : 1 ≤ a ∧ a ≤ 3652059) (hd2 : b < 1 ∨ 3652059 < b) :
    Calls Tryd.prog 10 #[.int .i64 a, .int .i64 b, .slice ao n cap, .int .i64 f] w fun e w' => e = .returned (.tuple #[.agg #[.int .i64 0, .int .i64 0], .int .i64 3]) ∧ Below w.heap.size w w' := by
  have H := (Held.start w).add (f := rowF ao X n cap) hR
  clear hR
  have D0 := Lib.hid (fun v => rday_is a true v (by first | (simp; done) | (simp; omega)))
  have D1 := Lib.hid (fun v => rday_is b false v (by first | (simp; done) | (simp; omega)))
  clear hd hd2
  go_enter Tryd.func10, Tryd.ntmps10
  go_wp2_with fail
  replace H := H.pair (w.heap.size) (.int .i64 0) (.int .i64 0) 27 rfl
  (with_reducible refine (D0.out _).mono ?_)
  rintro e w1 ⟨rfl, rfl⟩
  go_wp2_with fail
  (with_reducible refine (D1.out _).mono ?_)
  rintro e w1 ⟨rfl, rfl⟩
  have cz0 := H.cell (w.heap.size) 0 (.int .i64 0) (by repeat (first | with_reducible exact List.mem_cons_self | with_reducible apply List.mem_cons_of_mem))
  have cz1 := H.cell (w.heap.size) 1 (.int .i64 0) (by repeat (first | with_reducible exact List.mem_cons_self | with_reducible apply List.mem_cons_of_mem))
  have fz0 := H.frozen (w.heap.size) 0 (by repeat (first | with_reducible exact List.mem_cons_self | with_reducible apply List.mem_cons_of_mem))
  have fz1 := H.frozen (w.heap.size) 1 (by repeat (first | with_reducible exact List.mem_cons_self | with_reducible apply List.mem_cons_of_mem))
  have lz := cell_lt cz0
  have HK := H.old
  clear H
  go_wp2_with fail
  exact bodyPost_ret (v := .tuple #[.agg #[.int .i64 0, .int .i64 0], .int .i64 3]) (by simp [results, Tryd.results10, go_sem, cz0, cz1, lz]) rfl ⟨rfl, by repeat (first | exact HK | refine Below.drew ?_ | refine Below.setCell ?_ (by simp <;> omega) _ | refine Below.alloc ?_ (by simp <;> omega) _)⟩

set_option maxHeartbeats 4000000 in
set_option maxRecDepth 100000 in
theorem rpart_order (a b : Int) (ao : Option Addr) (n cap : Nat) (X : Nat → Int) (f : Int) (w : World) (hn : n ≤ 100) (hR : RowAt w ao X n cap) (hd : 1 ≤ a ∧ a ≤ 3652059) (hd2 : 1 ≤ b ∧ b ≤ 3652059) (hab : b < a) :
    Calls Tryd.prog 10 #[.int .i64 a, .int .i64 b, .slice ao n cap, .int .i64 f] w fun e w' => e = .returned (.tuple #[.agg #[.int .i64 0, .int .i64 0], .int .i64 4]) ∧ Below w.heap.size w w' := by
  have H := (Held.start w).add (f := rowF ao X n cap) hR
  clear hR
  have D0 := Lib.hid (fun v => rday_is a true v (by first | (simp; done) | (simp; omega)))
  have D1 := Lib.hid (fun v => rday_is b true v (by first | (simp; done) | (simp; omega)))
  clear hd hd2
  go_enter Tryd.func10, Tryd.ntmps10
  go_wp2_with fail
  replace H := H.pair (w.heap.size) (.int .i64 0) (.int .i64 0) 27 rfl
  (with_reducible refine (D0.out _).mono ?_)
  rintro e w1 ⟨rfl, rfl⟩
  go_wp2_with fail
  (with_reducible refine (D1.out _).mono ?_)
  rintro e w1 ⟨rfl, rfl⟩
  have cz0 := H.cell (w.heap.size) 0 (.int .i64 0) (by repeat (first | with_reducible exact List.mem_cons_self | with_reducible apply List.mem_cons_of_mem))
  have cz1 := H.cell (w.heap.size) 1 (.int .i64 0) (by repeat (first | with_reducible exact List.mem_cons_self | with_reducible apply List.mem_cons_of_mem))
  have fz0 := H.frozen (w.heap.size) 0 (by repeat (first | with_reducible exact List.mem_cons_self | with_reducible apply List.mem_cons_of_mem))
  have fz1 := H.frozen (w.heap.size) 1 (by repeat (first | with_reducible exact List.mem_cons_self | with_reducible apply List.mem_cons_of_mem))
  have lz := cell_lt cz0
  have HK := H.old
  clear H
  go_wp2_with fail
  exact bodyPost_ret (v := .tuple #[.agg #[.int .i64 0, .int .i64 0], .int .i64 4]) (by simp [results, Tryd.results10, go_sem, cz0, cz1, lz]) rfl ⟨rfl, by repeat (first | exact HK | refine Below.drew ?_ | refine Below.setCell ?_ (by simp <;> omega) _ | refine Below.alloc ?_ (by simp <;> omega) _)⟩

set_option maxHeartbeats 4000000 in
set_option maxRecDepth 100000 in
theorem rpart_may (a b : Int) (ao : Option Addr) (n cap : Nat) (X : Nat → Int) (f : Int) (w : World) (hn : n ≤ 100) (hR : RowAt w ao X n cap) (hd : 1 ≤ a ∧ a ≤ 3652059) (hd2 : 1 ≤ b ∧ b ≤ 3652059) (hab : a ≤ b) (hm : ¬ MayX X n f) :
    Calls Tryd.prog 10 #[.int .i64 a, .int .i64 b, .slice ao n cap, .int .i64 f] w fun e w' => e = .returned (.tuple #[.agg #[.int .i64 0, .int .i64 0], .int .i64 5]) ∧ Below w.heap.size w w' := by
  have H := (Held.start w).add (f := rowF ao X n cap) hR
  clear hR
  have D0 := Lib.hid (fun v => rday_is a true v (by first | (simp; done) | (simp; omega)))
  have D1 := Lib.hid (fun v => rday_is b true v (by first | (simp; done) | (simp; omega)))
  have C := Lib.hid (fun v h2 => imr_is ao n cap X f false v hn h2 ⟨fun h => (by cases h), fun h => absurd h hm⟩)
  clear hd hd2 hm
  go_enter Tryd.func10, Tryd.ntmps10
  go_wp2_with fail
  replace H := H.pair (w.heap.size) (.int .i64 0) (.int .i64 0) 27 rfl
  (with_reducible refine (D0.out _).mono ?_)
  rintro e w1 ⟨rfl, rfl⟩
  go_wp2_with fail
  (with_reducible refine (D1.out _).mono ?_)
  rintro e w1 ⟨rfl, rfl⟩
  go_wp2_with fail
  (with_reducible refine (C.out _ (H.row (by repeat (first | with_reducible exact List.mem_cons_self | with_reducible apply List.mem_cons_of_mem)))).mono ?_)
  rintro e w2 ⟨rfl, hb⟩
  replace H := H.below hb
  clear hb
  have cz0 := H.cell (w.heap.size) 0 (.int .i64 0) (by repeat (first | with_reducible exact List.mem_cons_self | with_reducible apply List.mem_cons_of_mem))
  have cz1 := H.cell (w.heap.size) 1 (.int .i64 0) (by repeat (first | with_reducible exact List.mem_cons_self | with_reducible apply List.mem_cons_of_mem))
  have fz0 := H.frozen (w.heap.size) 0 (by repeat (first | with_reducible exact List.mem_cons_self | with_reducible apply List.mem_cons_of_mem))
  have fz1 := H.frozen (w.heap.size) 1 (by repeat (first | with_reducible exact List.mem_cons_self | with_reducible apply List.mem_cons_of_mem))
  have lz := cell_lt cz0
  have HK := H.old
  clear H
  go_wp2_with fail
  exact bodyPost_ret (v := .tuple #[.agg #[.int .i64 0, .int .i64 0], .int .i64 5]) (by simp [results, Tryd.results10, go_sem, cz0, cz1, lz]) rfl ⟨rfl, by repeat (first | exact HK | refine Below.drew ?_ | refine Below.setCell ?_ (by simp <;> omega) _ | refine Below.alloc ?_ (by simp <;> omega) _)⟩

set_option maxHeartbeats 4000000 in
set_option maxRecDepth 100000 in
theorem rpart_out0 (a b : Int) (ao : Option Addr) (n cap : Nat) (X : Nat → Int) (f : Int) (w : World) (hn : n ≤ 100) (hR : RowAt w ao X n cap) (hd : 1 ≤ a ∧ a ≤ 3652059) (hd2 : 1 ≤ b ∧ b ≤ 3652059) (hab : a ≤ b) (hm : MayX X n f) (hx : a < X 0) :
    Calls Tryd.prog 10 #[.int .i64 a, .int .i64 b, .slice ao n cap, .int .i64 f] w fun e w' => e = .returned (.tuple #[.agg #[.int .i64 0, .int .i64 0], .int .i64 5]) ∧ Below w.heap.size w w' := by
  have H := (Held.start w).add (f := rowF ao X n cap) hR
  clear hR
  have D0 := Lib.hid (fun v => rday_is a true v (by first | (simp; done) | (simp; omega)))
  have D1 := Lib.hid (fun v => rday_is b true v (by first | (simp; done) | (simp; omega)))
  have C := Lib.hid (fun v h2 => imr_is ao n cap X f true v hn h2 ⟨fun _ => hm, fun _ => rfl⟩)
  have k2 := hm.1
  clear hd hd2 hm
  go_enter Tryd.func10, Tryd.ntmps10
  go_wp2_with fail
  replace H := H.pair (w.heap.size) (.int .i64 0) (.int .i64 0) 27 rfl
  (with_reducible refine (D0.out _).mono ?_)
  rintro e w1 ⟨rfl, rfl⟩
  go_wp2_with fail
  (with_reducible refine (D1.out _).mono ?_)
  rintro e w1 ⟨rfl, rfl⟩
  go_wp2_with fail
  (with_reducible refine (C.out _ (H.row (by repeat (first | with_reducible exact List.mem_cons_self | with_reducible apply List.mem_cons_of_mem)))).mono ?_)
  rintro e w2 ⟨rfl, hb⟩
  replace H := H.below hb
  clear hb
  obtain ⟨B, off, rfl, hC⟩ := (H.row (by repeat (first | with_reducible exact List.mem_cons_self | with_reducible apply List.mem_cons_of_mem))).2 (by omega)
  obtain ⟨m, rfl⟩ : ∃ m, n = m + 1 := ⟨n - 1, by omega⟩
  have c0 := hC 0 (by omega)
  rw [Nat.add_zero] at c0
  have cm := hC m (by omega)
  clear hC
  have cz0 := H.cell (w.heap.size) 0 (.int .i64 0) (by repeat (first | with_reducible exact List.mem_cons_self | with_reducible apply List.mem_cons_of_mem))
  have cz1 := H.cell (w.heap.size) 1 (.int .i64 0) (by repeat (first | with_reducible exact List.mem_cons_self | with_reducible apply List.mem_cons_of_mem))
  have fz0 := H.frozen (w.heap.size) 0 (by repeat (first | with_reducible exact List.mem_cons_self | with_reducible apply List.mem_cons_of_mem))
  have fz1 := H.frozen (w.heap.size) 1 (by repeat (first | with_reducible exact List.mem_cons_self | with_reducible apply List.mem_cons_of_mem))
  have lz := cell_lt cz0
  have HK := H.old
  clear H
  go_wp2_with fail
  exact bodyPost_ret (v := .tuple #[.agg #[.int .i64 0, .int .i64 0], .int .i64 5]) (by simp [results, Tryd.results10, go_sem, cz0, cz1, lz]) rfl ⟨rfl, by repeat (first | exact HK | refine Below.drew ?_ | refine Below.setCell ?_ (by simp <;> omega) _ | refine Below.alloc ?_ (by simp <;> omega) _)⟩

set_option maxHeartbeats 4000000 in
set_option maxRecDepth 100000 in
theorem rpart_out1 (a b : Int) (ao : Option Addr) (n cap : Nat) (X : Nat → Int) (f : Int) (w : World) (hn : n ≤ 100) (hR : RowAt w ao X n cap) (hd : 1 ≤ a ∧ a ≤ 3652059) (hd2 : 1 ≤ b ∧ b ≤ 3652059) (hab : a ≤ b) (hm : MayX X n f) (hx0 : X 0 ≤ a) (hx : X (n - 1) < b) :
    Calls Tryd.prog 10 #[.int .i64 a, .int .i64 b, .slice ao n cap, .int .i64 f] w fun e w' => e = .returned (.tuple #[.agg #[.int .i64 0, .int .i64 0], .int .i64 5]) ∧ Below w.heap.size w w' := by
  have H := (Held.start w).add (f := rowF ao X n cap) hR
  clear hR
  have D0 := Lib.hid (fun v => rday_is a true v (by first | (simp; done) | (simp; omega)))
  have D1 := Lib.hid (fun v => rday_is b true v (by first | (simp; done) | (simp; omega)))
  have C := Lib.hid (fun v h2 => imr_is ao n cap X f true v hn h2 ⟨fun _ => hm, fun _ => rfl⟩)
  have k2 := hm.1
  clear hd hd2 hm
  go_enter Tryd.func10, Tryd.ntmps10
  go_wp2_with fail
  replace H := H.pair (w.heap.size) (.int .i64 0) (.int .i64 0) 27 rfl
  (with_reducible refine (D0.out _).mono ?_)
  rintro e w1 ⟨rfl, rfl⟩
  go_wp2_with fail
  (with_reducible refine (D1.out _).mono ?_)
  rintro e w1 ⟨rfl, rfl⟩
  go_wp2_with fail
  (with_reducible refine (C.out _ (H.row (by repeat (first | with_reducible exact List.mem_cons_self | with_reducible apply List.mem_cons_of_mem)))).mono ?_)
  rintro e w2 ⟨rfl, hb⟩
  replace H := H.below hb
  clear hb
  obtain ⟨B, off, rfl, hC⟩ := (H.row (by repeat (first | with_reducible exact List.mem_cons_self | with_reducible apply List.mem_cons_of_mem))).2 (by omega)
  obtain ⟨m, rfl⟩ : ∃ m, n = m + 1 := ⟨n - 1, by omega⟩
  rw [Nat.add_sub_cancel] at hx
  have c0 := hC 0 (by omega)
  rw [Nat.add_zero] at c0
  have cm := hC m (by omega)
  clear hC
  have cz0 := H.cell (w.heap.size) 0 (.int .i64 0) (by repeat (first | with_reducible exact List.mem_cons_self | with_reducible apply List.mem_cons_of_mem))
  have cz1 := H.cell (w.heap.size) 1 (.int .i64 0) (by repeat (first | with_reducible exact List.mem_cons_self | with_reducible apply List.mem_cons_of_mem))
  have fz0 := H.frozen (w.heap.size) 0 (by repeat (first | with_reducible exact List.mem_cons_self | with_reducible apply List.mem_cons_of_mem))
  have fz1 := H.frozen (w.heap.size) 1 (by repeat (first | with_reducible exact List.mem_cons_self | with_reducible apply List.mem_cons_of_mem))
  have lz := cell_lt cz0
  have HK := H.old
  clear H
  go_wp2_with fail
  exact bodyPost_ret (v := .tuple #[.agg #[.int .i64 0, .int .i64 0], .int .i64 5]) (by simp [results, Tryd.results10, go_sem, cz0, cz1, lz]) rfl ⟨rfl, by repeat (first | exact HK | refine Below.drew ?_ | refine Below.setCell ?_ (by simp <;> omega) _ | refine Below.alloc ?_ (by simp <;> omega) _)⟩
end Go.Proofs.YtcplfgmajbadmaaDoor
