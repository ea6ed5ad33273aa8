/- Why two days have no part by periods. -/
import Derived.Test.YtcplfgmajbadmaaDoorIcMay
namespace Go.Proofs.YtcplfgmajbadmaaDoor
open Go.RowKit
set_option linter.unusedVariables false
set_option linter.unusedSimpArgs false

set_option maxHeartbeats 2000000 in
set_option maxRecDepth 100000 in
theorem chk_day0 (a b : Int) (ao : Option Addr) (n cap : Nat) (X : Nat → Int) (f : Int) (w : World) (hF : Facts w) (hn : n ≤ 100) (hR : RowAt w ao X n cap) (hd : a < 1 ∨ 3652059 < a) :
    Calls Tryd.prog 19 #[.int .i64 a, .int .i64 b, .slice ao n cap, .int .i64 f] w fun e w' => (∃ v, e = .returned (.iface 74 (.agg #[.int .i64 3, .iface 148 v]))) ∧ Below w.heap.size w w' := by
  have H := ((Held.start w).add (f := factsF) hF).add (f := rowF ao X n cap) hR
  clear hF hR
  have D0 := Lib.hid (fun v hv => isday_is a false v hv (by first | (simp; done) | (simp; omega)))
  clear hd
  go_enter Tryd.func19, Tryd.ntmps19
  go_wp2_with fail
  (with_reducible refine (D0.out _ (H.flens (by repeat (first | with_reducible exact List.mem_cons_self | with_reducible apply List.mem_cons_of_mem)))).mono ?_)
  rintro e w1 ⟨rfl, hb⟩
  replace H := H.below hb
  clear hb
  obtain ⟨-, v0, v1, v2, v3, v4, v5, v6, q0, q1, q2, q3, q4, q5, q6⟩ := (H.facts (by repeat (first | with_reducible exact List.mem_cons_self | with_reducible apply List.mem_cons_of_mem))).2
  go_wp2
  go_ret
  exact ⟨⟨_, rfl⟩, H.old⟩

set_option maxHeartbeats 2000000 in
set_option maxRecDepth 100000 in
theorem chk_day1 (a b : Int) (ao : Option Addr) (n cap : Nat) (X : Nat → Int) (f : Int) (w : World) (hF : Facts w) (hn : n ≤ 100) (hR : RowAt w ao X n cap) (hd : 1 ≤ a ∧ a ≤ 3652059) (hd2 : b < 1 ∨ 3652059 < b) :
    Calls Tryd.prog 19 #[.int .i64 a, .int .i64 b, .slice ao n cap, .int .i64 f] w fun e w' => (∃ v, e = .returned (.iface 74 (.agg #[.int .i64 3, .iface 148 v]))) ∧ Below w.heap.size w w' := by
  have H := ((Held.start w).add (f := factsF) hF).add (f := rowF ao X n cap) hR
  clear hF hR
  have D0 := Lib.hid (fun v hv => isday_is a true v hv (by first | (simp; done) | (simp; omega)))
  have D1 := Lib.hid (fun v hv => isday_is b false v hv (by first | (simp; done) | (simp; omega)))
  clear hd hd2
  go_enter Tryd.func19, Tryd.ntmps19
  go_wp2_with fail
  (with_reducible refine (D0.out _ (H.flens (by repeat (first | with_reducible exact List.mem_cons_self | with_reducible apply List.mem_cons_of_mem)))).mono ?_)
  rintro e w1 ⟨rfl, hb⟩
  replace H := H.below hb
  clear hb
  go_wp2_with fail
  (with_reducible refine (D1.out _ (H.flens (by repeat (first | with_reducible exact List.mem_cons_self | with_reducible apply List.mem_cons_of_mem)))).mono ?_)
  rintro e w2 ⟨rfl, hb⟩
  replace H := H.below hb
  clear hb
  obtain ⟨-, v0, v1, v2, v3, v4, v5, v6, q0, q1, q2, q3, q4, q5, q6⟩ := (H.facts (by repeat (first | with_reducible exact List.mem_cons_self | with_reducible apply List.mem_cons_of_mem))).2
  go_wp2
  go_ret
  exact ⟨⟨_, rfl⟩, H.old⟩

set_option maxHeartbeats 2000000 in
set_option maxRecDepth 100000 in
theorem chk_order (a b : Int) (ao : Option Addr) (n cap : Nat) (X : Nat → Int) (f : Int) (w : World) (hF : Facts w) (hn : n ≤ 100) (hR : RowAt w ao X n cap) (hd : 1 ≤ a ∧ a ≤ 3652059) (hd2 : 1 ≤ b ∧ b ≤ 3652059) (hab : b < a) :
    Calls Tryd.prog 19 #[.int .i64 a, .int .i64 b, .slice ao n cap, .int .i64 f] w fun e w' => (∃ v, e = .returned (.iface 74 (.agg #[.int .i64 4, .iface 148 v]))) ∧ Below w.heap.size w w' := by
  have H := ((Held.start w).add (f := factsF) hF).add (f := rowF ao X n cap) hR
  clear hF hR
  have D0 := Lib.hid (fun v hv => isday_is a true v hv (by first | (simp; done) | (simp; omega)))
  have D1 := Lib.hid (fun v hv => isday_is b true v hv (by first | (simp; done) | (simp; omega)))
  clear hd hd2
  go_enter Tryd.func19, Tryd.ntmps19
  go_wp2_with fail
  (with_reducible refine (D0.out _ (H.flens (by repeat (first | with_reducible exact List.mem_cons_self | with_reducible apply List.mem_cons_of_mem)))).mono ?_)
  rintro e w1 ⟨rfl, hb⟩
  replace H := H.below hb
  clear hb
  go_wp2_with fail
  (with_reducible refine (D1.out _ (H.flens (by repeat (first | with_reducible exact List.mem_cons_self | with_reducible apply List.mem_cons_of_mem)))).mono ?_)
  rintro e w2 ⟨rfl, hb⟩
  replace H := H.below hb
  clear hb
  obtain ⟨-, v0, v1, v2, v3, v4, v5, v6, q0, q1, q2, q3, q4, q5, q6⟩ := (H.facts (by repeat (first | with_reducible exact List.mem_cons_self | with_reducible apply List.mem_cons_of_mem))).2
  go_wp2
  go_ret
  exact ⟨⟨_, rfl⟩, H.old⟩

set_option maxHeartbeats 2000000 in
set_option maxRecDepth 100000 in
theorem chk_may (a b : Int) (ao : Option Addr) (n cap : Nat) (X : Nat → Int) (f : Int) (w : World) (hF : Facts w) (hn : n ≤ 100) (hR : RowAt w ao X n cap) (hd : 1 ≤ a ∧ a ≤ 3652059) (hd2 : 1 ≤ b ∧ b ≤ 3652059) (hab : a ≤ b) (hm : ¬ MayX X n f) :
    Calls Tryd.prog 19 #[.int .i64 a, .int .i64 b, .slice ao n cap, .int .i64 f] w fun e w' => (∃ v, e = .returned (.iface 74 (.agg #[.int .i64 5, .iface 148 v]))) ∧ Below w.heap.size w w' := by
  have H := ((Held.start w).add (f := factsF) hF).add (f := rowF ao X n cap) hR
  clear hF hR
  have D0 := Lib.hid (fun v hv => isday_is a true v hv (by first | (simp; done) | (simp; omega)))
  have D1 := Lib.hid (fun v hv => isday_is b true v hv (by first | (simp; done) | (simp; omega)))
  have C := Lib.hid (fun v h1 h2 => why_no ao n cap X f v h1 hn h2 hm)
  clear hd hd2 hm
  go_enter Tryd.func19, Tryd.ntmps19
  go_wp2_with fail
  (with_reducible refine (D0.out _ (H.flens (by repeat (first | with_reducible exact List.mem_cons_self | with_reducible apply List.mem_cons_of_mem)))).mono ?_)
  rintro e w1 ⟨rfl, hb⟩
  replace H := H.below hb
  clear hb
  go_wp2_with fail
  (with_reducible refine (D1.out _ (H.flens (by repeat (first | with_reducible exact List.mem_cons_self | with_reducible apply List.mem_cons_of_mem)))).mono ?_)
  rintro e w2 ⟨rfl, hb⟩
  replace H := H.below hb
  clear hb
  go_wp2_with fail
  (with_reducible refine (C.out _ (H.facts (by repeat (first | with_reducible exact List.mem_cons_self | with_reducible apply List.mem_cons_of_mem))) (H.row (by repeat (first | with_reducible exact List.mem_cons_self | with_reducible apply List.mem_cons_of_mem)))).mono ?_)
  rintro e w3 ⟨⟨v, rfl⟩, hb⟩
  replace H := H.below hb
  clear hb
  go_wp2
  go_ret
  exact ⟨⟨_, rfl⟩, H.old⟩

set_option maxHeartbeats 2000000 in
set_option maxRecDepth 100000 in
theorem chk_out0 (a b : Int) (ao : Option Addr) (n cap : Nat) (X : Nat → Int) (f : Int) (w : World) (hF : Facts w) (hn : n ≤ 100) (hR : RowAt w ao X n cap) (hd : 1 ≤ a ∧ a ≤ 3652059) (hd2 : 1 ≤ b ∧ b ≤ 3652059) (hab : a ≤ b) (hm : MayX X n f) (hx : a < X 0) :
    Calls Tryd.prog 19 #[.int .i64 a, .int .i64 b, .slice ao n cap, .int .i64 f] w fun e w' => (∃ v, e = .returned (.iface 74 (.agg #[.int .i64 5, .iface 148 v]))) ∧ Below w.heap.size w w' := by
  have H := ((Held.start w).add (f := factsF) hF).add (f := rowF ao X n cap) hR
  clear hF hR
  have D0 := Lib.hid (fun v hv => isday_is a true v hv (by first | (simp; done) | (simp; omega)))
  have D1 := Lib.hid (fun v hv => isday_is b true v hv (by first | (simp; done) | (simp; omega)))
  have C := Lib.hid (fun v h1 h2 => why_ok ao n cap X f v h1 hn h2 hm)
  have k2 := hm.1
  clear hd hd2 hm
  go_enter Tryd.func19, Tryd.ntmps19
  go_wp2_with fail
  (with_reducible refine (D0.out _ (H.flens (by repeat (first | with_reducible exact List.mem_cons_self | with_reducible apply List.mem_cons_of_mem)))).mono ?_)
  rintro e w1 ⟨rfl, hb⟩
  replace H := H.below hb
  clear hb
  go_wp2_with fail
  (with_reducible refine (D1.out _ (H.flens (by repeat (first | with_reducible exact List.mem_cons_self | with_reducible apply List.mem_cons_of_mem)))).mono ?_)
  rintro e w2 ⟨rfl, hb⟩
  replace H := H.below hb
  clear hb
  go_wp2_with fail
  (with_reducible refine (C.out _ (H.facts (by repeat (first | with_reducible exact List.mem_cons_self | with_reducible apply List.mem_cons_of_mem))) (H.row (by repeat (first | with_reducible exact List.mem_cons_self | with_reducible apply List.mem_cons_of_mem)))).mono ?_)
  rintro e w3 ⟨rfl, hb⟩
  replace H := H.below hb
  clear hb
  obtain ⟨B, off, rfl, hC⟩ := (H.row (by repeat (first | with_reducible exact List.mem_cons_self | with_reducible apply List.mem_cons_of_mem))).2 (by omega)
  obtain ⟨m, rfl⟩ : ∃ m, n = m + 1 := ⟨n - 1, by omega⟩
  have c0 := hC 0 (by omega)
  rw [Nat.add_zero] at c0
  have cm := hC m (by omega)
  clear hC
  obtain ⟨-, v0, v1, v2, v3, v4, v5, v6, q0, q1, q2, q3, q4, q5, q6⟩ := (H.facts (by repeat (first | with_reducible exact List.mem_cons_self | with_reducible apply List.mem_cons_of_mem))).2
  go_wp2
  go_ret
  exact ⟨⟨_, rfl⟩, H.old⟩

set_option maxHeartbeats 2000000 in
set_option maxRecDepth 100000 in
theorem chk_out1 (a b : Int) (ao : Option Addr) (n cap : Nat) (X : Nat → Int) (f : Int) (w : World) (hF : Facts w) (hn : n ≤ 100) (hR : RowAt w ao X n cap) (hd : 1 ≤ a ∧ a ≤ 3652059) (hd2 : 1 ≤ b ∧ b ≤ 3652059) (hab : a ≤ b) (hm : MayX X n f) (hx0 : X 0 ≤ a) (hx : X (n - 1) < b) :
    Calls Tryd.prog 19 #[.int .i64 a, .int .i64 b, .slice ao n cap, .int .i64 f] w fun e w' => (∃ v, e = .returned (.iface 74 (.agg #[.int .i64 5, .iface 148 v]))) ∧ Below w.heap.size w w' := by
  have H := ((Held.start w).add (f := factsF) hF).add (f := rowF ao X n cap) hR
  clear hF hR
  have D0 := Lib.hid (fun v hv => isday_is a true v hv (by first | (simp; done) | (simp; omega)))
  have D1 := Lib.hid (fun v hv => isday_is b true v hv (by first | (simp; done) | (simp; omega)))
  have C := Lib.hid (fun v h1 h2 => why_ok ao n cap X f v h1 hn h2 hm)
  have k2 := hm.1
  clear hd hd2 hm
  go_enter Tryd.func19, Tryd.ntmps19
  go_wp2_with fail
  (with_reducible refine (D0.out _ (H.flens (by repeat (first | with_reducible exact List.mem_cons_self | with_reducible apply List.mem_cons_of_mem)))).mono ?_)
  rintro e w1 ⟨rfl, hb⟩
  replace H := H.below hb
  clear hb
  go_wp2_with fail
  (with_reducible refine (D1.out _ (H.flens (by repeat (first | with_reducible exact List.mem_cons_self | with_reducible apply List.mem_cons_of_mem)))).mono ?_)
  rintro e w2 ⟨rfl, hb⟩
  replace H := H.below hb
  clear hb
  go_wp2_with fail
  (with_reducible refine (C.out _ (H.facts (by repeat (first | with_reducible exact List.mem_cons_self | with_reducible apply List.mem_cons_of_mem))) (H.row (by repeat (first | with_reducible exact List.mem_cons_self | with_reducible apply List.mem_cons_of_mem)))).mono ?_)
  rintro e w3 ⟨rfl, hb⟩
  replace H := H.below hb
  clear hb
  obtain ⟨B, off, rfl, hC⟩ := (H.row (by repeat (first | with_reducible exact List.mem_cons_self | with_reducible apply List.mem_cons_of_mem))).2 (by omega)
  obtain ⟨m, rfl⟩ : ∃ m, n = m + 1 := ⟨n - 1, by omega⟩
  rw [Nat.add_sub_cancel] at hx
  have c0 := hC 0 (by omega)
  rw [Nat.add_zero] at c0
  have cm := hC m (by omega)
  clear hC
  obtain ⟨-, v0, v1, v2, v3, v4, v5, v6, q0, q1, q2, q3, q4, q5, q6⟩ := (H.facts (by repeat (first | with_reducible exact List.mem_cons_self | with_reducible apply List.mem_cons_of_mem))).2
  go_wp2
  go_ret
  exact ⟨⟨_, rfl⟩, H.old⟩

set_option maxHeartbeats 2000000 in
set_option maxRecDepth 100000 in
theorem chk_ok (a b : Int) (ao : Option Addr) (n cap : Nat) (X : Nat → Int) (f : Int) (w : World) (hF : Facts w) (hn : n ≤ 100) (hR : RowAt w ao X n cap) (hd : 1 ≤ a ∧ a ≤ 3652059) (hd2 : 1 ≤ b ∧ b ≤ 3652059) (hab : a ≤ b) (hm : MayX X n f) (hx0 : X 0 ≤ a) (hx : b ≤ X (n - 1)) :
    Calls Tryd.prog 19 #[.int .i64 a, .int .i64 b, .slice ao n cap, .int .i64 f] w fun e w' => e = .returned .nilIface ∧ Below w.heap.size w w' := by
  have H := ((Held.start w).add (f := factsF) hF).add (f := rowF ao X n cap) hR
  clear hF hR
  have D0 := Lib.hid (fun v hv => isday_is a true v hv (by first | (simp; done) | (simp; omega)))
  have D1 := Lib.hid (fun v hv => isday_is b true v hv (by first | (simp; done) | (simp; omega)))
  have C := Lib.hid (fun v h1 h2 => why_ok ao n cap X f v h1 hn h2 hm)
  have k2 := hm.1
  clear hd hd2 hm
  go_enter Tryd.func19, Tryd.ntmps19
  go_wp2_with fail
  (with_reducible refine (D0.out _ (H.flens (by repeat (first | with_reducible exact List.mem_cons_self | with_reducible apply List.mem_cons_of_mem)))).mono ?_)
  rintro e w1 ⟨rfl, hb⟩
  replace H := H.below hb
  clear hb
  go_wp2_with fail
  (with_reducible refine (D1.out _ (H.flens (by repeat (first | with_reducible exact List.mem_cons_self | with_reducible apply List.mem_cons_of_mem)))).mono ?_)
  rintro e w2 ⟨rfl, hb⟩
  replace H := H.below hb
  clear hb
  go_wp2_with fail
  (with_reducible refine (C.out _ (H.facts (by repeat (first | with_reducible exact List.mem_cons_self | with_reducible apply List.mem_cons_of_mem))) (H.row (by repeat (first | with_reducible exact List.mem_cons_self | with_reducible apply List.mem_cons_of_mem)))).mono ?_)
  rintro e w3 ⟨rfl, hb⟩
  replace H := H.below hb
  clear hb
  obtain ⟨B, off, rfl, hC⟩ := (H.row (by repeat (first | with_reducible exact List.mem_cons_self | with_reducible apply List.mem_cons_of_mem))).2 (by omega)
  obtain ⟨m, rfl⟩ : ∃ m, n = m + 1 := ⟨n - 1, by omega⟩
  rw [Nat.add_sub_cancel] at hx
  have c0 := hC 0 (by omega)
  rw [Nat.add_zero] at c0
  have cm := hC m (by omega)
  clear hC
  go_wp2
  go_ret
  exact ⟨rfl, H.old⟩

/-- What a refusal's code is; or there is none. -/
theorem chk_any (a b : Int) (ao : Option Addr) (n cap : Nat) (X : Nat → Int) (f p q c : Int) (w : World) (hF : Facts w) (hn : n ≤ 100) (hR : RowAt w ao X n cap) (hI : IcIs X n f a b p q c) :
    Calls Tryd.prog 19 #[.int .i64 a, .int .i64 b, .slice ao n cap, .int .i64 f] w fun e w' => ((c = 0 ∧ e = .returned .nilIface) ∨ (c ≠ 0 ∧ (∃ v, e = .returned (.iface 74 (.agg #[.int .i64 c, .iface 148 v]))))) ∧ Below w.heap.size w w' := by
  rcases hI with ⟨h1, _, _, rfl⟩ | ⟨h1, h2, _, _, rfl⟩ | ⟨h1, h2, h3, _, _, rfl⟩ | ⟨h1, h2, h3, _, _, rfl⟩
  · unfold isDay at h1
    by_cases k : a < 1 ∨ 3652059 < a
    · exact (chk_day0 a b ao n cap X f w hF hn hR k).mono fun _ _ h => ⟨.inr ⟨by decide, h.1⟩, h.2⟩
    · exact (chk_day1 a b ao n cap X f w hF hn hR (by omega) (by omega)).mono fun _ _ h => ⟨.inr ⟨by decide, h.1⟩, h.2⟩
  · exact (chk_order a b ao n cap X f w hF hn hR h1.1 h1.2 h2).mono fun _ _ h => ⟨.inr ⟨by decide, h.1⟩, h.2⟩
  · by_cases k : MayX X n f
    · by_cases k2 : X 0 ≤ a
      · have k3 : X (n - 1) < b := Int.not_le.1 (fun z => h3 ⟨k, k2, z⟩)
        exact (chk_out1 a b ao n cap X f w hF hn hR h1.1 h1.2 h2 k k2 k3).mono fun _ _ h => ⟨.inr ⟨by decide, h.1⟩, h.2⟩
      · exact (chk_out0 a b ao n cap X f w hF hn hR h1.1 h1.2 h2 k (by omega)).mono fun _ _ h => ⟨.inr ⟨by decide, h.1⟩, h.2⟩
    · exact (chk_may a b ao n cap X f w hF hn hR h1.1 h1.2 h2 k).mono fun _ _ h => ⟨.inr ⟨by decide, h.1⟩, h.2⟩
  · exact (chk_ok a b ao n cap X f w hF hn hR h1.1 h1.2 h2 h3.1 h3.2.1 h3.2.2).mono fun _ _ h => ⟨.inl ⟨rfl, h.1⟩, h.2⟩
end Go.Proofs.YtcplfgmajbadmaaDoor
