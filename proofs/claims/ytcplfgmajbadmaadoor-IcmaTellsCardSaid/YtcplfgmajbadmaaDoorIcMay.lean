/- Which periods may be, by the project; why two days have no part. -/
import Derived.Test.YtcplfgmajbadmaaDoorIcSort
namespace Go.Proofs.YtcplfgmajbadmaaDoor
open Go.RowKit
set_option linter.unusedVariables false
set_option linter.unusedSimpArgs false

def cellsF (b off : Nat) (X : Nat → Int) (n : Nat) : Fact := .that (fun W => Cells W b off X n) (fun _ _ hb h => h.below hb)
theorem Held.cells {w W : World} {fs : List Fact} {b off n : Nat} {X : Nat → Int} (h : Held w fs W) (hm : cellsF b off X n ∈ fs) : Cells W b off X n := h.all _ hm

theorem Held.flens {w W : World} {fs : List Fact} (h : Held w fs W) (hm : factsF ∈ fs) : Lens W := (h.facts hm).1

theorem may_few (ao : Option Addr) (n cap : Nat) (f : Int) (w : World) (hF : Facts w) (h : n < 2) :
    Calls Tryd.prog 23 #[.slice ao n cap, .int .i64 f] w fun e w' => (∃ v, e = .returned (.iface 148 v)) ∧ Below w.heap.size w w' := by
  have H := (Held.start w).add (f := factsF) hF
  clear hF
  have t1 : decide ((n : Int) < 2) = true := by simp; omega
  obtain ⟨-, v0, v1, v2, v3, v4, v5, v6, q0, q1, q2, q3, q4, q5, q6⟩ := (H.facts (by repeat (first | with_reducible exact List.mem_cons_self | with_reducible apply List.mem_cons_of_mem))).2
  go_enter Tryd.func23, Tryd.ntmps23
  go_wp2
  go_ret
  exact ⟨⟨_, rfl⟩, H.old⟩

set_option maxHeartbeats 2000000 in
set_option maxRecDepth 100000 in
theorem may_falls (b off m cap : Nat) (X : Nat → Int) (f : Int) (w : World) (hF : Facts w) (hm1 : 1 ≤ m) (hm : m < 100) (hC : Cells w b off X (m + 1)) (hs : ¬ ∀ i, i + 1 < m + 1 → X i ≤ X (i + 1)) :
    Calls Tryd.prog 23 #[.slice (some ⟨b, off, none⟩) (m + 1) cap, .int .i64 f] w fun e w' => (∃ v, e = .returned (.iface 148 v)) ∧ Below w.heap.size w w' := by
  have H := ((Held.start w).add (f := factsF) hF).add (f := cellsF b off X (m + 1)) hC
  have SO := Lib.hid (fun v hv => sorted_any b off m cap X false v (by omega) hv (by first | (simp; done) | (constructor; (intro h; cases h); (intro h; exact absurd h hs)) | (constructor; (intro _; exact hs); (intro _; rfl))))
  have c0 := hC 0 (by omega)
  rw [Nat.add_zero] at c0
  have cm := hC m (by omega)
  clear hF hC hs
  go_enter Tryd.func23, Tryd.ntmps23
  go_wp2_with fail
  go_quiet (fail)
  clear c0 cm
  go_wp2_with fail
  (with_reducible refine (SO.out _ ((H.drewN _).cells (by repeat (first | with_reducible exact List.mem_cons_self | with_reducible apply List.mem_cons_of_mem)))).mono ?_)
  rintro e w1 ⟨rfl, hb⟩
  replace H := (H.drewN _).below hb
  clear hb
  obtain ⟨-, v0, v1, v2, v3, v4, v5, v6, q0, q1, q2, q3, q4, q5, q6⟩ := (H.facts (by repeat (first | with_reducible exact List.mem_cons_self | with_reducible apply List.mem_cons_of_mem))).2
  go_wp2
  go_ret
  exact ⟨⟨_, rfl⟩, H.old⟩

set_option maxHeartbeats 2000000 in
set_option maxRecDepth 100000 in
theorem may_day0 (b off m cap : Nat) (X : Nat → Int) (f : Int) (w : World) (hF : Facts w) (hm1 : 1 ≤ m) (hm : m < 100) (hC : Cells w b off X (m + 1)) (hs : ∀ i, i + 1 < m + 1 → X i ≤ X (i + 1)) (hd : X 0 < 1 ∨ 3652059 < X 0) :
    Calls Tryd.prog 23 #[.slice (some ⟨b, off, none⟩) (m + 1) cap, .int .i64 f] w fun e w' => (∃ v, e = .returned (.iface 148 v)) ∧ Below w.heap.size w w' := by
  have H := ((Held.start w).add (f := factsF) hF).add (f := cellsF b off X (m + 1)) hC
  have SO := Lib.hid (fun v hv => sorted_any b off m cap X true v (by omega) hv (by first | (simp; done) | (constructor; (intro h; cases h); (intro h; exact absurd h hs)) | (constructor; (intro _; exact hs); (intro _; rfl))))
  have c0 := hC 0 (by omega)
  rw [Nat.add_zero] at c0
  have cm := hC m (by omega)
  have D0 := Lib.hid (fun v hv => isday_is (X 0) false v hv (by simp; omega))
  clear hF hC hs
  go_enter Tryd.func23, Tryd.ntmps23
  go_wp2_with fail
  go_quiet (fail)
  clear c0 cm
  go_wp2_with fail
  (with_reducible refine (SO.out _ ((H.drewN _).cells (by repeat (first | with_reducible exact List.mem_cons_self | with_reducible apply List.mem_cons_of_mem)))).mono ?_)
  rintro e w1 ⟨rfl, hb⟩
  replace H := (H.drewN _).below hb
  clear hb
  go_wp2_with fail
  (with_reducible refine (D0.out _ (H.flens (by repeat (first | with_reducible exact List.mem_cons_self | with_reducible apply List.mem_cons_of_mem)))).mono ?_)
  rintro e w2 ⟨rfl, hb⟩
  replace H := H.below hb
  clear hb
  obtain ⟨-, v0, v1, v2, v3, v4, v5, v6, q0, q1, q2, q3, q4, q5, q6⟩ := (H.facts (by repeat (first | with_reducible exact List.mem_cons_self | with_reducible apply List.mem_cons_of_mem))).2
  go_wp2
  go_ret
  exact ⟨⟨_, rfl⟩, H.old⟩

set_option maxHeartbeats 2000000 in
set_option maxRecDepth 100000 in
theorem may_day1 (b off m cap : Nat) (X : Nat → Int) (f : Int) (w : World) (hF : Facts w) (hm1 : 1 ≤ m) (hm : m < 100) (hC : Cells w b off X (m + 1)) (hs : ∀ i, i + 1 < m + 1 → X i ≤ X (i + 1)) (hd : 1 ≤ X 0 ∧ X 0 ≤ 3652059) (hd2 : X m < 1 ∨ 3652059 < X m) :
    Calls Tryd.prog 23 #[.slice (some ⟨b, off, none⟩) (m + 1) cap, .int .i64 f] w fun e w' => (∃ v, e = .returned (.iface 148 v)) ∧ Below w.heap.size w w' := by
  have H := ((Held.start w).add (f := factsF) hF).add (f := cellsF b off X (m + 1)) hC
  have SO := Lib.hid (fun v hv => sorted_any b off m cap X true v (by omega) hv (by first | (simp; done) | (constructor; (intro h; cases h); (intro h; exact absurd h hs)) | (constructor; (intro _; exact hs); (intro _; rfl))))
  have c0 := hC 0 (by omega)
  rw [Nat.add_zero] at c0
  have cm := hC m (by omega)
  have D0 := Lib.hid (fun v hv => isday_is (X 0) true v hv (by simp; omega))
  have D1 := Lib.hid (fun v hv => isday_is (X m) false v hv (by simp; omega))
  clear hF hC hs
  go_enter Tryd.func23, Tryd.ntmps23
  go_wp2_with fail
  go_quiet (fail)
  clear c0 cm
  go_wp2_with fail
  (with_reducible refine (SO.out _ ((H.drewN _).cells (by repeat (first | with_reducible exact List.mem_cons_self | with_reducible apply List.mem_cons_of_mem)))).mono ?_)
  rintro e w1 ⟨rfl, hb⟩
  replace H := (H.drewN _).below hb
  clear hb
  go_wp2_with fail
  (with_reducible refine (D0.out _ (H.flens (by repeat (first | with_reducible exact List.mem_cons_self | with_reducible apply List.mem_cons_of_mem)))).mono ?_)
  rintro e w2 ⟨rfl, hb⟩
  replace H := H.below hb
  clear hb
  go_wp2_with fail
  (with_reducible refine (D1.out _ (H.flens (by repeat (first | with_reducible exact List.mem_cons_self | with_reducible apply List.mem_cons_of_mem)))).mono ?_)
  rintro e w3 ⟨rfl, hb⟩
  replace H := H.below hb
  clear hb
  obtain ⟨-, v0, v1, v2, v3, v4, v5, v6, q0, q1, q2, q3, q4, q5, q6⟩ := (H.facts (by repeat (first | with_reducible exact List.mem_cons_self | with_reducible apply List.mem_cons_of_mem))).2
  go_wp2
  go_ret
  exact ⟨⟨_, rfl⟩, H.old⟩

set_option maxHeartbeats 2000000 in
set_option maxRecDepth 100000 in
theorem may_empty (b off m cap : Nat) (X : Nat → Int) (f : Int) (w : World) (hF : Facts w) (hm1 : 1 ≤ m) (hm : m < 100) (hC : Cells w b off X (m + 1)) (hs : ∀ i, i + 1 < m + 1 → X i ≤ X (i + 1)) (hd : 1 ≤ X 0 ∧ X 0 ≤ 3652059) (hd2 : 1 ≤ X m ∧ X m ≤ 3652059) (he : X 0 = X m) :
    Calls Tryd.prog 23 #[.slice (some ⟨b, off, none⟩) (m + 1) cap, .int .i64 f] w fun e w' => (∃ v, e = .returned (.iface 148 v)) ∧ Below w.heap.size w w' := by
  have H := ((Held.start w).add (f := factsF) hF).add (f := cellsF b off X (m + 1)) hC
  have SO := Lib.hid (fun v hv => sorted_any b off m cap X true v (by omega) hv (by first | (simp; done) | (constructor; (intro h; cases h); (intro h; exact absurd h hs)) | (constructor; (intro _; exact hs); (intro _; rfl))))
  have c0 := hC 0 (by omega)
  rw [Nat.add_zero] at c0
  have cm := hC m (by omega)
  have D0 := Lib.hid (fun v hv => isday_is (X 0) true v hv (by simp; omega))
  have D1 := Lib.hid (fun v hv => isday_is (X m) true v hv (by simp; omega))
  have t1 : (X 0 == X m) = true := by simpa using he
  clear he
  clear hF hC hs
  go_enter Tryd.func23, Tryd.ntmps23
  go_wp2_with fail
  go_quiet (fail)
  clear c0 cm
  go_wp2_with fail
  (with_reducible refine (SO.out _ ((H.drewN _).cells (by repeat (first | with_reducible exact List.mem_cons_self | with_reducible apply List.mem_cons_of_mem)))).mono ?_)
  rintro e w1 ⟨rfl, hb⟩
  replace H := (H.drewN _).below hb
  clear hb
  go_wp2_with fail
  (with_reducible refine (D0.out _ (H.flens (by repeat (first | with_reducible exact List.mem_cons_self | with_reducible apply List.mem_cons_of_mem)))).mono ?_)
  rintro e w2 ⟨rfl, hb⟩
  replace H := H.below hb
  clear hb
  go_wp2_with fail
  (with_reducible refine (D1.out _ (H.flens (by repeat (first | with_reducible exact List.mem_cons_self | with_reducible apply List.mem_cons_of_mem)))).mono ?_)
  rintro e w3 ⟨rfl, hb⟩
  replace H := H.below hb
  clear hb
  obtain ⟨-, v0, v1, v2, v3, v4, v5, v6, q0, q1, q2, q3, q4, q5, q6⟩ := (H.facts (by repeat (first | with_reducible exact List.mem_cons_self | with_reducible apply List.mem_cons_of_mem))).2
  go_wp2
  go_ret
  exact ⟨⟨_, rfl⟩, H.old⟩

set_option maxHeartbeats 2000000 in
set_option maxRecDepth 100000 in
theorem may_freq1 (b off m cap : Nat) (X : Nat → Int) (f : Int) (w : World) (hF : Facts w) (hm1 : 1 ≤ m) (hm : m < 100) (hC : Cells w b off X (m + 1)) (hs : ∀ i, i + 1 < m + 1 → X i ≤ X (i + 1)) (hd : 1 ≤ X 0 ∧ X 0 ≤ 3652059) (hd2 : 1 ≤ X m ∧ X m ≤ 3652059) (he : X 0 ≠ X m) (hf : f < 1) :
    Calls Tryd.prog 23 #[.slice (some ⟨b, off, none⟩) (m + 1) cap, .int .i64 f] w fun e w' => (∃ v, e = .returned (.iface 148 v)) ∧ Below w.heap.size w w' := by
  have H := ((Held.start w).add (f := factsF) hF).add (f := cellsF b off X (m + 1)) hC
  have SO := Lib.hid (fun v hv => sorted_any b off m cap X true v (by omega) hv (by first | (simp; done) | (constructor; (intro h; cases h); (intro h; exact absurd h hs)) | (constructor; (intro _; exact hs); (intro _; rfl))))
  have c0 := hC 0 (by omega)
  rw [Nat.add_zero] at c0
  have cm := hC m (by omega)
  have D0 := Lib.hid (fun v hv => isday_is (X 0) true v hv (by simp; omega))
  have D1 := Lib.hid (fun v hv => isday_is (X m) true v hv (by simp; omega))
  have t1 : (X 0 == X m) = false := by simpa using he
  have t2 : decide (f < 1) = true := by simpa using hf
  clear he
  clear hF hC hs
  go_enter Tryd.func23, Tryd.ntmps23
  go_wp2_with fail
  go_quiet (fail)
  clear c0 cm
  go_wp2_with fail
  (with_reducible refine (SO.out _ ((H.drewN _).cells (by repeat (first | with_reducible exact List.mem_cons_self | with_reducible apply List.mem_cons_of_mem)))).mono ?_)
  rintro e w1 ⟨rfl, hb⟩
  replace H := (H.drewN _).below hb
  clear hb
  go_wp2_with fail
  (with_reducible refine (D0.out _ (H.flens (by repeat (first | with_reducible exact List.mem_cons_self | with_reducible apply List.mem_cons_of_mem)))).mono ?_)
  rintro e w2 ⟨rfl, hb⟩
  replace H := H.below hb
  clear hb
  go_wp2_with fail
  (with_reducible refine (D1.out _ (H.flens (by repeat (first | with_reducible exact List.mem_cons_self | with_reducible apply List.mem_cons_of_mem)))).mono ?_)
  rintro e w3 ⟨rfl, hb⟩
  replace H := H.below hb
  clear hb
  obtain ⟨-, v0, v1, v2, v3, v4, v5, v6, q0, q1, q2, q3, q4, q5, q6⟩ := (H.facts (by repeat (first | with_reducible exact List.mem_cons_self | with_reducible apply List.mem_cons_of_mem))).2
  go_wp2
  go_ret
  exact ⟨⟨_, rfl⟩, H.old⟩

set_option maxHeartbeats 2000000 in
set_option maxRecDepth 100000 in
theorem may_freq2 (b off m cap : Nat) (X : Nat → Int) (f : Int) (w : World) (hF : Facts w) (hm1 : 1 ≤ m) (hm : m < 100) (hC : Cells w b off X (m + 1)) (hs : ∀ i, i + 1 < m + 1 → X i ≤ X (i + 1)) (hd : 1 ≤ X 0 ∧ X 0 ≤ 3652059) (hd2 : 1 ≤ X m ∧ X m ≤ 3652059) (he : X 0 ≠ X m) (hf : 12 < f) :
    Calls Tryd.prog 23 #[.slice (some ⟨b, off, none⟩) (m + 1) cap, .int .i64 f] w fun e w' => (∃ v, e = .returned (.iface 148 v)) ∧ Below w.heap.size w w' := by
  have H := ((Held.start w).add (f := factsF) hF).add (f := cellsF b off X (m + 1)) hC
  have SO := Lib.hid (fun v hv => sorted_any b off m cap X true v (by omega) hv (by first | (simp; done) | (constructor; (intro h; cases h); (intro h; exact absurd h hs)) | (constructor; (intro _; exact hs); (intro _; rfl))))
  have c0 := hC 0 (by omega)
  rw [Nat.add_zero] at c0
  have cm := hC m (by omega)
  have D0 := Lib.hid (fun v hv => isday_is (X 0) true v hv (by simp; omega))
  have D1 := Lib.hid (fun v hv => isday_is (X m) true v hv (by simp; omega))
  have t1 : (X 0 == X m) = false := by simpa using he
  have t2 : decide (f < 1) = false := by simp; omega
  clear he
  clear hF hC hs
  go_enter Tryd.func23, Tryd.ntmps23
  go_wp2_with fail
  go_quiet (fail)
  clear c0 cm
  go_wp2_with fail
  (with_reducible refine (SO.out _ ((H.drewN _).cells (by repeat (first | with_reducible exact List.mem_cons_self | with_reducible apply List.mem_cons_of_mem)))).mono ?_)
  rintro e w1 ⟨rfl, hb⟩
  replace H := (H.drewN _).below hb
  clear hb
  go_wp2_with fail
  (with_reducible refine (D0.out _ (H.flens (by repeat (first | with_reducible exact List.mem_cons_self | with_reducible apply List.mem_cons_of_mem)))).mono ?_)
  rintro e w2 ⟨rfl, hb⟩
  replace H := H.below hb
  clear hb
  go_wp2_with fail
  (with_reducible refine (D1.out _ (H.flens (by repeat (first | with_reducible exact List.mem_cons_self | with_reducible apply List.mem_cons_of_mem)))).mono ?_)
  rintro e w3 ⟨rfl, hb⟩
  replace H := H.below hb
  clear hb
  obtain ⟨-, v0, v1, v2, v3, v4, v5, v6, q0, q1, q2, q3, q4, q5, q6⟩ := (H.facts (by repeat (first | with_reducible exact List.mem_cons_self | with_reducible apply List.mem_cons_of_mem))).2
  go_wp2
  go_ret
  exact ⟨⟨_, rfl⟩, H.old⟩

set_option maxHeartbeats 2000000 in
set_option maxRecDepth 100000 in
theorem may_yes (b off m cap : Nat) (X : Nat → Int) (f : Int) (w : World) (hF : Facts w) (hm1 : 1 ≤ m) (hm : m < 100) (hC : Cells w b off X (m + 1)) (hs : ∀ i, i + 1 < m + 1 → X i ≤ X (i + 1)) (hd : 1 ≤ X 0 ∧ X 0 ≤ 3652059) (hd2 : 1 ≤ X m ∧ X m ≤ 3652059) (he : X 0 ≠ X m) (hf : 1 ≤ f ∧ f ≤ 12) :
    Calls Tryd.prog 23 #[.slice (some ⟨b, off, none⟩) (m + 1) cap, .int .i64 f] w fun e w' => e = .returned .nilIface ∧ Below w.heap.size w w' := by
  have H := ((Held.start w).add (f := factsF) hF).add (f := cellsF b off X (m + 1)) hC
  have SO := Lib.hid (fun v hv => sorted_any b off m cap X true v (by omega) hv (by first | (simp; done) | (constructor; (intro h; cases h); (intro h; exact absurd h hs)) | (constructor; (intro _; exact hs); (intro _; rfl))))
  have c0 := hC 0 (by omega)
  rw [Nat.add_zero] at c0
  have cm := hC m (by omega)
  have D0 := Lib.hid (fun v hv => isday_is (X 0) true v hv (by simp; omega))
  have D1 := Lib.hid (fun v hv => isday_is (X m) true v hv (by simp; omega))
  have t1 : (X 0 == X m) = false := by simpa using he
  clear he
  clear hF hC hs
  go_enter Tryd.func23, Tryd.ntmps23
  go_wp2_with fail
  go_quiet (fail)
  clear c0 cm
  go_wp2_with fail
  (with_reducible refine (SO.out _ ((H.drewN _).cells (by repeat (first | with_reducible exact List.mem_cons_self | with_reducible apply List.mem_cons_of_mem)))).mono ?_)
  rintro e w1 ⟨rfl, hb⟩
  replace H := (H.drewN _).below hb
  clear hb
  go_wp2_with fail
  (with_reducible refine (D0.out _ (H.flens (by repeat (first | with_reducible exact List.mem_cons_self | with_reducible apply List.mem_cons_of_mem)))).mono ?_)
  rintro e w2 ⟨rfl, hb⟩
  replace H := H.below hb
  clear hb
  go_wp2_with fail
  (with_reducible refine (D1.out _ (H.flens (by repeat (first | with_reducible exact List.mem_cons_self | with_reducible apply List.mem_cons_of_mem)))).mono ?_)
  rintro e w3 ⟨rfl, hb⟩
  replace H := H.below hb
  clear hb
  go_wp2
  go_ret
  exact ⟨rfl, H.old⟩

/-- Why periods may not be. -/
theorem why_no (ao : Option Addr) (n cap : Nat) (X : Nat → Int) (f : Int) (w : World) (hF : Facts w) (hn : n ≤ 100) (hR : RowAt w ao X n cap) (hc : ¬ MayX X n f) :
    Calls Tryd.prog 23 #[.slice ao n cap, .int .i64 f] w fun e w' => (∃ v, e = .returned (.iface 148 v)) ∧ Below w.heap.size w w' := by
  by_cases h : n < 2
  · exact may_few ao n cap f w hF h
  · obtain ⟨b, off, rfl, hC⟩ := hR.2 (by omega)
    obtain ⟨m, rfl⟩ : ∃ m, n = m + 1 := ⟨n - 1, by omega⟩
    by_cases hs : ∀ i, i + 1 < m + 1 → X i ≤ X (i + 1)
    · by_cases hd : 1 ≤ X 0 ∧ X 0 ≤ 3652059
      · by_cases hd2 : 1 ≤ X m ∧ X m ≤ 3652059
        · by_cases he : X 0 = X m
          · exact may_empty b off m cap X f w hF (by omega) (by omega) hC hs hd hd2 he
          · by_cases h1 : f < 1
            · exact may_freq1 b off m cap X f w hF (by omega) (by omega) hC hs hd hd2 he h1
            · by_cases h2 : 12 < f
              · exact may_freq2 b off m cap X f w hF (by omega) (by omega) hC hs hd hd2 he h2
              · exfalso
                have RS : ∀ j, j < m + 1 → X 0 ≤ X j := by
                  intro j
                  induction j with
                  | zero => intro _; exact Int.le_refl _
                  | succ j ih => intro hj; exact Int.le_trans (ih (by omega)) (hs j hj)
                have RT : ∀ k j, j + k = m → X j ≤ X m := by
                  intro k
                  induction k with
                  | zero => intro j e; obtain rfl : j = m := by omega
                            exact Int.le_refl _
                  | succ k ih => intro j e; exact Int.le_trans (hs j (by omega)) (ih (j + 1) (by omega))
                have k0 := RS m (by omega)
                exact hc ⟨by omega, by omega, by omega, ⟨fun i hi => ⟨by have := RS i hi; omega, by have := RT (m - i) i (by omega); omega⟩, hs⟩, show X 0 < X (m + 1 - 1) by rw [Nat.add_sub_cancel]; omega⟩
        · exact may_day1 b off m cap X f w hF (by omega) (by omega) hC hs hd (by omega)
      · exact may_day0 b off m cap X f w hF (by omega) (by omega) hC hs (by omega)
    · exact may_falls b off m cap X f w hF (by omega) (by omega) hC hs
theorem why_ok (ao : Option Addr) (n cap : Nat) (X : Nat → Int) (f : Int) (w : World) (hF : Facts w) (hn : n ≤ 100) (hR : RowAt w ao X n cap) (hc : MayX X n f) :
    Calls Tryd.prog 23 #[.slice ao n cap, .int .i64 f] w fun e w' => e = .returned .nilIface ∧ Below w.heap.size w w' := by
  obtain ⟨h1, h2, h3, h4, h5⟩ := hc
  obtain ⟨b, off, rfl, hC⟩ := hR.2 (by omega)
  obtain ⟨m, rfl⟩ : ∃ m, n = m + 1 := ⟨n - 1, by omega⟩
  rw [Nat.add_sub_cancel] at h5
  exact may_yes b off m cap X f w hF (by omega) (by omega) hC h4.2 (h4.1 0 (by omega)) (h4.1 m (by omega)) (by omega) h3

theorem imay_is (ao : Option Addr) (n cap : Nat) (X : Nat → Int) (f : Int) (c : Bool) (w : World) (hF : Facts w) (hn : n ≤ 100) (hR : RowAt w ao X n cap) (hc : c = true ↔ MayX X n f) :
    Calls Tryd.prog 11 #[.slice ao n cap, .int .i64 f] w fun e w' => e = .returned (.bool c) ∧ Below w.heap.size w w' := by
  have H := ((Held.start w).add (f := factsF) hF).add (f := rowF ao X n cap) hR
  clear hF hR
  cases c
  · have C := Lib.hid (fun v h1 h2 => why_no ao n cap X f v h1 hn h2 (fun k => absurd (hc.2 k) (by decide)))
    clear hc
    go_enter Tryd.func11, Tryd.ntmps11
    go_wp2_with fail
    (with_reducible refine (C.out _ (H.facts (by repeat (first | with_reducible exact List.mem_cons_self | with_reducible apply List.mem_cons_of_mem))) (H.row (by repeat (first | with_reducible exact List.mem_cons_self | with_reducible apply List.mem_cons_of_mem)))).mono ?_)
    rintro e w1 ⟨⟨v, rfl⟩, hb⟩
    replace H := H.below hb
    clear hb
    go_wp2_with fail
    go_ret
    exact ⟨rfl, H.old⟩
  · have C := Lib.hid (fun v h1 h2 => why_ok ao n cap X f v h1 hn h2 (hc.1 rfl))
    clear hc
    go_enter Tryd.func11, Tryd.ntmps11
    go_wp2_with fail
    (with_reducible refine (C.out _ (H.facts (by repeat (first | with_reducible exact List.mem_cons_self | with_reducible apply List.mem_cons_of_mem))) (H.row (by repeat (first | with_reducible exact List.mem_cons_self | with_reducible apply List.mem_cons_of_mem)))).mono ?_)
    rintro e w1 ⟨rfl, hb⟩
    replace H := H.below hb
    clear hb
    go_wp2_with fail
    go_ret
    exact ⟨rfl, H.old⟩
end Go.Proofs.YtcplfgmajbadmaaDoor
