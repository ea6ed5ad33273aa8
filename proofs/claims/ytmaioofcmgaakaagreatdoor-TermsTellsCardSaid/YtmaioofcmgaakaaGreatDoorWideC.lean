/- Package wide: Add, Sub: exact, or told as too great, for every numbers. -/
import Derived.Test.YtmaioofcmgaakaaGreatDoorWideB
namespace Go.Proofs.YtmaioofcmgaakaaGreatDoor
open Go.RowKit

theorem split_exact (h l : Int) (w : World) :
    Calls Tryz.prog 92 #[.agg #[.int .u64 h, .int .u64 l]] w fun e w' => e = .returned (.agg #[.int .u64 l, .int .u64 h]) ∧ w' = (w.alloc (.cells #[.int .u64 h, .int .u64 l] 149)).alloc (.cells #[.int .u64 l, .int .u64 h] 165) := by
  go_enter Tryz.func92, Tryz.ntmps92
  go_wp2
  exact bodyPost_ret (v := .agg #[.int .u64 l, .int .u64 h]) (by simp [results, Tryz.results92, go_sem]) rfl ⟨rfl, rfl⟩

set_option maxHeartbeats 1000000 in
theorem add_yes (a1 a0 b1 b0 : Int) (w : World) (k1 : 0 ≤ a0) (k2 : a0 < 18446744073709551616) (k3 : 0 ≤ a1) (k4 : a1 < 18446744073709551616) (k5 : 0 ≤ b0) (k6 : b0 < 18446744073709551616) (k7 : 0 ≤ b1) (k8 : b1 < 18446744073709551616)
    (h : wn a1 a0 + wn b1 b0 < top) :
    Calls Tryz.prog 81 #[.agg #[.int .u64 a1, .int .u64 a0], .agg #[.int .u64 b1, .int .u64 b0]] w fun e w' => e = .returned (.tuple #[.agg #[.int .u64 (hi (wn a1 a0 + wn b1 b0)), .int .u64 (lo (wn a1 a0 + wn b1 b0))], .int .i64 0]) ∧ Below w.heap.size w w' := by
  have hmf : ∀ (fn : Fn) (first cap : Array Value) (w : World), (Instr.makeFunc fn first cap).run Tryz.prog w = .ok (.func fn first cap) w := fun _ _ _ _ => rfl
  have h0 : 0 ≤ wn a1 a0 + wn b1 b0 := by have := wn_bd a1 a0 k3 k4 k1 k2; have := wn_bd b1 b0 k7 k8 k5 k6; omega
  have E0 := Lib.hid (add_lo a1 a0 b1 b0)
  have E1 := Lib.hid (add_hi a1 a0 b1 b0 h0 h)
  have E2 := Lib.hid (add_fits a1 a0 b1 b0 h0 h)
  clear h h0
  generalize hi (wn a1 a0 + wn b1 b0) = r1 at *
  generalize lo (wn a1 a0 + wn b1 b0) = r0 at *
  go_enter Tryz.func81, Tryz.ntmps81
  go_upto_region 1 with fail
  go_cut [6, 7] (fun s6 s7 wx => ∃ pa pb : Nat, s6 = .pointer (some ⟨pa, 0, none⟩) ∧ s7 = .pointer (some ⟨pb, 0, none⟩) ∧ wx.cell? ⟨pa, 0, none⟩ = some (.int .u64 a0) ∧ wx.cell? ⟨pa, 1, none⟩ = some (.int .u64 a1) ∧
      wx.cell? ⟨pb, 0, none⟩ = some (.int .u64 b0) ∧ wx.cell? ⟨pb, 1, none⟩ = some (.int .u64 b1) ∧ pa < wx.heap.size ∧ pb < wx.heap.size ∧
      Below (w.heap.size + 3) (((w.alloc (.cells #[.int .u64 a1, .int .u64 a0] 149)).alloc (.cells #[.int .u64 b1, .int .u64 b0] 149)).alloc (.cells #[.int .u64 0, .int .u64 0] 149)) wx)
  case first =>
    go_region_held3 (fun w' => w'.cell? ⟨w.heap.size, 0, none⟩ = some (.int .u64 a1) ∧ w'.cell? ⟨w.heap.size, 1, none⟩ = some (.int .u64 a0) ∧ w'.cell? ⟨w.heap.size + 1, 0, none⟩ = some (.int .u64 b1) ∧ w'.cell? ⟨w.heap.size + 1, 1, none⟩ = some (.int .u64 b0)) (first | (go_keep; done) | (refine ⟨?_, ?_, ?_, ?_⟩ <;> simp [go_sem]; done) | (refine ⟨?_, ?_, ?_, ?_⟩ <;> go_simp))
      (first | (go_at_call 92; refine (split_exact _ _ _).mono ?_; rintro e w' ⟨rfl, rfl⟩))
    all_goals
      go_wp2_with fail
      go_meet
      refine ⟨_, _, rfl, rfl, ?_, ?_, ?_, ?_, ?_, ?_, ?_⟩
      · simp [go_sem]
      · simp [go_sem]
      · simp [go_sem]
      · simp [go_sem]
      · simp <;> omega
      · simp <;> omega
      · repeat (first | exact Below.refl _ _ | refine Below.drew ?_ | refine Below.alloc ?_ (by simp <;> omega) _)
  case rest =>
    obtain ⟨pa, pb, rfl, rfl, ha0, ha1, hb0, hb1, hpa, hpb, hB⟩ := hcut
    have hz : w.heap.size + 3 ≤ wc.heap.size := by have := hB.size; simp at this; omega
    go_wp2_with fail
    refine (upward_add a0 a1 b0 b1 pa pb _ ha0 ha1 hb0 hb1 hpa hpb k1 k2 k3 k5 k6 k7).mono ?_
    rw [E0.out, E1.out, E2.out]
    rintro e w2 ⟨rfl, hb2⟩
    have hb3 := hB.trans (hb2.mono hz)
    have hz2 : w.heap.size + 3 ≤ w2.heap.size := by have := hb2.size; omega
    clear hB hb2 hz ha0 ha1 hb0 hb1 hpa hpb
    go_wp2_with fail
    refine (fit_yes r1 r0 _).mono ?_
    rintro e w3 ⟨rfl, hb4⟩
    have hb5 := hb3.trans (hb4.mono hz2)
    clear hb3 hb4
    obtain ⟨hc5, hf5⟩ := bcellB hb5
    go_wp2_with fail
    exact bodyPost_ret (v := .tuple #[.agg #[.int .u64 r1, .int .u64 r0], .int .i64 0]) (by simp [results, Tryz.results81, go_sem, hc5]) rfl ⟨rfl, ((((((Below.refl _ _).alloc (Nat.le_refl _) _).alloc (by simp) _).alloc (by simp <;> omega) _).trans (hb5.mono (by omega))).setCell (by simp <;> omega) _).setCell (by simp <;> omega) _⟩

set_option maxHeartbeats 1000000 in
theorem add_no (a1 a0 b1 b0 : Int) (w : World) (k1 : 0 ≤ a0) (k2 : a0 < 18446744073709551616) (k3 : 0 ≤ a1) (_k4 : a1 < 18446744073709551616) (k5 : 0 ≤ b0) (k6 : b0 < 18446744073709551616) (k7 : 0 ≤ b1) (_k8 : b1 < 18446744073709551616)
    (h : top ≤ wn a1 a0 + wn b1 b0) :
    Calls Tryz.prog 81 #[.agg #[.int .u64 a1, .int .u64 a0], .agg #[.int .u64 b1, .int .u64 b0]] w fun e w' => e = .returned (.tuple #[.agg #[.int .u64 0, .int .u64 0], .int .i64 6]) ∧ Below w.heap.size w w' := by
  have hmf : ∀ (fn : Fn) (first cap : Array Value) (w : World), (Instr.makeFunc fn first cap).run Tryz.prog w = .ok (.func fn first cap) w := fun _ _ _ _ => rfl
  have hc := add_over a1 a0 b1 b0 h
  clear h
  obtain ⟨r0, E0⟩ : ∃ r, Hid ((a0 + b0 + 0) % 18446744073709551616 = r) := ⟨_, Lib.hid rfl⟩
  obtain ⟨r1, E1⟩ : ∃ r, Hid ((a1 + b1 + (a0 + b0 + 0) / 18446744073709551616) % 18446744073709551616 = r) := ⟨_, Lib.hid rfl⟩
  obtain ⟨c, E2⟩ : ∃ r, Hid ((a1 + b1 + (a0 + b0 + 0) / 18446744073709551616) / 18446744073709551616 = r) := ⟨_, Lib.hid rfl⟩
  rw [E2.out] at hc
  go_enter Tryz.func81, Tryz.ntmps81
  go_upto_region 1 with fail
  go_cut [6, 7] (fun s6 s7 wx => ∃ pa pb : Nat, s6 = .pointer (some ⟨pa, 0, none⟩) ∧ s7 = .pointer (some ⟨pb, 0, none⟩) ∧ wx.cell? ⟨pa, 0, none⟩ = some (.int .u64 a0) ∧ wx.cell? ⟨pa, 1, none⟩ = some (.int .u64 a1) ∧
      wx.cell? ⟨pb, 0, none⟩ = some (.int .u64 b0) ∧ wx.cell? ⟨pb, 1, none⟩ = some (.int .u64 b1) ∧ pa < wx.heap.size ∧ pb < wx.heap.size ∧
      Below (w.heap.size + 3) (((w.alloc (.cells #[.int .u64 a1, .int .u64 a0] 149)).alloc (.cells #[.int .u64 b1, .int .u64 b0] 149)).alloc (.cells #[.int .u64 0, .int .u64 0] 149)) wx)
  case first =>
    go_region_held3 (fun w' => w'.cell? ⟨w.heap.size, 0, none⟩ = some (.int .u64 a1) ∧ w'.cell? ⟨w.heap.size, 1, none⟩ = some (.int .u64 a0) ∧ w'.cell? ⟨w.heap.size + 1, 0, none⟩ = some (.int .u64 b1) ∧ w'.cell? ⟨w.heap.size + 1, 1, none⟩ = some (.int .u64 b0)) (first | (go_keep; done) | (refine ⟨?_, ?_, ?_, ?_⟩ <;> simp [go_sem]; done) | (refine ⟨?_, ?_, ?_, ?_⟩ <;> go_simp))
      (first | (go_at_call 92; refine (split_exact _ _ _).mono ?_; rintro e w' ⟨rfl, rfl⟩))
    all_goals
      go_wp2_with fail
      go_meet
      refine ⟨_, _, rfl, rfl, ?_, ?_, ?_, ?_, ?_, ?_, ?_⟩
      · simp [go_sem]
      · simp [go_sem]
      · simp [go_sem]
      · simp [go_sem]
      · simp <;> omega
      · simp <;> omega
      · repeat (first | exact Below.refl _ _ | refine Below.drew ?_ | refine Below.alloc ?_ (by simp <;> omega) _)
  case rest =>
    obtain ⟨pa, pb, rfl, rfl, ha0, ha1, hb0, hb1, hpa, hpb, hB⟩ := hcut
    have hz : w.heap.size + 3 ≤ wc.heap.size := by have := hB.size; simp at this; omega
    go_wp2_with fail
    refine (upward_add a0 a1 b0 b1 pa pb _ ha0 ha1 hb0 hb1 hpa hpb k1 k2 k3 k5 k6 k7).mono ?_
    rw [E0.out, E1.out, E2.out]
    rintro e w2 ⟨rfl, hb2⟩
    have hb3 := hB.trans (hb2.mono hz)
    have hz2 : w.heap.size + 3 ≤ w2.heap.size := by have := hb2.size; omega
    clear hB hb2 hz ha0 ha1 hb0 hb1 hpa hpb
    go_wp2_with fail
    refine (fit_no r1 r0 c hc _).mono ?_
    rintro e w3 ⟨rfl, hb4⟩
    have hb5 := hb3.trans (hb4.mono hz2)
    clear hb3 hb4
    obtain ⟨hc5, hf5⟩ := bcellB hb5
    go_wp2_with fail
    exact bodyPost_ret (v := .tuple #[.agg #[.int .u64 0, .int .u64 0], .int .i64 6]) (by simp [results, Tryz.results81, go_sem, hc5]) rfl ⟨rfl, ((((((Below.refl _ _).alloc (Nat.le_refl _) _).alloc (by simp) _).alloc (by simp <;> omega) _).trans (hb5.mono (by omega))).setCell (by simp <;> omega) _).setCell (by simp <;> omega) _⟩

end Go.Proofs.YtmaioofcmgaakaaGreatDoor
