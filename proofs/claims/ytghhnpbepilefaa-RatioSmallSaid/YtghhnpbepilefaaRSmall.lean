/- RatioSmall: the walk. -/
import Derived.Test.YtghhnpbepilefaaRShown
import Derived.Test.YtghhnpbepilefaaRLawNum
namespace Go.Proofs.Ytghhnpbepilefaa
open Go.RowKit
set_option linter.unusedVariables false

/-- Fractions of small numbers, by plain numbers. -/
theorem small_num {p q r s : Int} (p0 : 0 ≤ p) (p1 : p < 30000) (q0 : 0 < q) (q1 : q ≤ 30000) (r0 : 0 ≤ r) (r1 : r < 30000) (s0 : 0 < s) (s1 : s ≤ 30000) :
    ∃ xn xd yn yd un ud vn vd, (rN p q = xn ∧ rD p q = xd ∧ rE p q = 0) ∧ (rN r s = yn ∧ rD r s = yd ∧ rE r s = 0) ∧ rightB xn xd = true ∧ rightB yn yd = true ∧
      (0 ≤ xn ∧ xn ≤ 30000 ∧ 0 < xd ∧ xd ≤ 30000) ∧ (0 ≤ yn ∧ yn ≤ 30000 ∧ 0 < yd ∧ yd ≤ 30000) ∧ p * xd = xn * q ∧ r * yd = yn * s ∧
      (rN (xn * yd + yn * xd) (xd * yd) = un ∧ rD (xn * yd + yn * xd) (xd * yd) = ud ∧ rE (xn * yd + yn * xd) (xd * yd) = 0) ∧
      (rN (xn * yn) (xd * yd) = vn ∧ rD (xn * yn) (xd * yd) = vd ∧ rE (xn * yn) (xd * yd) = 0) ∧
      (rN (p * s + r * q) (q * s) = un ∧ rD (p * s + r * q) (q * s) = ud ∧ rE (p * s + r * q) (q * s) = 0) ∧
      (rN (p * r) (q * s) = vn ∧ rD (p * r) (q * s) = vd ∧ rE (p * r) (q * s) = 0) ∧
      cmpI (xn * yd) (yn * xd) = cmpI (p * s) (r * q) := by
  have f1 : fitB p q = true := fit_small (by omega) (by omega) (by omega) (by omega)
  have f2 : fitB r s = true := fit_small (by omega) (by omega) (by omega) (by omega)
  have m1 := m_le p q (by omega) (by omega)
  have m2 := m_le r s (by omega) (by omega)
  have n1 := mN_nonneg p q (by omega)
  have n2 := mN_nonneg r s (by omega)
  have d1 := mD_pos p q q0
  have d2 := mD_pos r s s0
  have r1' := r_right p0 q0 f1
  have r2' := r_right r0 s0 f2
  have x1 := m_cross p q
  have x2 := m_cross r s
  have y1 := r_yes f1
  have y2 := r_yes f2
  generalize mN p q = xn at *
  generalize mD p q = xd at *
  generalize mN r s = yn at *
  generalize mD r s = yd at *
  have k1 := mul_le3 p0 (by omega : p ≤ 30000) (by omega : 0 ≤ s) s1
  have k2 := mul_le3 r0 (by omega : r ≤ 30000) (by omega : 0 ≤ q) q1
  have k3 := mul_le3 (by omega : 0 ≤ q) q1 (by omega : 0 ≤ s) s1
  have k4 := mul_le3 p0 (by omega : p ≤ 30000) r0 (by omega : r ≤ 30000)
  have z1 : 0 < q * s := Int.mul_pos q0 s0
  have z2 : 0 < xd * yd := Int.mul_pos d1 d2
  have g1 : fitB (p * s + r * q) (q * s) = true := fit_small (by omega) (by omega) (by omega) (by omega)
  have g2 : fitB (p * r) (q * s) = true := fit_small (by omega) (by omega) (by omega) (by omega)
  have e1 := r_eq (n := xn * yd + yn * xd) (n' := p * s + r * q) z2 z1 (by grind)
  have e2 := r_eq (n := xn * yn) (n' := p * r) z2 z1 (by grind)
  have i1 := r_yes g1
  have i2 := r_yes g2
  refine ⟨xn, xd, yn, yd, _, _, _, _, ⟨y1.1, y1.2.1, y1.2.2⟩, ⟨y2.1, y2.2.1, y2.2.2⟩, r1', r2', ⟨n1, by omega, d1, by omega⟩, ⟨n2, by omega, d2, by omega⟩, x1.symm, x2.symm, ⟨e1.1, e1.2.1, e1.2.2.trans i1.2.2⟩, ⟨e2.1, e2.2.1, e2.2.2.trans i2.2.2⟩, ⟨rfl, rfl, i1.2.2⟩, ⟨rfl, rfl, i2.2.2⟩, ?_⟩
  exact cmpI_scale (k := q * s) (l := xd * yd) z1 z2 (by grind)

set_option maxHeartbeats 8000000 in
set_option maxRecDepth 100000 in
theorem rsmall_lt (A B C D : Int) (w : World) (A0 : 0 ≤ A) (A1 : A < 65536) (B0 : 0 ≤ B) (B1 : B < 65536) (C0 : 0 ≤ C) (C1 : C < 65536) (D0 : 0 ≤ D) (D1 : D < 65536) (hr : A % 30000 * (1 + D % 30000) < C % 30000 * (1 + B % 30000)) :
    Calls Try.prog 6 #[.agg #[.int .u16 A, .int .u16 B, .int .u16 C, .int .u16 D]] w fun e w' => e = .returned (.bool true) ∧ Below w.heap.size w w' := by
  have H := Held.start w
  obtain ⟨p, HP⟩ : ∃ x, A % 30000 = x := ⟨_, rfl⟩
  obtain ⟨q', HQ'⟩ : ∃ x, B % 30000 = x := ⟨_, rfl⟩
  obtain ⟨r, HR⟩ : ∃ x, C % 30000 = x := ⟨_, rfl⟩
  obtain ⟨s', HS'⟩ : ∃ x, D % 30000 = x := ⟨_, rfl⟩
  rw [HP, HQ', HR, HS'] at hr
  have p0 : 0 ≤ p ∧ p < 30000 := by omega
  have q0' : 0 ≤ q' ∧ q' < 30000 := by omega
  have r0 : 0 ≤ r ∧ r < 30000 := by omega
  have s0' : 0 ≤ s' ∧ s' < 30000 := by omega
  obtain ⟨q, HQ⟩ : ∃ x, 1 + q' = x := ⟨_, rfl⟩
  obtain ⟨s, HS⟩ : ∃ x, 1 + s' = x := ⟨_, rfl⟩
  rw [HQ, HS] at hr
  have q0 : 0 < q ∧ q ≤ 30000 := by omega
  have s0 : 0 < s ∧ s ≤ 30000 := by omega
  obtain ⟨xn, xd, yn, yd, un, ud, vn, vd, hx, hy, rx, ry, bx, by', px, py, hu, hv, hw, hz, hc⟩ := small_num p0.1 p0.2 q0.1 q0.2 r0.1 r0.2 s0.1 s0.2
  have k1 := mul_le3 p0.1 (by omega : p ≤ 30000) (by omega : 0 ≤ s) s0.2
  have k2 := mul_le3 r0.1 (by omega : r ≤ 30000) (by omega : 0 ≤ q) q0.2
  have k3 := mul_le3 (by omega : 0 ≤ q) q0.2 (by omega : 0 ≤ s) s0.2
  have k4 := mul_le3 p0.1 (by omega : p ≤ 30000) r0.1 (by omega : r ≤ 30000)
  have k5 := mul_le3 bx.1 bx.2.1 (by omega : 0 ≤ q) q0.2
  have k6 := mul_le3 by'.1 by'.2.1 (by omega : 0 ≤ s) s0.2
  obtain ⟨ps, PS⟩ : ∃ x, Hid (p * s = x) := ⟨_, Lib.hid rfl⟩
  obtain ⟨rq, RQ⟩ : ∃ x, Hid (r * q = x) := ⟨_, Lib.hid rfl⟩
  obtain ⟨qs, QS⟩ : ∃ x, Hid (q * s = x) := ⟨_, Lib.hid rfl⟩
  obtain ⟨pr, PR⟩ : ∃ x, Hid (p * r = x) := ⟨_, Lib.hid rfl⟩
  obtain ⟨xq, XQ⟩ : ∃ x, Hid (xn * q = x) := ⟨_, Lib.hid rfl⟩
  obtain ⟨ys, YS⟩ : ∃ x, Hid (yn * s = x) := ⟨_, Lib.hid rfl⟩
  rw [PS.out] at k1 hc hw hr
  rw [RQ.out] at k2 hc hw hr
  rw [QS.out] at k3 hw hz
  rw [PR.out] at k4 hz
  rw [XQ.out] at k5 px
  rw [YS.out] at k6 py
  have wr1 : IntKind.i64.wrap (xn * q) = xq := by rw [XQ.out]; exact IntWalk.i64_in _ (by omega)
  have wr2 : IntKind.i64.wrap (p * xd) = xq := by rw [px]; exact IntWalk.i64_in _ (by omega)
  have wr3 : IntKind.i64.wrap (yn * s) = ys := by rw [YS.out]; exact IntWalk.i64_in _ (by omega)
  have wr4 : IntKind.i64.wrap (r * yd) = ys := by rw [py]; exact IntWalk.i64_in _ (by omega)
  have wr5 : IntKind.i64.wrap (p * s) = ps := by rw [PS.out]; exact IntWalk.i64_in _ (by omega)
  have wr6 : IntKind.i64.wrap (r * q) = rq := by rw [RQ.out]; exact IntWalk.i64_in _ (by omega)
  have wr7 : IntKind.i64.wrap (q * s) = qs := by rw [QS.out]; exact IntWalk.i64_in _ (by omega)
  have wr8 : IntKind.i64.wrap (p * r) = pr := by rw [PR.out]; exact IntWalk.i64_in _ (by omega)
  have wr9 : IntKind.i64.wrap (ps + rq) = ps + rq := IntWalk.i64_in _ (by omega)
  have qs0 : 0 < qs := by rw [← QS.out]; exact Int.mul_pos q0.1 s0.1
  have u1 : IntKind.i64.wrap A = A := IntWalk.i64_in _ (by omega)
  have u2 : IntKind.i64.wrap B = B := IntWalk.i64_in _ (by omega)
  have u3 : IntKind.i64.wrap C = C := IntWalk.i64_in _ (by omega)
  have u4 : IntKind.i64.wrap D = D := IntWalk.i64_in _ (by omega)
  have HC : Hid (cmpI (xn * yd) (yn * xd) = -1) := Lib.hid (by rw [hc]; exact cmpI_lt hr)
  have t1 : decide (ps < rq) = true := by simp; omega
  have t2 : decide (rq < ps) = false := by simp; omega
  have RX := Lib.hid rx
  have RY := Lib.hid ry
  have HX := Lib.hid hx
  have HY := Lib.hid hy
  have HU := Lib.hid hu
  have HV := Lib.hid hv
  have HW := Lib.hid hw
  have HZ := Lib.hid hz
  obtain ⟨k11, k12⟩ := k1
  obtain ⟨k21, k22⟩ := k2
  obtain ⟨k31, k32⟩ := k3
  obtain ⟨k41, k42⟩ := k4
  obtain ⟨p01, p02⟩ := p0
  obtain ⟨q01, q02⟩ := q0
  obtain ⟨r01, r02⟩ := r0
  obtain ⟨s01, s02⟩ := s0
  obtain ⟨q01', q02'⟩ := q0'
  obtain ⟨s01', s02'⟩ := s0'
  obtain ⟨x1, x2, x3, x4⟩ := bx
  obtain ⟨y1, y2, y3, y4⟩ := by'
  have sum0 : 0 ≤ ps + rq := by omega
  have sum1 : ps + rq < 9223372036854775808 := by omega
  clear hx hy hu hv hw hz hc hr px py rx ry k5 k6
  go_enter Try.func6, Try.ntmps6
  go_wp2_with fail
  replace H := (H.alloc (.cells #[.int .u16 A, .int .u16 B, .int .u16 C, .int .u16 D] 48))
  (with_reducible refine (rshown_any _).mono ?_)
  rintro e w1 ⟨rfl, hb⟩
  replace H := H.below hb
  clear hb
  go_wp2_with fail
  (with_reducible refine (new_is p q xn xd 0 _ (by omega) (by omega) (by omega) (by omega) HX.out).mono ?_)
  rintro e w2 ⟨rfl, hb⟩
  replace H := H.below hb
  clear hb
  go_wp2_with fail
  replace H := (H.pair (w2.heap.size) (.int .i64 xn) (.int .i64 xd) 23 rfl)
  (with_reducible refine (new_is r s yn yd 0 _ (by omega) (by omega) (by omega) (by omega) HY.out).mono ?_)
  rintro e w3 ⟨rfl, hb⟩
  replace H := H.below hb
  clear hb
  have cx0 := H.cell (w2.heap.size) 0 (.int .i64 xn) (List.Mem.head _)
  have cx1 := H.cell (w2.heap.size) 1 (.int .i64 xd) (List.Mem.tail _ (List.Mem.head _))
  have lx := H.lt (w2.heap.size) 0 (.int .i64 xn) (List.Mem.head _)
  go_wp2_with fail
  clear cx0 cx1 lx
  replace H := (H.pair (w3.heap.size) (.int .i64 yn) (.int .i64 yd) 23 rfl)
  (with_reducible refine (radd_is xn xd yn yd un ud 0 _ RX.out RY.out HU.out).mono ?_)
  rintro e w4 ⟨rfl, hb⟩
  replace H := H.below hb
  clear hb
  have cx0 := H.cell (w2.heap.size) 0 (.int .i64 xn) (List.Mem.tail _ (List.Mem.tail _ (List.Mem.tail _ (List.Mem.tail _ (List.Mem.head _)))))
  have cx1 := H.cell (w2.heap.size) 1 (.int .i64 xd) (List.Mem.tail _ (List.Mem.tail _ (List.Mem.tail _ (List.Mem.tail _ (List.Mem.tail _ (List.Mem.head _))))))
  have lx := H.lt (w2.heap.size) 0 (.int .i64 xn) (List.Mem.tail _ (List.Mem.tail _ (List.Mem.tail _ (List.Mem.tail _ (List.Mem.head _)))))
  have cy0 := H.cell (w3.heap.size) 0 (.int .i64 yn) (List.Mem.head _)
  have cy1 := H.cell (w3.heap.size) 1 (.int .i64 yd) (List.Mem.tail _ (List.Mem.head _))
  have ly := H.lt (w3.heap.size) 0 (.int .i64 yn) (List.Mem.head _)
  go_wp2_with fail
  clear cx0 cx1 lx cy0 cy1 ly
  replace H := (H.pair (w4.heap.size) (.int .i64 un) (.int .i64 ud) 23 rfl)
  (with_reducible refine (rmul_is xn xd yn yd vn vd 0 _ RX.out RY.out HV.out).mono ?_)
  rintro e w5 ⟨rfl, hb⟩
  replace H := H.below hb
  clear hb
  go_wp2_with fail
  replace H := (H.pair (w5.heap.size) (.int .i64 vn) (.int .i64 vd) 23 rfl)
  (with_reducible refine (new_is (ps + rq) qs un ud 0 _ sum0 sum1 qs0 (by omega) HW.out).mono ?_)
  rintro e w6 ⟨rfl, hb⟩
  replace H := H.below hb
  clear hb
  go_wp2_with fail
  replace H := (H.pair (w6.heap.size) (.int .i64 un) (.int .i64 ud) 23 rfl)
  (with_reducible refine (new_is pr qs vn vd 0 _ (by omega) (by omega) qs0 (by omega) HZ.out).mono ?_)
  rintro e w7 ⟨rfl, hb⟩
  replace H := H.below hb
  clear hb
  have cx0 := H.cell (w2.heap.size) 0 (.int .i64 xn) (List.Mem.tail _ (List.Mem.tail _ (List.Mem.tail _ (List.Mem.tail _ (List.Mem.tail _ (List.Mem.tail _ (List.Mem.tail _ (List.Mem.tail _ (List.Mem.tail _ (List.Mem.tail _ (List.Mem.tail _ (List.Mem.tail _ (List.Mem.tail _ (List.Mem.tail _ (List.Mem.tail _ (List.Mem.tail _ (List.Mem.head _)))))))))))))))))
  have cx1 := H.cell (w2.heap.size) 1 (.int .i64 xd) (List.Mem.tail _ (List.Mem.tail _ (List.Mem.tail _ (List.Mem.tail _ (List.Mem.tail _ (List.Mem.tail _ (List.Mem.tail _ (List.Mem.tail _ (List.Mem.tail _ (List.Mem.tail _ (List.Mem.tail _ (List.Mem.tail _ (List.Mem.tail _ (List.Mem.tail _ (List.Mem.tail _ (List.Mem.tail _ (List.Mem.tail _ (List.Mem.head _))))))))))))))))))
  have lx := H.lt (w2.heap.size) 0 (.int .i64 xn) (List.Mem.tail _ (List.Mem.tail _ (List.Mem.tail _ (List.Mem.tail _ (List.Mem.tail _ (List.Mem.tail _ (List.Mem.tail _ (List.Mem.tail _ (List.Mem.tail _ (List.Mem.tail _ (List.Mem.tail _ (List.Mem.tail _ (List.Mem.tail _ (List.Mem.tail _ (List.Mem.tail _ (List.Mem.tail _ (List.Mem.head _)))))))))))))))))
  have cy0 := H.cell (w3.heap.size) 0 (.int .i64 yn) (List.Mem.tail _ (List.Mem.tail _ (List.Mem.tail _ (List.Mem.tail _ (List.Mem.tail _ (List.Mem.tail _ (List.Mem.tail _ (List.Mem.tail _ (List.Mem.tail _ (List.Mem.tail _ (List.Mem.tail _ (List.Mem.tail _ (List.Mem.head _)))))))))))))
  have cy1 := H.cell (w3.heap.size) 1 (.int .i64 yd) (List.Mem.tail _ (List.Mem.tail _ (List.Mem.tail _ (List.Mem.tail _ (List.Mem.tail _ (List.Mem.tail _ (List.Mem.tail _ (List.Mem.tail _ (List.Mem.tail _ (List.Mem.tail _ (List.Mem.tail _ (List.Mem.tail _ (List.Mem.tail _ (List.Mem.head _))))))))))))))
  have ly := H.lt (w3.heap.size) 0 (.int .i64 yn) (List.Mem.tail _ (List.Mem.tail _ (List.Mem.tail _ (List.Mem.tail _ (List.Mem.tail _ (List.Mem.tail _ (List.Mem.tail _ (List.Mem.tail _ (List.Mem.tail _ (List.Mem.tail _ (List.Mem.tail _ (List.Mem.tail _ (List.Mem.head _)))))))))))))
  have cu0 := H.cell (w4.heap.size) 0 (.int .i64 un) (List.Mem.tail _ (List.Mem.tail _ (List.Mem.tail _ (List.Mem.tail _ (List.Mem.tail _ (List.Mem.tail _ (List.Mem.tail _ (List.Mem.tail _ (List.Mem.head _)))))))))
  have cu1 := H.cell (w4.heap.size) 1 (.int .i64 ud) (List.Mem.tail _ (List.Mem.tail _ (List.Mem.tail _ (List.Mem.tail _ (List.Mem.tail _ (List.Mem.tail _ (List.Mem.tail _ (List.Mem.tail _ (List.Mem.tail _ (List.Mem.head _))))))))))
  have lu := H.lt (w4.heap.size) 0 (.int .i64 un) (List.Mem.tail _ (List.Mem.tail _ (List.Mem.tail _ (List.Mem.tail _ (List.Mem.tail _ (List.Mem.tail _ (List.Mem.tail _ (List.Mem.tail _ (List.Mem.head _)))))))))
  have cv0 := H.cell (w5.heap.size) 0 (.int .i64 vn) (List.Mem.tail _ (List.Mem.tail _ (List.Mem.tail _ (List.Mem.tail _ (List.Mem.head _)))))
  have cv1 := H.cell (w5.heap.size) 1 (.int .i64 vd) (List.Mem.tail _ (List.Mem.tail _ (List.Mem.tail _ (List.Mem.tail _ (List.Mem.tail _ (List.Mem.head _))))))
  have lv := H.lt (w5.heap.size) 0 (.int .i64 vn) (List.Mem.tail _ (List.Mem.tail _ (List.Mem.tail _ (List.Mem.tail _ (List.Mem.head _)))))
  have cw_0 := H.cell (w6.heap.size) 0 (.int .i64 un) (List.Mem.head _)
  have cw_1 := H.cell (w6.heap.size) 1 (.int .i64 ud) (List.Mem.tail _ (List.Mem.head _))
  have lw_ := H.lt (w6.heap.size) 0 (.int .i64 un) (List.Mem.head _)
  go_wp2_with fail
  clear cx0 cx1 lx cy0 cy1 ly cu0 cu1 lu cv0 cv1 lv cw_0 cw_1 lw_
  replace H := (H.pair (w7.heap.size) (.int .i64 vn) (.int .i64 vd) 23 rfl)
  (with_reducible refine (rcmp_is xn xd yn yd (-1) _ (by omega) (by omega) (by omega) (by omega) (by omega) (by omega) (by omega) (by omega) HC.out).mono ?_)
  rintro e w8 ⟨rfl, hb⟩
  replace H := H.below hb
  clear hb
  go_wp2
  go_ret
  exact ⟨rfl, H.old⟩

set_option maxHeartbeats 8000000 in
set_option maxRecDepth 100000 in
theorem rsmall_eq (A B C D : Int) (w : World) (A0 : 0 ≤ A) (A1 : A < 65536) (B0 : 0 ≤ B) (B1 : B < 65536) (C0 : 0 ≤ C) (C1 : C < 65536) (D0 : 0 ≤ D) (D1 : D < 65536) (hr : A % 30000 * (1 + D % 30000) = C % 30000 * (1 + B % 30000)) :
    Calls Try.prog 6 #[.agg #[.int .u16 A, .int .u16 B, .int .u16 C, .int .u16 D]] w fun e w' => e = .returned (.bool true) ∧ Below w.heap.size w w' := by
  have H := Held.start w
  obtain ⟨p, HP⟩ : ∃ x, A % 30000 = x := ⟨_, rfl⟩
  obtain ⟨q', HQ'⟩ : ∃ x, B % 30000 = x := ⟨_, rfl⟩
  obtain ⟨r, HR⟩ : ∃ x, C % 30000 = x := ⟨_, rfl⟩
  obtain ⟨s', HS'⟩ : ∃ x, D % 30000 = x := ⟨_, rfl⟩
  rw [HP, HQ', HR, HS'] at hr
  have p0 : 0 ≤ p ∧ p < 30000 := by omega
  have q0' : 0 ≤ q' ∧ q' < 30000 := by omega
  have r0 : 0 ≤ r ∧ r < 30000 := by omega
  have s0' : 0 ≤ s' ∧ s' < 30000 := by omega
  obtain ⟨q, HQ⟩ : ∃ x, 1 + q' = x := ⟨_, rfl⟩
  obtain ⟨s, HS⟩ : ∃ x, 1 + s' = x := ⟨_, rfl⟩
  rw [HQ, HS] at hr
  have q0 : 0 < q ∧ q ≤ 30000 := by omega
  have s0 : 0 < s ∧ s ≤ 30000 := by omega
  obtain ⟨xn, xd, yn, yd, un, ud, vn, vd, hx, hy, rx, ry, bx, by', px, py, hu, hv, hw, hz, hc⟩ := small_num p0.1 p0.2 q0.1 q0.2 r0.1 r0.2 s0.1 s0.2
  have k1 := mul_le3 p0.1 (by omega : p ≤ 30000) (by omega : 0 ≤ s) s0.2
  have k2 := mul_le3 r0.1 (by omega : r ≤ 30000) (by omega : 0 ≤ q) q0.2
  have k3 := mul_le3 (by omega : 0 ≤ q) q0.2 (by omega : 0 ≤ s) s0.2
  have k4 := mul_le3 p0.1 (by omega : p ≤ 30000) r0.1 (by omega : r ≤ 30000)
  have k5 := mul_le3 bx.1 bx.2.1 (by omega : 0 ≤ q) q0.2
  have k6 := mul_le3 by'.1 by'.2.1 (by omega : 0 ≤ s) s0.2
  obtain ⟨ps, PS⟩ : ∃ x, Hid (p * s = x) := ⟨_, Lib.hid rfl⟩
  obtain ⟨rq, RQ⟩ : ∃ x, Hid (r * q = x) := ⟨_, Lib.hid rfl⟩
  obtain ⟨qs, QS⟩ : ∃ x, Hid (q * s = x) := ⟨_, Lib.hid rfl⟩
  obtain ⟨pr, PR⟩ : ∃ x, Hid (p * r = x) := ⟨_, Lib.hid rfl⟩
  obtain ⟨xq, XQ⟩ : ∃ x, Hid (xn * q = x) := ⟨_, Lib.hid rfl⟩
  obtain ⟨ys, YS⟩ : ∃ x, Hid (yn * s = x) := ⟨_, Lib.hid rfl⟩
  rw [PS.out] at k1 hc hw hr
  rw [RQ.out] at k2 hc hw hr
  rw [QS.out] at k3 hw hz
  rw [PR.out] at k4 hz
  rw [XQ.out] at k5 px
  rw [YS.out] at k6 py
  have wr1 : IntKind.i64.wrap (xn * q) = xq := by rw [XQ.out]; exact IntWalk.i64_in _ (by omega)
  have wr2 : IntKind.i64.wrap (p * xd) = xq := by rw [px]; exact IntWalk.i64_in _ (by omega)
  have wr3 : IntKind.i64.wrap (yn * s) = ys := by rw [YS.out]; exact IntWalk.i64_in _ (by omega)
  have wr4 : IntKind.i64.wrap (r * yd) = ys := by rw [py]; exact IntWalk.i64_in _ (by omega)
  have wr5 : IntKind.i64.wrap (p * s) = ps := by rw [PS.out]; exact IntWalk.i64_in _ (by omega)
  have wr6 : IntKind.i64.wrap (r * q) = rq := by rw [RQ.out]; exact IntWalk.i64_in _ (by omega)
  have wr7 : IntKind.i64.wrap (q * s) = qs := by rw [QS.out]; exact IntWalk.i64_in _ (by omega)
  have wr8 : IntKind.i64.wrap (p * r) = pr := by rw [PR.out]; exact IntWalk.i64_in _ (by omega)
  have wr9 : IntKind.i64.wrap (ps + rq) = ps + rq := IntWalk.i64_in _ (by omega)
  have qs0 : 0 < qs := by rw [← QS.out]; exact Int.mul_pos q0.1 s0.1
  have u1 : IntKind.i64.wrap A = A := IntWalk.i64_in _ (by omega)
  have u2 : IntKind.i64.wrap B = B := IntWalk.i64_in _ (by omega)
  have u3 : IntKind.i64.wrap C = C := IntWalk.i64_in _ (by omega)
  have u4 : IntKind.i64.wrap D = D := IntWalk.i64_in _ (by omega)
  have HC : Hid (cmpI (xn * yd) (yn * xd) = 0) := Lib.hid (by rw [hc]; exact cmpI_eq hr)
  have t1 : decide (ps < rq) = false := by simp; omega
  have t2 : decide (rq < ps) = false := by simp; omega
  have RX := Lib.hid rx
  have RY := Lib.hid ry
  have HX := Lib.hid hx
  have HY := Lib.hid hy
  have HU := Lib.hid hu
  have HV := Lib.hid hv
  have HW := Lib.hid hw
  have HZ := Lib.hid hz
  obtain ⟨k11, k12⟩ := k1
  obtain ⟨k21, k22⟩ := k2
  obtain ⟨k31, k32⟩ := k3
  obtain ⟨k41, k42⟩ := k4
  obtain ⟨p01, p02⟩ := p0
  obtain ⟨q01, q02⟩ := q0
  obtain ⟨r01, r02⟩ := r0
  obtain ⟨s01, s02⟩ := s0
  obtain ⟨q01', q02'⟩ := q0'
  obtain ⟨s01', s02'⟩ := s0'
  obtain ⟨x1, x2, x3, x4⟩ := bx
  obtain ⟨y1, y2, y3, y4⟩ := by'
  have sum0 : 0 ≤ ps + rq := by omega
  have sum1 : ps + rq < 9223372036854775808 := by omega
  clear hx hy hu hv hw hz hc hr px py rx ry k5 k6
  go_enter Try.func6, Try.ntmps6
  go_wp2_with fail
  replace H := (H.alloc (.cells #[.int .u16 A, .int .u16 B, .int .u16 C, .int .u16 D] 48))
  (with_reducible refine (rshown_any _).mono ?_)
  rintro e w1 ⟨rfl, hb⟩
  replace H := H.below hb
  clear hb
  go_wp2_with fail
  (with_reducible refine (new_is p q xn xd 0 _ (by omega) (by omega) (by omega) (by omega) HX.out).mono ?_)
  rintro e w2 ⟨rfl, hb⟩
  replace H := H.below hb
  clear hb
  go_wp2_with fail
  replace H := (H.pair (w2.heap.size) (.int .i64 xn) (.int .i64 xd) 23 rfl)
  (with_reducible refine (new_is r s yn yd 0 _ (by omega) (by omega) (by omega) (by omega) HY.out).mono ?_)
  rintro e w3 ⟨rfl, hb⟩
  replace H := H.below hb
  clear hb
  have cx0 := H.cell (w2.heap.size) 0 (.int .i64 xn) (List.Mem.head _)
  have cx1 := H.cell (w2.heap.size) 1 (.int .i64 xd) (List.Mem.tail _ (List.Mem.head _))
  have lx := H.lt (w2.heap.size) 0 (.int .i64 xn) (List.Mem.head _)
  go_wp2_with fail
  clear cx0 cx1 lx
  replace H := (H.pair (w3.heap.size) (.int .i64 yn) (.int .i64 yd) 23 rfl)
  (with_reducible refine (radd_is xn xd yn yd un ud 0 _ RX.out RY.out HU.out).mono ?_)
  rintro e w4 ⟨rfl, hb⟩
  replace H := H.below hb
  clear hb
  have cx0 := H.cell (w2.heap.size) 0 (.int .i64 xn) (List.Mem.tail _ (List.Mem.tail _ (List.Mem.tail _ (List.Mem.tail _ (List.Mem.head _)))))
  have cx1 := H.cell (w2.heap.size) 1 (.int .i64 xd) (List.Mem.tail _ (List.Mem.tail _ (List.Mem.tail _ (List.Mem.tail _ (List.Mem.tail _ (List.Mem.head _))))))
  have lx := H.lt (w2.heap.size) 0 (.int .i64 xn) (List.Mem.tail _ (List.Mem.tail _ (List.Mem.tail _ (List.Mem.tail _ (List.Mem.head _)))))
  have cy0 := H.cell (w3.heap.size) 0 (.int .i64 yn) (List.Mem.head _)
  have cy1 := H.cell (w3.heap.size) 1 (.int .i64 yd) (List.Mem.tail _ (List.Mem.head _))
  have ly := H.lt (w3.heap.size) 0 (.int .i64 yn) (List.Mem.head _)
  go_wp2_with fail
  clear cx0 cx1 lx cy0 cy1 ly
  replace H := (H.pair (w4.heap.size) (.int .i64 un) (.int .i64 ud) 23 rfl)
  (with_reducible refine (rmul_is xn xd yn yd vn vd 0 _ RX.out RY.out HV.out).mono ?_)
  rintro e w5 ⟨rfl, hb⟩
  replace H := H.below hb
  clear hb
  go_wp2_with fail
  replace H := (H.pair (w5.heap.size) (.int .i64 vn) (.int .i64 vd) 23 rfl)
  (with_reducible refine (new_is (ps + rq) qs un ud 0 _ sum0 sum1 qs0 (by omega) HW.out).mono ?_)
  rintro e w6 ⟨rfl, hb⟩
  replace H := H.below hb
  clear hb
  go_wp2_with fail
  replace H := (H.pair (w6.heap.size) (.int .i64 un) (.int .i64 ud) 23 rfl)
  (with_reducible refine (new_is pr qs vn vd 0 _ (by omega) (by omega) qs0 (by omega) HZ.out).mono ?_)
  rintro e w7 ⟨rfl, hb⟩
  replace H := H.below hb
  clear hb
  have cx0 := H.cell (w2.heap.size) 0 (.int .i64 xn) (List.Mem.tail _ (List.Mem.tail _ (List.Mem.tail _ (List.Mem.tail _ (List.Mem.tail _ (List.Mem.tail _ (List.Mem.tail _ (List.Mem.tail _ (List.Mem.tail _ (List.Mem.tail _ (List.Mem.tail _ (List.Mem.tail _ (List.Mem.tail _ (List.Mem.tail _ (List.Mem.tail _ (List.Mem.tail _ (List.Mem.head _)))))))))))))))))
  have cx1 := H.cell (w2.heap.size) 1 (.int .i64 xd) (List.Mem.tail _ (List.Mem.tail _ (List.Mem.tail _ (List.Mem.tail _ (List.Mem.tail _ (List.Mem.tail _ (List.Mem.tail _ (List.Mem.tail _ (List.Mem.tail _ (List.Mem.tail _ (List.Mem.tail _ (List.Mem.tail _ (List.Mem.tail _ (List.Mem.tail _ (List.Mem.tail _ (List.Mem.tail _ (List.Mem.tail _ (List.Mem.head _))))))))))))))))))
  have lx := H.lt (w2.heap.size) 0 (.int .i64 xn) (List.Mem.tail _ (List.Mem.tail _ (List.Mem.tail _ (List.Mem.tail _ (List.Mem.tail _ (List.Mem.tail _ (List.Mem.tail _ (List.Mem.tail _ (List.Mem.tail _ (List.Mem.tail _ (List.Mem.tail _ (List.Mem.tail _ (List.Mem.tail _ (List.Mem.tail _ (List.Mem.tail _ (List.Mem.tail _ (List.Mem.head _)))))))))))))))))
  have cy0 := H.cell (w3.heap.size) 0 (.int .i64 yn) (List.Mem.tail _ (List.Mem.tail _ (List.Mem.tail _ (List.Mem.tail _ (List.Mem.tail _ (List.Mem.tail _ (List.Mem.tail _ (List.Mem.tail _ (List.Mem.tail _ (List.Mem.tail _ (List.Mem.tail _ (List.Mem.tail _ (List.Mem.head _)))))))))))))
  have cy1 := H.cell (w3.heap.size) 1 (.int .i64 yd) (List.Mem.tail _ (List.Mem.tail _ (List.Mem.tail _ (List.Mem.tail _ (List.Mem.tail _ (List.Mem.tail _ (List.Mem.tail _ (List.Mem.tail _ (List.Mem.tail _ (List.Mem.tail _ (List.Mem.tail _ (List.Mem.tail _ (List.Mem.tail _ (List.Mem.head _))))))))))))))
  have ly := H.lt (w3.heap.size) 0 (.int .i64 yn) (List.Mem.tail _ (List.Mem.tail _ (List.Mem.tail _ (List.Mem.tail _ (List.Mem.tail _ (List.Mem.tail _ (List.Mem.tail _ (List.Mem.tail _ (List.Mem.tail _ (List.Mem.tail _ (List.Mem.tail _ (List.Mem.tail _ (List.Mem.head _)))))))))))))
  have cu0 := H.cell (w4.heap.size) 0 (.int .i64 un) (List.Mem.tail _ (List.Mem.tail _ (List.Mem.tail _ (List.Mem.tail _ (List.Mem.tail _ (List.Mem.tail _ (List.Mem.tail _ (List.Mem.tail _ (List.Mem.head _)))))))))
  have cu1 := H.cell (w4.heap.size) 1 (.int .i64 ud) (List.Mem.tail _ (List.Mem.tail _ (List.Mem.tail _ (List.Mem.tail _ (List.Mem.tail _ (List.Mem.tail _ (List.Mem.tail _ (List.Mem.tail _ (List.Mem.tail _ (List.Mem.head _))))))))))
  have lu := H.lt (w4.heap.size) 0 (.int .i64 un) (List.Mem.tail _ (List.Mem.tail _ (List.Mem.tail _ (List.Mem.tail _ (List.Mem.tail _ (List.Mem.tail _ (List.Mem.tail _ (List.Mem.tail _ (List.Mem.head _)))))))))
  have cv0 := H.cell (w5.heap.size) 0 (.int .i64 vn) (List.Mem.tail _ (List.Mem.tail _ (List.Mem.tail _ (List.Mem.tail _ (List.Mem.head _)))))
  have cv1 := H.cell (w5.heap.size) 1 (.int .i64 vd) (List.Mem.tail _ (List.Mem.tail _ (List.Mem.tail _ (List.Mem.tail _ (List.Mem.tail _ (List.Mem.head _))))))
  have lv := H.lt (w5.heap.size) 0 (.int .i64 vn) (List.Mem.tail _ (List.Mem.tail _ (List.Mem.tail _ (List.Mem.tail _ (List.Mem.head _)))))
  have cw_0 := H.cell (w6.heap.size) 0 (.int .i64 un) (List.Mem.head _)
  have cw_1 := H.cell (w6.heap.size) 1 (.int .i64 ud) (List.Mem.tail _ (List.Mem.head _))
  have lw_ := H.lt (w6.heap.size) 0 (.int .i64 un) (List.Mem.head _)
  go_wp2_with fail
  clear cx0 cx1 lx cy0 cy1 ly cu0 cu1 lu cv0 cv1 lv cw_0 cw_1 lw_
  replace H := (H.pair (w7.heap.size) (.int .i64 vn) (.int .i64 vd) 23 rfl)
  (with_reducible refine (rcmp_is xn xd yn yd (0) _ (by omega) (by omega) (by omega) (by omega) (by omega) (by omega) (by omega) (by omega) HC.out).mono ?_)
  rintro e w8 ⟨rfl, hb⟩
  replace H := H.below hb
  clear hb
  go_wp2
  go_ret
  exact ⟨rfl, H.old⟩

set_option maxHeartbeats 8000000 in
set_option maxRecDepth 100000 in
theorem rsmall_gt (A B C D : Int) (w : World) (A0 : 0 ≤ A) (A1 : A < 65536) (B0 : 0 ≤ B) (B1 : B < 65536) (C0 : 0 ≤ C) (C1 : C < 65536) (D0 : 0 ≤ D) (D1 : D < 65536) (hr : C % 30000 * (1 + B % 30000) < A % 30000 * (1 + D % 30000)) :
    Calls Try.prog 6 #[.agg #[.int .u16 A, .int .u16 B, .int .u16 C, .int .u16 D]] w fun e w' => e = .returned (.bool true) ∧ Below w.heap.size w w' := by
  have H := Held.start w
  obtain ⟨p, HP⟩ : ∃ x, A % 30000 = x := ⟨_, rfl⟩
  obtain ⟨q', HQ'⟩ : ∃ x, B % 30000 = x := ⟨_, rfl⟩
  obtain ⟨r, HR⟩ : ∃ x, C % 30000 = x := ⟨_, rfl⟩
  obtain ⟨s', HS'⟩ : ∃ x, D % 30000 = x := ⟨_, rfl⟩
  rw [HP, HQ', HR, HS'] at hr
  have p0 : 0 ≤ p ∧ p < 30000 := by omega
  have q0' : 0 ≤ q' ∧ q' < 30000 := by omega
  have r0 : 0 ≤ r ∧ r < 30000 := by omega
  have s0' : 0 ≤ s' ∧ s' < 30000 := by omega
  obtain ⟨q, HQ⟩ : ∃ x, 1 + q' = x := ⟨_, rfl⟩
  obtain ⟨s, HS⟩ : ∃ x, 1 + s' = x := ⟨_, rfl⟩
  rw [HQ, HS] at hr
  have q0 : 0 < q ∧ q ≤ 30000 := by omega
  have s0 : 0 < s ∧ s ≤ 30000 := by omega
  obtain ⟨xn, xd, yn, yd, un, ud, vn, vd, hx, hy, rx, ry, bx, by', px, py, hu, hv, hw, hz, hc⟩ := small_num p0.1 p0.2 q0.1 q0.2 r0.1 r0.2 s0.1 s0.2
  have k1 := mul_le3 p0.1 (by omega : p ≤ 30000) (by omega : 0 ≤ s) s0.2
  have k2 := mul_le3 r0.1 (by omega : r ≤ 30000) (by omega : 0 ≤ q) q0.2
  have k3 := mul_le3 (by omega : 0 ≤ q) q0.2 (by omega : 0 ≤ s) s0.2
  have k4 := mul_le3 p0.1 (by omega : p ≤ 30000) r0.1 (by omega : r ≤ 30000)
  have k5 := mul_le3 bx.1 bx.2.1 (by omega : 0 ≤ q) q0.2
  have k6 := mul_le3 by'.1 by'.2.1 (by omega : 0 ≤ s) s0.2
  obtain ⟨ps, PS⟩ : ∃ x, Hid (p * s = x) := ⟨_, Lib.hid rfl⟩
  obtain ⟨rq, RQ⟩ : ∃ x, Hid (r * q = x) := ⟨_, Lib.hid rfl⟩
  obtain ⟨qs, QS⟩ : ∃ x, Hid (q * s = x) := ⟨_, Lib.hid rfl⟩
  obtain ⟨pr, PR⟩ : ∃ x, Hid (p * r = x) := ⟨_, Lib.hid rfl⟩
  obtain ⟨xq, XQ⟩ : ∃ x, Hid (xn * q = x) := ⟨_, Lib.hid rfl⟩
  obtain ⟨ys, YS⟩ : ∃ x, Hid (yn * s = x) := ⟨_, Lib.hid rfl⟩
  rw [PS.out] at k1 hc hw hr
  rw [RQ.out] at k2 hc hw hr
  rw [QS.out] at k3 hw hz
  rw [PR.out] at k4 hz
  rw [XQ.out] at k5 px
  rw [YS.out] at k6 py
  have wr1 : IntKind.i64.wrap (xn * q) = xq := by rw [XQ.out]; exact IntWalk.i64_in _ (by omega)
  have wr2 : IntKind.i64.wrap (p * xd) = xq := by rw [px]; exact IntWalk.i64_in _ (by omega)
  have wr3 : IntKind.i64.wrap (yn * s) = ys := by rw [YS.out]; exact IntWalk.i64_in _ (by omega)
  have wr4 : IntKind.i64.wrap (r * yd) = ys := by rw [py]; exact IntWalk.i64_in _ (by omega)
  have wr5 : IntKind.i64.wrap (p * s) = ps := by rw [PS.out]; exact IntWalk.i64_in _ (by omega)
  have wr6 : IntKind.i64.wrap (r * q) = rq := by rw [RQ.out]; exact IntWalk.i64_in _ (by omega)
  have wr7 : IntKind.i64.wrap (q * s) = qs := by rw [QS.out]; exact IntWalk.i64_in _ (by omega)
  have wr8 : IntKind.i64.wrap (p * r) = pr := by rw [PR.out]; exact IntWalk.i64_in _ (by omega)
  have wr9 : IntKind.i64.wrap (ps + rq) = ps + rq := IntWalk.i64_in _ (by omega)
  have qs0 : 0 < qs := by rw [← QS.out]; exact Int.mul_pos q0.1 s0.1
  have u1 : IntKind.i64.wrap A = A := IntWalk.i64_in _ (by omega)
  have u2 : IntKind.i64.wrap B = B := IntWalk.i64_in _ (by omega)
  have u3 : IntKind.i64.wrap C = C := IntWalk.i64_in _ (by omega)
  have u4 : IntKind.i64.wrap D = D := IntWalk.i64_in _ (by omega)
  have HC : Hid (cmpI (xn * yd) (yn * xd) = 1) := Lib.hid (by rw [hc]; exact cmpI_gt hr)
  have t1 : decide (ps < rq) = false := by simp; omega
  have t2 : decide (rq < ps) = true := by simp; omega
  have RX := Lib.hid rx
  have RY := Lib.hid ry
  have HX := Lib.hid hx
  have HY := Lib.hid hy
  have HU := Lib.hid hu
  have HV := Lib.hid hv
  have HW := Lib.hid hw
  have HZ := Lib.hid hz
  obtain ⟨k11, k12⟩ := k1
  obtain ⟨k21, k22⟩ := k2
  obtain ⟨k31, k32⟩ := k3
  obtain ⟨k41, k42⟩ := k4
  obtain ⟨p01, p02⟩ := p0
  obtain ⟨q01, q02⟩ := q0
  obtain ⟨r01, r02⟩ := r0
  obtain ⟨s01, s02⟩ := s0
  obtain ⟨q01', q02'⟩ := q0'
  obtain ⟨s01', s02'⟩ := s0'
  obtain ⟨x1, x2, x3, x4⟩ := bx
  obtain ⟨y1, y2, y3, y4⟩ := by'
  have sum0 : 0 ≤ ps + rq := by omega
  have sum1 : ps + rq < 9223372036854775808 := by omega
  clear hx hy hu hv hw hz hc hr px py rx ry k5 k6
  go_enter Try.func6, Try.ntmps6
  go_wp2_with fail
  replace H := (H.alloc (.cells #[.int .u16 A, .int .u16 B, .int .u16 C, .int .u16 D] 48))
  (with_reducible refine (rshown_any _).mono ?_)
  rintro e w1 ⟨rfl, hb⟩
  replace H := H.below hb
  clear hb
  go_wp2_with fail
  (with_reducible refine (new_is p q xn xd 0 _ (by omega) (by omega) (by omega) (by omega) HX.out).mono ?_)
  rintro e w2 ⟨rfl, hb⟩
  replace H := H.below hb
  clear hb
  go_wp2_with fail
  replace H := (H.pair (w2.heap.size) (.int .i64 xn) (.int .i64 xd) 23 rfl)
  (with_reducible refine (new_is r s yn yd 0 _ (by omega) (by omega) (by omega) (by omega) HY.out).mono ?_)
  rintro e w3 ⟨rfl, hb⟩
  replace H := H.below hb
  clear hb
  have cx0 := H.cell (w2.heap.size) 0 (.int .i64 xn) (List.Mem.head _)
  have cx1 := H.cell (w2.heap.size) 1 (.int .i64 xd) (List.Mem.tail _ (List.Mem.head _))
  have lx := H.lt (w2.heap.size) 0 (.int .i64 xn) (List.Mem.head _)
  go_wp2_with fail
  clear cx0 cx1 lx
  replace H := (H.pair (w3.heap.size) (.int .i64 yn) (.int .i64 yd) 23 rfl)
  (with_reducible refine (radd_is xn xd yn yd un ud 0 _ RX.out RY.out HU.out).mono ?_)
  rintro e w4 ⟨rfl, hb⟩
  replace H := H.below hb
  clear hb
  have cx0 := H.cell (w2.heap.size) 0 (.int .i64 xn) (List.Mem.tail _ (List.Mem.tail _ (List.Mem.tail _ (List.Mem.tail _ (List.Mem.head _)))))
  have cx1 := H.cell (w2.heap.size) 1 (.int .i64 xd) (List.Mem.tail _ (List.Mem.tail _ (List.Mem.tail _ (List.Mem.tail _ (List.Mem.tail _ (List.Mem.head _))))))
  have lx := H.lt (w2.heap.size) 0 (.int .i64 xn) (List.Mem.tail _ (List.Mem.tail _ (List.Mem.tail _ (List.Mem.tail _ (List.Mem.head _)))))
  have cy0 := H.cell (w3.heap.size) 0 (.int .i64 yn) (List.Mem.head _)
  have cy1 := H.cell (w3.heap.size) 1 (.int .i64 yd) (List.Mem.tail _ (List.Mem.head _))
  have ly := H.lt (w3.heap.size) 0 (.int .i64 yn) (List.Mem.head _)
  go_wp2_with fail
  clear cx0 cx1 lx cy0 cy1 ly
  replace H := (H.pair (w4.heap.size) (.int .i64 un) (.int .i64 ud) 23 rfl)
  (with_reducible refine (rmul_is xn xd yn yd vn vd 0 _ RX.out RY.out HV.out).mono ?_)
  rintro e w5 ⟨rfl, hb⟩
  replace H := H.below hb
  clear hb
  go_wp2_with fail
  replace H := (H.pair (w5.heap.size) (.int .i64 vn) (.int .i64 vd) 23 rfl)
  (with_reducible refine (new_is (ps + rq) qs un ud 0 _ sum0 sum1 qs0 (by omega) HW.out).mono ?_)
  rintro e w6 ⟨rfl, hb⟩
  replace H := H.below hb
  clear hb
  go_wp2_with fail
  replace H := (H.pair (w6.heap.size) (.int .i64 un) (.int .i64 ud) 23 rfl)
  (with_reducible refine (new_is pr qs vn vd 0 _ (by omega) (by omega) qs0 (by omega) HZ.out).mono ?_)
  rintro e w7 ⟨rfl, hb⟩
  replace H := H.below hb
  clear hb
  have cx0 := H.cell (w2.heap.size) 0 (.int .i64 xn) (List.Mem.tail _ (List.Mem.tail _ (List.Mem.tail _ (List.Mem.tail _ (List.Mem.tail _ (List.Mem.tail _ (List.Mem.tail _ (List.Mem.tail _ (List.Mem.tail _ (List.Mem.tail _ (List.Mem.tail _ (List.Mem.tail _ (List.Mem.tail _ (List.Mem.tail _ (List.Mem.tail _ (List.Mem.tail _ (List.Mem.head _)))))))))))))))))
  have cx1 := H.cell (w2.heap.size) 1 (.int .i64 xd) (List.Mem.tail _ (List.Mem.tail _ (List.Mem.tail _ (List.Mem.tail _ (List.Mem.tail _ (List.Mem.tail _ (List.Mem.tail _ (List.Mem.tail _ (List.Mem.tail _ (List.Mem.tail _ (List.Mem.tail _ (List.Mem.tail _ (List.Mem.tail _ (List.Mem.tail _ (List.Mem.tail _ (List.Mem.tail _ (List.Mem.tail _ (List.Mem.head _))))))))))))))))))
  have lx := H.lt (w2.heap.size) 0 (.int .i64 xn) (List.Mem.tail _ (List.Mem.tail _ (List.Mem.tail _ (List.Mem.tail _ (List.Mem.tail _ (List.Mem.tail _ (List.Mem.tail _ (List.Mem.tail _ (List.Mem.tail _ (List.Mem.tail _ (List.Mem.tail _ (List.Mem.tail _ (List.Mem.tail _ (List.Mem.tail _ (List.Mem.tail _ (List.Mem.tail _ (List.Mem.head _)))))))))))))))))
  have cy0 := H.cell (w3.heap.size) 0 (.int .i64 yn) (List.Mem.tail _ (List.Mem.tail _ (List.Mem.tail _ (List.Mem.tail _ (List.Mem.tail _ (List.Mem.tail _ (List.Mem.tail _ (List.Mem.tail _ (List.Mem.tail _ (List.Mem.tail _ (List.Mem.tail _ (List.Mem.tail _ (List.Mem.head _)))))))))))))
  have cy1 := H.cell (w3.heap.size) 1 (.int .i64 yd) (List.Mem.tail _ (List.Mem.tail _ (List.Mem.tail _ (List.Mem.tail _ (List.Mem.tail _ (List.Mem.tail _ (List.Mem.tail _ (List.Mem.tail _ (List.Mem.tail _ (List.Mem.tail _ (List.Mem.tail _ (List.Mem.tail _ (List.Mem.tail _ (List.Mem.head _))))))))))))))
  have ly := H.lt (w3.heap.size) 0 (.int .i64 yn) (List.Mem.tail _ (List.Mem.tail _ (List.Mem.tail _ (List.Mem.tail _ (List.Mem.tail _ (List.Mem.tail _ (List.Mem.tail _ (List.Mem.tail _ (List.Mem.tail _ (List.Mem.tail _ (List.Mem.tail _ (List.Mem.tail _ (List.Mem.head _)))))))))))))
  have cu0 := H.cell (w4.heap.size) 0 (.int .i64 un) (List.Mem.tail _ (List.Mem.tail _ (List.Mem.tail _ (List.Mem.tail _ (List.Mem.tail _ (List.Mem.tail _ (List.Mem.tail _ (List.Mem.tail _ (List.Mem.head _)))))))))
  have cu1 := H.cell (w4.heap.size) 1 (.int .i64 ud) (List.Mem.tail _ (List.Mem.tail _ (List.Mem.tail _ (List.Mem.tail _ (List.Mem.tail _ (List.Mem.tail _ (List.Mem.tail _ (List.Mem.tail _ (List.Mem.tail _ (List.Mem.head _))))))))))
  have lu := H.lt (w4.heap.size) 0 (.int .i64 un) (List.Mem.tail _ (List.Mem.tail _ (List.Mem.tail _ (List.Mem.tail _ (List.Mem.tail _ (List.Mem.tail _ (List.Mem.tail _ (List.Mem.tail _ (List.Mem.head _)))))))))
  have cv0 := H.cell (w5.heap.size) 0 (.int .i64 vn) (List.Mem.tail _ (List.Mem.tail _ (List.Mem.tail _ (List.Mem.tail _ (List.Mem.head _)))))
  have cv1 := H.cell (w5.heap.size) 1 (.int .i64 vd) (List.Mem.tail _ (List.Mem.tail _ (List.Mem.tail _ (List.Mem.tail _ (List.Mem.tail _ (List.Mem.head _))))))
  have lv := H.lt (w5.heap.size) 0 (.int .i64 vn) (List.Mem.tail _ (List.Mem.tail _ (List.Mem.tail _ (List.Mem.tail _ (List.Mem.head _)))))
  have cw_0 := H.cell (w6.heap.size) 0 (.int .i64 un) (List.Mem.head _)
  have cw_1 := H.cell (w6.heap.size) 1 (.int .i64 ud) (List.Mem.tail _ (List.Mem.head _))
  have lw_ := H.lt (w6.heap.size) 0 (.int .i64 un) (List.Mem.head _)
  go_wp2_with fail
  clear cx0 cx1 lx cy0 cy1 ly cu0 cu1 lu cv0 cv1 lv cw_0 cw_1 lw_
  replace H := (H.pair (w7.heap.size) (.int .i64 vn) (.int .i64 vd) 23 rfl)
  (with_reducible refine (rcmp_is xn xd yn yd (1) _ (by omega) (by omega) (by omega) (by omega) (by omega) (by omega) (by omega) (by omega) HC.out).mono ?_)
  rintro e w8 ⟨rfl, hb⟩
  replace H := H.below hb
  clear hb
  go_wp2
  go_ret
  exact ⟨rfl, H.old⟩

theorem rsmall_walk (A B C D : Int) (w : World) (hA : (0 ≤ A ∧ A < 65536)) (hB : (0 ≤ B ∧ B < 65536)) (hC : (0 ≤ C ∧ C < 65536)) (hD : (0 ≤ D ∧ D < 65536)) :
    Calls Try.prog 6 #[.agg #[.int .u16 A, .int .u16 B, .int .u16 C, .int .u16 D]] w fun e w' => e = .returned (.bool true) ∧ Below w.heap.size w w' := by
  rcases Int.lt_trichotomy (A % 30000 * (1 + D % 30000)) (C % 30000 * (1 + B % 30000)) with h | h | h
  · exact rsmall_lt A B C D w hA.1 hA.2 hB.1 hB.2 hC.1 hC.2 hD.1 hD.2 h
  · exact rsmall_eq A B C D w hA.1 hA.2 hB.1 hB.2 hC.1 hC.2 hD.1 hD.2 h
  · exact rsmall_gt A B C D w hA.1 hA.2 hB.1 hB.2 hC.1 hC.2 hD.1 hD.2 h
end Go.Proofs.Ytghhnpbepilefaa
