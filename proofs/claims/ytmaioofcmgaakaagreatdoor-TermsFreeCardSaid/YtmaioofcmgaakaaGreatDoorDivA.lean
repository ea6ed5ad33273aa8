/- math/bits.Div64 over this program: the walk, where the high part is not 0. -/
import Derived.Test.YtmaioofcmgaakaaGreatDoorLen
import Derived.Test.YtmaioofcmgaakaaGreatDoorKnuth
import Derived.Deep.CutBlock
namespace Go.Proofs.YtmaioofcmgaakaaGreatDoor
open Go.RowKit

/-- A product of a digit and a half does not wrap. -/
theorem wrap_prod (q y0 : Int) (h0 : 0 ≤ q) (h1 : q < 4294967296) (a3 : 0 ≤ y0) (a4 : y0 ≤ 4294967295) : IntKind.u64.wrap (q * y0) = q * y0 := by
  have p0 : 0 ≤ q * y0 := Int.mul_nonneg h0 a3
  have p1 : q * y0 ≤ 4294967295 * 4294967295 := Int.mul_le_mul (by omega) a4 a3 (by omega)
  rw [IntKind.wrap_u64]
  generalize q * y0 = p at *
  omega
theorem kinv_bd {u d y1 y0 q r : Int} (h : KInv u d y1 y0 q r) : 0 ≤ q ∧ q ≤ 4294967297 ∧ 0 ≤ r ∧ r ≤ 4294967295 := ⟨h.1, h.2.1, h.2.2.2.1, h.2.2.2.2.1⟩

/-- What the guess leaves, reckoned round 2^64. -/
theorem rest_eq (u d q Y : Int) (h : u * 4294967296 + d - q * Y = (u * 4294967296 + d) % Y) (a5 : 9223372036854775808 ≤ Y) (a6 : Y ≤ 18446744073709551615) :
    IntKind.u64.wrap (IntKind.u64.wrap (IntKind.u64.wrap (u * 4294967296) + d) - IntKind.u64.wrap (q * Y)) = (u * 4294967296 + d) % Y := by
  simp only [IntKind.wrap_u64]
  have m0 := Int.emod_nonneg (u * 4294967296 + d) (show Y ≠ 0 by omega)
  have m1 := Int.emod_lt_of_pos (u * 4294967296 + d) (show 0 < Y by omega)
  rw [← h] at m0 m1 ⊢
  generalize q * Y = p at *
  omega
theorem k_start' (u d y1 y0 : Int) (a1 : 2147483648 ≤ y1) (a2 : y1 ≤ 4294967295) (a3 : 0 ≤ y0) (a4 : y0 ≤ 4294967295) (b1 : 0 ≤ u) (b2 : u < y1 * 4294967296 + y0) (b3 : u ≤ 18446744073709551615) (c2 : d ≤ 4294967295) :
    KInv u d y1 y0 (u / y1) (IntKind.u64.wrap (u - IntKind.u64.wrap (u / y1 * y1))) := by
  have hk := k_start u d y1 y0 a1 a2 a3 a4 b1 b2 c2
  have e : IntKind.u64.wrap (u - IntKind.u64.wrap (u / y1 * y1)) = u - u / y1 * y1 := by
    have h0 := hk.2.2.2.1
    have p0 : 0 ≤ u / y1 * y1 := Int.mul_nonneg hk.1 (by omega)
    rw [IntKind.wrap_u64, IntKind.wrap_u64]
    generalize u / y1 * y1 = p at *
    omega
  rw [e]
  exact hk

set_option maxHeartbeats 4000000 in
set_option maxRecDepth 100000 in
theorem div64_walk (h l y s : Int) (w : World) (k1 : 0 < h) (k2 : h < y) (k3 : y < 18446744073709551616)
    (s0 : 0 ≤ s) (s1 : s ≤ 63) (hs : Hid (lz y = s)) (Y y1 y0 u v d1 d0 : Int) (hY : IntKind.u64.wrap (y * 2 ^ s.toNat) = Y) (hy1 : Y / 4294967296 = y1) (hy0 : bits .and .u64 Y 4294967295 = y0)
    (hu : bits .or .u64 (IntKind.u64.wrap (h * 2 ^ s.toNat)) (l / 2 ^ (64 - s).toNat) = u) (hv : IntKind.u64.wrap (l * 2 ^ s.toNat) = v) (hd1 : v / 4294967296 = d1) (hd0 : bits .and .u64 v 4294967295 = d0)
    (a1 : 2147483648 ≤ y1) (a2 : y1 ≤ 4294967295) (a3 : 0 ≤ y0) (a4 : y0 ≤ 4294967295) (a5 : 9223372036854775808 ≤ Y) (a6 : Y ≤ 18446744073709551615)
    (b1 : 0 ≤ u) (b2 : u ≤ 18446744073709551615) (c1 : 0 ≤ d1) (c2 : d1 ≤ 4294967295) (c3 : 0 ≤ d0) (c4 : d0 ≤ 4294967295) (HY : Hid (Y = y1 * 4294967296 + y0)) (b3 : u < Y)
    (hk0 : KInv u d1 y1 y0 (u / y1) (IntKind.u64.wrap (u - IntKind.u64.wrap (u / y1 * y1)))) (Q R : Int)
    (hfin : Hid (∀ q z q' : Int, KFin u d1 y1 y0 q → z = (u * 4294967296 + d1) % Y → KFin z d0 y1 y0 q' →
      q * 4294967296 + q' = Q ∧ IntKind.u64.wrap (IntKind.u64.wrap (IntKind.u64.wrap (z * 4294967296) + d0) - IntKind.u64.wrap (q' * Y)) / 2 ^ s.toNat = R)) :
    Calls Tryz.prog 100 #[.int .u64 h, .int .u64 l, .int .u64 y] w fun e w' => e = .returned (.tuple #[.int .u64 Q, .int .u64 R]) ∧ w = w' := by
  have t1 : (y == 0) = false := beq_eq_false_iff_ne.2 (by omega)
  have t2 : (h == 0) = false := beq_eq_false_iff_ne.2 (by omega)
  have t3 : ¬ y ≤ h := by omega
  go_enter Tryz.func100, Tryz.ntmps100
  go_upto_block 0 with (go_at_call 108; refine (lz64 _ _ (by omega) k3).mono ?_; rw [hs.out]; rintro e w' ⟨rfl, rfl⟩)
  go_cut [15] (fun s15 wx => ∃ q, s15 = .int .u64 q ∧ KFin u d1 y1 y0 q ∧ w = wx)
  case first =>
    have b1' := b1
    have b3' : u < y1 * 4294967296 + y0 := by rw [← HY.out]; exact b3
    have c1' := c1
    have c2' := c2
    go_wp2
    go_loop [15, 16] (fun a b => ∃ q r, a = .int .u64 q ∧ b = .int .u64 r ∧ KInv u d1 y1 y0 q r) (fun a _ => (intOf a).toNat)
    case atStart => exact ⟨_, _, rfl, rfl, hk0⟩
    case round =>
      obtain ⟨q, r, rfl, rfl, hk⟩ := hrel
      obtain ⟨q0, q1, r0, r1⟩ := kinv_bd hk
      have HK := Lib.hid hk
      clear hk hk0
      by_cases T1 : 4294967296 ≤ q
      · have hg := (k_great u d1 y1 y0 q r b1' b3' c1' c2' HK.out (.inl T1)).1
        by_cases B : r + y1 ≤ 4294967295
        · go_wp2
          go_round
          case rel => exact ⟨q - 1, r + y1, rfl, rfl, k_more u d1 y1 y0 q r a1 b1' b3' c1' c2' HK.out (.inl T1) B⟩
          case measure => simp [intOf]; omega
        · go_wp2
          go_meet
          exact ⟨q - 1, rfl, k_break u d1 y1 y0 q r a3 a4 b1' b3' c1' c2' HK.out (.inl T1) (by omega), rfl⟩
      · have PE := Lib.hid (wrap_prod q y0 q0 (by omega) a3 a4)
        obtain ⟨p, hp⟩ : ∃ p, IntKind.u64.wrap (q * y0) = p := ⟨_, rfl⟩
        have PP : Hid (q * y0 = p) := Lib.hid (by rw [← hp, PE.out])
        by_cases T2 : 4294967296 * r + d1 < p
        · have T3 : 4294967296 * r + d1 < q * y0 := by rw [PP.out]; exact T2
          have HT := Lib.hid T3
          have hg := (k_great u d1 y1 y0 q r b1' b3' c1' c2' HK.out (.inr T3)).1
          clear T3
          by_cases B : r + y1 ≤ 4294967295
          · go_wp2
            go_round
            case rel => exact ⟨q - 1, r + y1, rfl, rfl, k_more u d1 y1 y0 q r a1 b1' b3' c1' c2' HK.out (.inr HT.out) B⟩
            case measure => simp [intOf]; omega
          · go_wp2
            go_meet
            exact ⟨q - 1, rfl, k_break u d1 y1 y0 q r a3 a4 b1' b3' c1' c2' HK.out (.inr HT.out) (by omega), rfl⟩
        · have HT : Hid (q * y0 ≤ 4294967296 * r + d1) := Lib.hid (by rw [PP.out]; omega)
          go_wp2
          go_meet
          exact ⟨q, rfl, k_stop u d1 y1 y0 q r HK.out HT.out, rfl⟩

  case rest =>
    obtain ⟨q, rfl, hq, rfl⟩ := hcut
    obtain ⟨f1, f2, f3⟩ := k_fin u d1 y1 y0 q a1 a3 (by rw [← HY.out]; exact b3) c2 hq
    rw [← HY.out] at f3
    have f0 : 0 ≤ q := hq.1
    obtain ⟨z, hz⟩ : ∃ z, IntKind.u64.wrap (IntKind.u64.wrap (IntKind.u64.wrap (u * 4294967296) + d1) - IntKind.u64.wrap (q * Y)) = z := ⟨_, rfl⟩
    have ZE : Hid (z = (u * 4294967296 + d1) % Y) := Lib.hid (by rw [← hz]; exact rest_eq u d1 q Y f3 a5 a6)
    have z0 : 0 ≤ z := by rw [ZE.out]; exact Int.emod_nonneg _ (by omega)
    have z1 : z < Y := by rw [ZE.out]; exact Int.emod_lt_of_pos _ (by omega)
    have z2 : z ≤ 18446744073709551615 := by omega
    have hk0 : KInv z d0 y1 y0 (z / y1) (IntKind.u64.wrap (z - IntKind.u64.wrap (z / y1 * y1))) := k_start' z d0 y1 y0 a1 a2 a3 a4 z0 (by rw [← HY.out]; exact z1) z2 c4
    have HQ := Lib.hid hq
    clear f2 f3 hq
    go_upto_block 2 with (fail)
    go_cut [18] (fun s18 wx => ∃ q, s18 = .int .u64 q ∧ KFin z d0 y1 y0 q ∧ w = wx)
    case first =>
      have b1' := z0
      have b3' : z < y1 * 4294967296 + y0 := by rw [← HY.out]; exact z1
      have c1' := c3
      have c2' := c4
      go_wp2
      go_loop [18, 16] (fun a b => ∃ q r, a = .int .u64 q ∧ b = .int .u64 r ∧ KInv z d0 y1 y0 q r) (fun a _ => (intOf a).toNat)
      case atStart => exact ⟨_, _, rfl, rfl, hk0⟩
      case round =>
        obtain ⟨q, r, rfl, rfl, hk⟩ := hrel
        obtain ⟨q0, q1, r0, r1⟩ := kinv_bd hk
        have HK := Lib.hid hk
        clear hk hk0
        by_cases T1 : 4294967296 ≤ q
        · have hg := (k_great z d0 y1 y0 q r b1' b3' c1' c2' HK.out (.inl T1)).1
          by_cases B : r + y1 ≤ 4294967295
          · go_wp2
            go_round
            case rel => exact ⟨q - 1, r + y1, rfl, rfl, k_more z d0 y1 y0 q r a1 b1' b3' c1' c2' HK.out (.inl T1) B⟩
            case measure => simp [intOf]; omega
          · go_wp2
            go_meet
            exact ⟨q - 1, rfl, k_break z d0 y1 y0 q r a3 a4 b1' b3' c1' c2' HK.out (.inl T1) (by omega), rfl⟩
        · have PE := Lib.hid (wrap_prod q y0 q0 (by omega) a3 a4)
          obtain ⟨p, hp⟩ : ∃ p, IntKind.u64.wrap (q * y0) = p := ⟨_, rfl⟩
          have PP : Hid (q * y0 = p) := Lib.hid (by rw [← hp, PE.out])
          by_cases T2 : 4294967296 * r + d0 < p
          · have T3 : 4294967296 * r + d0 < q * y0 := by rw [PP.out]; exact T2
            have HT := Lib.hid T3
            have hg := (k_great z d0 y1 y0 q r b1' b3' c1' c2' HK.out (.inr T3)).1
            clear T3
            by_cases B : r + y1 ≤ 4294967295
            · go_wp2
              go_round
              case rel => exact ⟨q - 1, r + y1, rfl, rfl, k_more z d0 y1 y0 q r a1 b1' b3' c1' c2' HK.out (.inr HT.out) B⟩
              case measure => simp [intOf]; omega
            · go_wp2
              go_meet
              exact ⟨q - 1, rfl, k_break z d0 y1 y0 q r a3 a4 b1' b3' c1' c2' HK.out (.inr HT.out) (by omega), rfl⟩
          · have HT : Hid (q * y0 ≤ 4294967296 * r + d0) := Lib.hid (by rw [PP.out]; omega)
            go_wp2
            go_meet
            exact ⟨q, rfl, k_stop z d0 y1 y0 q r HK.out HT.out, rfl⟩

    case rest =>
      obtain ⟨q', rfl, hq', rfl⟩ := hcut
      obtain ⟨e1, e2⟩ := hfin.out q z q' HQ.out ZE.out hq'
      have g1 : 0 ≤ q' := hq'.1
      have g2 := (k_fin z d0 y1 y0 q' a1 a3 (by rw [← HY.out]; exact z1) c4 hq').1
      have E1 := Lib.hid e1
      have E2 := Lib.hid e2
      clear e1 e2 hq'
      go_wp2_with fail
      go_ret2
      refine ⟨?_, rfl⟩
      rw [E2.out, E1.out]
      rfl
end Go.Proofs.YtmaioofcmgaakaaGreatDoor
