/- math/bits.Div64 over this program: for every numbers with the high part below the divisor it answers the quotient and the rest. -/
import Derived.Test.YtmaioofcmgaakaaGreatDoorDivA
namespace Go.Proofs.YtmaioofcmgaakaaGreatDoor
open Go.RowKit

/-- Bits that do not meet are added. -/
theorem or_add (a b n : Nat) (hb : b < 2 ^ n) (ha : a * 2 ^ n < 18446744073709551616) (hb' : b < 18446744073709551616) :
    bits .or .u64 ((a * 2 ^ n : Nat) : Int) (b : Int) = ((a * 2 ^ n + b : Nat) : Int) := by
  rw [bits_or_u64_nat _ _ ha hb', Nat.mul_comm a, ← Nat.two_pow_add_eq_or_of_lt hb a]

/-- The number that is divided, shifted, in two halves. -/
theorem shifted (h l s : Nat) (hs : s ≤ 63) (hl : l < 18446744073709551616) :
    h * 2 ^ s + l / 2 ^ (64 - s) = (h * 18446744073709551616 + l) * 2 ^ s / 18446744073709551616 ∧ l / 2 ^ (64 - s) < 2 ^ s := by
  have p : 2 ^ s * 2 ^ (64 - s) = 18446744073709551616 := by rw [← Nat.pow_add, show s + (64 - s) = 64 from by omega]
  have hp : 0 < 2 ^ s := Nat.two_pow_pos s
  have hp' : 0 < 2 ^ (64 - s) := Nat.two_pow_pos _
  constructor
  · have e : (h * 18446744073709551616 + l) * 2 ^ s = l * 2 ^ s + 18446744073709551616 * (h * 2 ^ s) := by
      rw [Nat.add_mul, Nat.mul_right_comm, Nat.mul_comm (h * 2 ^ s), Nat.add_comm]
    have e2 : l * 2 ^ s / 18446744073709551616 = l / 2 ^ (64 - s) := by
      rw [← p, Nat.mul_comm l, Nat.mul_div_mul_left _ _ hp]
    rw [e, Nat.add_mul_div_left _ _ (by decide), e2, Nat.add_comm]
  · rw [Nat.div_lt_iff_lt_mul hp', p]
    exact hl

/-- Two digits make the quotient, and what the second one leaves is the rest. -/
theorem two_steps (u d1 d0 Y : Int) (hY : 0 < Y) :
    (u * 4294967296 + d1) / Y * 4294967296 + ((u * 4294967296 + d1) % Y * 4294967296 + d0) / Y = (u * 18446744073709551616 + (d1 * 4294967296 + d0)) / Y ∧
    ((u * 4294967296 + d1) % Y * 4294967296 + d0) % Y = (u * 18446744073709551616 + (d1 * 4294967296 + d0)) % Y := by
  have e := Int.mul_ediv_add_emod (u * 4294967296 + d1) Y
  generalize (u * 4294967296 + d1) / Y = q at *
  generalize (u * 4294967296 + d1) % Y = z at *
  have k : u * 18446744073709551616 + (d1 * 4294967296 + d0) = (z * 4294967296 + d0) + Y * (q * 4294967296) := by
    rw [← Int.mul_assoc]
    generalize Y * q = p at *
    omega
  rw [k, Int.add_mul_ediv_left _ _ (by omega), Int.add_mul_emod_self_left]
  exact ⟨by omega, rfl⟩

theorem div64_big (h l y : Int) (w : World) (k1 : 0 < h) (k2 : h < y) (k3 : y < 18446744073709551616) (k4 : 0 ≤ l) (k5 : l < 18446744073709551616) :
    Calls Tryz.prog 100 #[.int .u64 h, .int .u64 l, .int .u64 y] w fun e w' =>
      e = .returned (.tuple #[.int .u64 ((h * 18446744073709551616 + l) / y), .int .u64 ((h * 18446744073709551616 + l) % y)]) ∧ w = w' := by
  obtain ⟨s0, s1, g1, g2⟩ := lz_spec y (by omega) k3
  obtain ⟨s, hs⟩ : ∃ s, lz y = s := ⟨_, rfl⟩
  rw [hs] at s0 s1 g1 g2
  have HS := Lib.hid hs
  clear hs
  obtain ⟨H, rfl⟩ := Int.eq_ofNat_of_zero_le (Int.le_of_lt k1)
  obtain ⟨L, rfl⟩ := Int.eq_ofNat_of_zero_le k4
  obtain ⟨n, rfl⟩ := Int.eq_ofNat_of_zero_le s0
  have hp : (0 : Int) < 2 ^ n := Int.pow_pos (by decide)
  have cst : ((2 : Int) ^ n) = ((2 ^ n : Nat) : Int) := by rw [Int.natCast_pow]; rfl
  rw [Int.toNat_natCast] at g1 g2
  have hHS : (H : Int) * 2 ^ n < y * 2 ^ n := Int.mul_lt_mul_of_pos_right k2 hp
  have hHn : H * 2 ^ n < 18446744073709551616 := by
    have : (((H * 2 ^ n : Nat)) : Int) = (H : Int) * 2 ^ n := by rw [Int.natCast_mul, cst]
    omega
  obtain ⟨sh1, sh2⟩ := shifted H L n (by omega) (by omega)
  -- the number, shifted
  have U0 : 0 ≤ ((H : Int) * 18446744073709551616 + L) * 2 ^ n := Int.mul_nonneg (by omega) (Int.le_of_lt hp)
  have U1 : ((H : Int) * 18446744073709551616 + L) * 2 ^ n < y * 2 ^ n * 18446744073709551616 := by
    have : ((H : Int) * 18446744073709551616 + L) < y * 18446744073709551616 := by omega
    have := Int.mul_lt_mul_of_pos_right this hp
    rw [Int.mul_right_comm]
    exact this
  have eu : bits .or .u64 (IntKind.u64.wrap ((H : Int) * 2 ^ ((n : Nat) : Int).toNat)) ((L : Int) / 2 ^ (64 - ((n : Nat) : Int)).toNat) = ((H : Int) * 18446744073709551616 + L) * 2 ^ n / 18446744073709551616 := by
    rw [Int.toNat_natCast, show (64 - ((n : Nat) : Int)).toNat = 64 - n from by omega]
    have c1 : (H : Int) * 2 ^ n = ((H * 2 ^ n : Nat) : Int) := by rw [Int.natCast_mul, cst]
    have c2 : (L : Int) / 2 ^ (64 - n) = ((L / 2 ^ (64 - n) : Nat) : Int) := by rw [Int.natCast_ediv, Int.natCast_pow]; rfl
    have c3 : IntKind.u64.wrap ((H * 2 ^ n : Nat) : Int) = ((H * 2 ^ n : Nat) : Int) := by rw [IntKind.wrap_u64]; omega
    have c4 : L / 2 ^ (64 - n) < 18446744073709551616 := Nat.lt_of_le_of_lt (Nat.div_le_self _ _) (by omega)
    rw [c1, c2, c3, or_add H _ n sh2 hHn c4, sh1, Int.natCast_ediv, Int.natCast_mul, Int.natCast_add, Int.natCast_mul, ← cst]
    rfl
  have ev : IntKind.u64.wrap ((L : Int) * 2 ^ ((n : Nat) : Int).toNat) = ((H : Int) * 18446744073709551616 + L) * 2 ^ n % 18446744073709551616 := by
    rw [Int.toNat_natCast, IntKind.wrap_u64, Int.add_mul, Int.mul_right_comm, Int.add_comm, Int.add_mul_emod_self_right]
  have eY : IntKind.u64.wrap (y * 2 ^ ((n : Nat) : Int).toNat) = y * 2 ^ n := by rw [Int.toNat_natCast, IntKind.wrap_u64]; omega
  -- names for all of it
  have QE : ((H : Int) * 18446744073709551616 + L) * 2 ^ n / (y * 2 ^ n) = ((H : Int) * 18446744073709551616 + L) / y := Int.mul_ediv_mul_of_pos_left _ _ hp
  have RE : ((H : Int) * 18446744073709551616 + L) * 2 ^ n % (y * 2 ^ n) / 2 ^ n = ((H : Int) * 18446744073709551616 + L) % y := by
    rw [Int.mul_comm _ (2 ^ n), Int.mul_comm y, Int.mul_emod_mul_of_pos _ _ hp, Int.mul_ediv_cancel_left _ (by omega)]
  rw [← QE, ← RE]
  generalize y * 2 ^ n = Y at *
  generalize ((H : Int) * 18446744073709551616 + L) * 2 ^ n = U at *
  have y1b : 2147483648 ≤ Y / 4294967296 ∧ Y / 4294967296 ≤ 4294967295 := by omega
  have hu : 0 ≤ U / 18446744073709551616 ∧ U / 18446744073709551616 < Y := ⟨by omega, by rw [Int.ediv_lt_iff_lt_mul (by decide)]; omega⟩
  have hy0 : bits .and .u64 Y 4294967295 = Y % 4294967296 := and_low32 Y (by omega) (by omega)
  have hd0 : bits .and .u64 (U % 18446744073709551616) 4294967295 = U % 18446744073709551616 % 4294967296 := and_low32 _ (by omega) (by omega)
  have HY : Y = Y / 4294967296 * 4294967296 + Y % 4294967296 := by omega
  have hk0 := k_start' (U / 18446744073709551616) (U % 18446744073709551616 / 4294967296) (Y / 4294967296) (Y % 4294967296) y1b.1 y1b.2 (by omega) (by omega) hu.1 (by omega) (by omega) (by omega)
  refine div64_walk H L y n w k1 k2 k3 s0 s1 HS Y (Y / 4294967296) (Y % 4294967296) (U / 18446744073709551616) (U % 18446744073709551616) (U % 18446744073709551616 / 4294967296) (U % 18446744073709551616 % 4294967296)
    eY rfl hy0 eu ev rfl hd0 y1b.1 y1b.2 (by omega) (by omega) (by omega) (by omega) hu.1 (by omega) (by omega) (by omega) (by omega) (by omega) (Lib.hid HY) hu.2 hk0 _ _ (Lib.hid ?_)
  intro q z q' f1 hz f2
  have hYp : 0 < Y := by omega
  obtain ⟨t1, t2⟩ := two_steps (U / 18446744073709551616) (U % 18446744073709551616 / 4294967296) (U % 18446744073709551616 % 4294967296) Y hYp
  have eU : U / 18446744073709551616 * 18446744073709551616 + (U % 18446744073709551616 / 4294967296 * 4294967296 + U % 18446744073709551616 % 4294967296) = U := by omega
  rw [eU] at t1 t2
  have zb : 0 ≤ z ∧ z < Y := by rw [hz]; exact ⟨Int.emod_nonneg _ (by omega), Int.emod_lt_of_pos _ hYp⟩
  obtain ⟨r1, r2, r3⟩ := k_fin _ _ _ _ q y1b.1 (by omega) (by omega) (by omega) f1
  obtain ⟨r4, r5, r6⟩ := k_fin _ _ _ _ q' y1b.1 (by omega) (by omega) (by omega) f2
  rw [← HY] at r2 r3 r5 r6
  constructor
  · rw [r2, r5, hz, t1]
  · rw [rest_eq z _ q' Y r6 (by omega) (by omega), hz, t2, Int.toNat_natCast]

theorem div64 (h l y : Int) (w : World) (k1 : 0 ≤ h) (k2 : h < y) (k3 : y < 18446744073709551616) (k4 : 0 ≤ l) (k5 : l < 18446744073709551616) :
    Calls Tryz.prog 100 #[.int .u64 h, .int .u64 l, .int .u64 y] w fun e w' =>
      e = .returned (.tuple #[.int .u64 ((h * 18446744073709551616 + l) / y), .int .u64 ((h * 18446744073709551616 + l) % y)]) ∧ ∃ n, w' = w.drewN n := by
  by_cases hh : 0 < h
  · exact (div64_big h l y w hh k2 k3 k4 k5).mono fun e w' hw => ⟨hw.1, 0, hw.2.symm⟩
  · obtain rfl : h = 0 := by omega
    have t1 : (y == 0) = false := beq_eq_false_iff_ne.2 (by omega)
    have t2 : ¬ y ≤ 0 := by omega
    have t3 : ¬ y = 0 := by omega
    rw [Int.zero_mul, Int.zero_add]
    go_enter Tryz.func100, Tryz.ntmps100
    go_wp2
    go_quiet (fail)
    go_wp2
    go_ret2
    exact ⟨rfl, _, rfl⟩
end Go.Proofs.YtmaioofcmgaakaaGreatDoor
