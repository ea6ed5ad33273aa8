/- math/bits over this program: Len64 and LeadingZeros64: how many bits a number needs, and what is left of 64. -/
import Derived.Test.YtmaioofcmgaakaaGreatDoorHalves
import Derived.Lib.Strings
import Derived.Lib.Slices
import Derived.Lib.Small
import Derived.Lib.Walk
import Derived.Lib.BitFns
namespace Go.Proofs.YtmaioofcmgaakaaGreatDoor
open Go.RowKit

/-- The last step of each way: so many bits shifted off, and a byte's bits. -/
theorem len_way (k m : Nat) (x b : Int) (hx : x < 18446744073709551616) (hm : m = 2 ^ k) (hlo : (m : Int) ≤ x) (hhi : x / (m : Int) ≤ 255) (hb : b = x / (m : Int)) :
    Lib.len8 b = (Lib.bitLen b.toNat : Int) ∧ Lib.bitLen b.toNat ≤ 8 ∧ Lib.bitLen x.toNat = k + Lib.bitLen b.toNat := by
  have hp : 0 < (m : Int) := by have := Nat.two_pow_pos k; omega
  have h0 : 0 ≤ x := by omega
  have hb0 : 0 ≤ b := by rw [hb]; exact Int.ediv_nonneg h0 (Int.le_of_lt hp)
  refine ⟨Lib.len8_of b hb0 (by omega), Lib.bitLen_le8' b hb0 (by omega), ?_⟩
  have e : b.toNat = x.toNat / 2 ^ k := by
    rw [hb, ← hm]
    obtain ⟨X, rfl⟩ := Int.eq_ofNat_of_zero_le h0
    rw [← Int.natCast_ediv]
    rfl
  rw [e]
  exact Lib.bitLen_shift k x.toNat (by rw [← hm]; omega) (by have : (2 : Nat) ^ 64 = 18446744073709551616 := by decide
                                                             omega)

theorem tab_get (b : Int) (h : b.toNat < Lib.len8tab.size) : ((Lib.len8tab[b.toNat]'h).toNat : Int) = Lib.len8 b := by
  unfold Lib.len8
  rw [getElem?_pos Lib.len8tab b.toNat h]
  rfl
theorem len_fin (k m : Nat) (K x b : Int) (hK : K = k) (hk : k ≤ 56) (hx : x < 18446744073709551616) (hm : m = 2 ^ k) (hlo : (m : Int) ≤ x) (hhi : x / (m : Int) ≤ 255) (hb : b = x / (m : Int)) (h : b.toNat < Lib.len8tab.size) :
    wrap64 (K + wrap64 ((Lib.len8tab[b.toNat]'h).toNat : Int)) = (Lib.bitLen x.toNat : Int) := by
  obtain ⟨e1, e2, e3⟩ := len_way k m x b hx hm hlo hhi hb
  rw [tab_get b h, e1, e3, hK]
  clear e1 e3 hhi hlo hm hb hx hK
  generalize Lib.bitLen b.toNat = a at *
  unfold wrap64
  omega
theorem len_fin0 (x : Int) (h0 : 0 ≤ x) (h1 : x ≤ 255) (h : x.toNat < Lib.len8tab.size) :
    wrap64 (wrap64 ((Lib.len8tab[x.toNat]'h).toNat : Int)) = (Lib.bitLen x.toNat : Int) := by
  have e2 := Lib.bitLen_le8' x h0 h1
  rw [tab_get x h, Lib.len8_of x h0 h1]
  generalize Lib.bitLen x.toNat = a at *
  unfold wrap64
  omega

set_option maxHeartbeats 4000000 in
set_option maxRecDepth 100000 in
theorem len64 (x : Int) (w : World) (h0 : 0 ≤ x) (h1 : x < 18446744073709551616) :
    Calls Tryz.prog 111 #[.int .u64 x] w fun e w' => e = .returned (.int .i64 (Lib.bitLen x.toNat)) ∧ w = w' := by
  have hs : Lib.len8tab.size = 256 := by decide +kernel
  go_enter Tryz.func111, Tryz.ntmps111
  go_wp2
  all_goals (go_ret; refine ⟨congrArg Ending.returned (congrArg (Value.int IntKind.i64) ?_), rfl⟩)
  · exact len_fin 56 72057594037927936 56 x (x / 4294967296 / 65536 / 256) rfl (by decide) h1 (by decide) (by omega) (by omega) (by omega) _
  · exact len_fin 48 281474976710656 48 x (x / 4294967296 / 65536) rfl (by decide) h1 (by decide) (by omega) (by omega) (by omega) _
  · exact len_fin 40 1099511627776 40 x (x / 4294967296 / 256) rfl (by decide) h1 (by decide) (by omega) (by omega) (by omega) _
  · exact len_fin 32 4294967296 32 x (x / 4294967296) rfl (by decide) h1 (by decide) (by omega) (by omega) (by omega) _
  · exact len_fin 24 16777216 24 x (x / 65536 / 256) rfl (by decide) h1 (by decide) (by omega) (by omega) (by omega) _
  · exact len_fin 16 65536 16 x (x / 65536) rfl (by decide) h1 (by decide) (by omega) (by omega) (by omega) _
  · exact len_fin 8 256 8 x (x / 256) rfl (by decide) h1 (by decide) (by omega) (by omega) (by omega) _
  · exact len_fin0 x h0 (by omega) _

/-- How many bits of 64 a number leaves. -/
def lz (x : Int) : Int := 64 - (Lib.bitLen x.toNat : Int)

theorem lz64 (x : Int) (w : World) (h0 : 0 ≤ x) (h1 : x < 18446744073709551616) :
    Calls Tryz.prog 108 #[.int .u64 x] w fun e w' => e = .returned (.int .i64 (lz x)) ∧ w = w' := by
  have hb : Lib.bitLen x.toNat ≤ 64 := Lib.bitLen_le x.toNat 64 (by omega) (by omega)
  have h2 : (Lib.bitLen x.toNat : Int) ≤ 64 := by omega
  have h3 : 0 ≤ (Lib.bitLen x.toNat : Int) := by omega
  unfold lz
  go_enter Tryz.func108, Tryz.ntmps108
  go_wp2_with (go_at_call 111; refine (len64 _ _ h0 h1).mono ?_; rintro e w' ⟨rfl, rfl⟩)
  go_ret
  exact ⟨rfl, rfl⟩

/-- What the count is good for. -/
theorem bitLen_spec : ∀ (k x : Nat), x < 2 ^ k → k ≤ 64 → 0 < x → 0 < Lib.bitLen x ∧ 2 ^ (Lib.bitLen x - 1) ≤ x ∧ x < 2 ^ Lib.bitLen x
  | 0, x, h, _, h0 => by simp at h; omega
  | k + 1, x, h, hk, h0 => by
    have h64 : x < 2 ^ 64 := Nat.lt_of_lt_of_le h (Nat.pow_le_pow_right (by decide) hk)
    have e := Lib.bitLen_half x (by omega) h64
    by_cases h1 : x = 1
    · subst h1
      decide
    · obtain ⟨i1, i2, i3⟩ := bitLen_spec k (x / 2) (by rw [Nat.pow_succ] at h; omega) (by omega) (by omega)
      rw [e]
      generalize Lib.bitLen (x / 2) = b at *
      obtain ⟨c, rfl⟩ : ∃ c, b = c + 1 := ⟨b - 1, by omega⟩
      have e1 : 1 + (c + 1) - 1 = c + 1 := by omega
      have e2 : 1 + (c + 1) = c + 1 + 1 := by omega
      have e3 : c + 1 - 1 = c := by omega
      rw [e3] at i2
      rw [e1, e2, Nat.pow_succ, Nat.pow_succ]
      rw [Nat.pow_succ] at i3
      omega

/-- Shifted by what is left of 64, a number has its top bit at the top. -/
theorem lz_spec (x : Int) (h0 : 0 < x) (h1 : x < 18446744073709551616) :
    0 ≤ lz x ∧ lz x ≤ 63 ∧ 9223372036854775808 ≤ x * 2 ^ (lz x).toNat ∧ x * 2 ^ (lz x).toNat < 18446744073709551616 := by
  obtain ⟨X, rfl⟩ := Int.eq_ofNat_of_zero_le (Int.le_of_lt h0)
  have hX : X < 2 ^ 64 := by have : (2 : Nat) ^ 64 = 18446744073709551616 := by decide
                             omega
  obtain ⟨i1, i2, i3⟩ := bitLen_spec 64 X hX (Nat.le_refl _) (by omega)
  have hb : Lib.bitLen X ≤ 64 := Lib.bitLen_le X 64 (by omega) hX
  unfold lz
  rw [Int.toNat_natCast]
  generalize Lib.bitLen X = b at *
  have et : ((64 : Int) - (b : Int)).toNat = 64 - b := by omega
  rw [et]
  have p1 : 2 ^ (b - 1) * 2 ^ (64 - b) = 9223372036854775808 := by rw [← Nat.pow_add, show b - 1 + (64 - b) = 63 from by omega]
  have p2 : 2 ^ b * 2 ^ (64 - b) = 18446744073709551616 := by rw [← Nat.pow_add, show b + (64 - b) = 64 from by omega]
  have q1 := Nat.mul_le_mul_right (2 ^ (64 - b)) i2
  have q2 := Nat.mul_lt_mul_of_pos_right i3 (Nat.two_pow_pos (64 - b))
  rw [p1] at q1
  rw [p2] at q2
  have cst : ((X : Int) * 2 ^ (64 - b)) = ((X * 2 ^ (64 - b) : Nat) : Int) := by rw [Int.natCast_mul, Int.natCast_pow]; rfl
  rw [cst]
  omega
end Go.Proofs.YtmaioofcmgaakaaGreatDoor
