/- The reference's numbers of any size: the difference, where it isn't below 0. -/
import Derived.Test.YtmaioofcmgaakaaGreatDoorBigD
namespace Go.Proofs.YtmaioofcmgaakaaGreatDoor
open Go.RowKit

theorem trim_any (v : Value) (ds : List Int) (w : World) (h : Big w v ds) (hd : Dig ds) (hl : ds.length ≤ 100000) :
    Calls Tryz.prog 31 #[v] w (BigOut (fun es => bv es = bv ds ∧ es.length ≤ ds.length ∧ (bv es = 0 → es = [])) w) := by
  rcases h.form with ⟨rfl, rfl⟩ | ⟨g, cap, rfl, _⟩
  · refine (trim_nil w).mono ?_
    rintro e w' ⟨v, es, he, hb, hd, rfl, hw⟩
    exact ⟨v, [], he, hb, hd, ⟨rfl, Nat.le_refl _, fun _ => rfl⟩, hw⟩
  · exact trim_some g cap ds w h hd hl

def LessRel (w : World) (B : Nat) (va vb : Value) (da db : List Int) (v c i : Value) (wr : World) : Prop :=
  ∃ (k : Nat) (cc : Int) (ds : List Int), i = .int .i64 k ∧ c = .int .i64 cc ∧ ds.length = k ∧ 0 ≤ cc ∧ cc ≤ 1 ∧ Dig ds ∧ bv (pad da k) - bv (pad db k) = bv ds - p4 k * cc ∧ k ≤ da.length ∧ Going w B va vb da db v ds wr

theorem less_step {da db ds : List Int} {k : Nat} {cc x y s b : Int} (hx : da.getD k 0 = x) (hy : db.getD k 0 = y) (hs : x - y - cc = s - 10000 * b) (s0 : 0 ≤ s) (s1 : s ≤ 9999) (hl : ds.length = k) (hd : Dig ds) (hv : bv (pad da k) - bv (pad db k) = bv ds - p4 k * cc) :
    Dig (ds ++ [s]) ∧ bv (pad da (k + 1)) - bv (pad db (k + 1)) = bv (ds ++ [s]) - p4 (k + 1) * b := by
  refine ⟨dig_snoc hd s0 s1, ?_⟩
  rw [bv_snoc, hl, bv_pad_succ, bv_pad_succ, p4_succ, hx, hy]
  have : p4 k * (x - y - cc) = p4 k * s - 10000 * p4 k * b := by
    rw [hs, Int.mul_sub, ← Int.mul_assoc, Int.mul_comm (p4 k) 10000]
  rw [Int.mul_sub, Int.mul_sub] at this
  omega
theorem less_end {da db ds : List Int} {cc : Int} (hda : Dig da) (hdb : Dig db) (hd : Dig ds) (hl : ds.length = da.length) (c0 : 0 ≤ cc) (hle : bv db ≤ bv da) (hv : bv (pad da da.length) - bv (pad db da.length) = bv ds - p4 da.length * cc) : bv ds = bv da - bv db := by
  rw [bv_pad da _ (Nat.le_refl _)] at hv
  have ba := bv_bd hda
  have bd := bv_bd hd
  rw [hl] at bd
  obtain ⟨r, hr⟩ := bv_split db da.length
  have bp := bv_bd (dig_pad hdb da.length)
  rw [pad_length] at bp
  have bb := bv_bd hdb
  have pp := p4_pos da.length
  -- what lies above is nought
  have r0 : r = 0 := by
    by_cases h1 : 1 ≤ r
    · have := Int.mul_le_mul_of_nonneg_left h1 (Int.le_of_lt pp); omega
    · by_cases h2 : r ≤ -1
      · have := Int.mul_le_mul_of_nonneg_left h2 (Int.le_of_lt pp); rw [Int.mul_neg] at this; omega
      · omega
  rw [r0, Int.mul_zero, Int.add_zero] at hr
  have z : cc = 0 := by
    by_cases h1 : 1 ≤ cc
    · have := Int.mul_le_mul_of_nonneg_left h1 (Int.le_of_lt pp); omega
    · omega
  rw [z, Int.mul_zero] at hv
  omega

end Go.Proofs.YtmaioofcmgaakaaGreatDoor
