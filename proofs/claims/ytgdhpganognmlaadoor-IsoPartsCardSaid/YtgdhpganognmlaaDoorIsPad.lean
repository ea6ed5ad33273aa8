/- The statements' own digits (pad), and those of package iso. -/
import Derived.Test.YtgdhpganognmlaaDoorIsRef
namespace Go.Proofs.YtgdhpganognmlaaDoor
open Go.RowKit
set_option linter.unusedVariables false
set_option linter.unusedSimpArgs false

/-- A slice of one byte, as a text. -/
theorem one_byte (w : World) (c : Int) (h : 0 ≤ c ∧ c < 256) : (convert 42 9 (.slice (some ⟨w.heap.size, 0, none⟩) 1 1)).run Tryd.prog (w.alloc (.cells #[.int .u8 c] 5)) = .ok (.string ⟨#[UInt8.ofNat c.toNat]⟩) (w.alloc (.cells #[.int .u8 c] 5)) := by
  refine run_convert_bytes_back (P := Tryd.prog) _ 42 9 5 ⟨w.heap.size, 0, none⟩ 1 [UInt8.ofNat c.toNat] Tryd.underlying42 Tryd.underlying5 Tryd.underlying9 (fun j hj => ?_)
  have hj0 : j = 0 := by simpa using hj
  subst hj0
  show (w.alloc (.cells #[.int .u8 c] 5)).cell? ⟨w.heap.size, 0, none⟩ = _
  rw [World.cell?_alloc_new]
  simp
  omega
theorem lpad_any (n0 many : Int) (w : World) (h1 : 0 ≤ n0) (h2 : n0 ≤ 9999) (h3 : 0 ≤ many) (h4 : many ≤ 10) : Calls Tryd.prog 14 #[.int .i64 n0, .int .i64 many] w fun e w' => e = .returned (.string ⟨(digs n0 many.toNat).toArray⟩) ∧ Below w.heap.size w w' := by
  go_enter Tryd.func14, Tryd.ntmps14
  go_wp2
  go_loopw [5, 6, 0] (fun s i n W' => ∃ k : Nat, (k : Int) ≤ many ∧ i = .int .i64 k ∧ s = .string ⟨(digs n0 k).toArray⟩ ∧ n = .int .i64 (n0 / 10 ^ k) ∧ Below w.heap.size w W') (fun _ i _ _ => (many - intOf i).toNat)
  case atStart => exact ⟨0, h3, rfl, rfl, by simp, Below.refl _ _⟩
  case round =>
    obtain ⟨k, hk, rfl, rfl, rfl, hB⟩ := hrel
    by_cases hlt : (k : Int) < many
    · have b0 : 0 ≤ n0 / 10 ^ k := Int.ediv_nonneg h1 (Int.le_of_lt (Int.pow_pos (by decide)))
      have b1 : n0 / 10 ^ k ≤ n0 := Int.ediv_le_self _ h1
      have e1 : n0 / 10 ^ k / 10 = n0 / 10 ^ (k + 1) := by rw [Int.ediv_ediv_of_nonneg (Int.le_of_lt (Int.pow_pos (by decide))), ← Int.pow_succ]
      have e2 : dg (n0 / 10 ^ k) :: digs n0 k = digs n0 (k + 1) := rfl
      have e3 := digs_len n0 k
      obtain ⟨q, HQ⟩ : ∃ q, Hid (n0 / 10 ^ k = q) := ⟨_, Lib.hid rfl⟩
      rw [HQ.out] at b0 b1 e1 e2 ⊢
      have E := Lib.hid (And.intro e1 e2)
      have hd : UInt8.ofNat (48 + q % 10).toNat = dg q := by unfold dg; congr 1; omega
      have hcv := fun v : World => one_byte v (48 + q % 10) (by omega)
      rw [hd] at hcv
      have hadd := fun v : World => add_lists [dg q] (digs n0 k) (by rw [e3]; simp; omega) v
      clear e1 e2 e3 hd
      go_wp2
      go_roundw
      case rel => exact ⟨k + 1, by omega, rfl, by rw [← E.out.2], by rw [E.out.1], hB.alloc (by exact hB.size) _⟩
      case measure => simp [intOf]; omega
    · have e : many.toNat = k := by omega
      go_wp2
      go_ret
      exact ⟨rfl, hB⟩
theorem lpad_is (n many : Int) (l : List UInt8) (w : World) (h1 : 0 ≤ n) (h2 : n ≤ 9999) (h3 : 0 ≤ many) (h4 : many ≤ 10) (hl : digs n many.toNat = l) : Calls Tryd.prog 14 #[.int .i64 n, .int .i64 many] w fun e w' => e = .returned (.string ⟨l.toArray⟩) ∧ Below w.heap.size w w' := by
  subst hl; exact lpad_any n many w h1 h2 h3 h4
/-- A digit's rune, as a text. -/
theorem rune_at (q : Int) : Utf8.encode (48 + q % 10) = ⟨#[dg q]⟩ := by
  unfold dg
  have h : q % 10 = 0 ∨ q % 10 = 1 ∨ q % 10 = 2 ∨ q % 10 = 3 ∨ q % 10 = 4 ∨ q % 10 = 5 ∨ q % 10 = 6 ∨ q % 10 = 7 ∨ q % 10 = 8 ∨ q % 10 = 9 := by omega
  rcases h with h | h | h | h | h | h | h | h | h | h <;> rw [h] <;> rfl
end Go.Proofs.YtgdhpganognmlaaDoor
