/- The reference of layer 9: which periods may be. -/
import Derived.Test.YtcplfgmajbadmaaDoorIcSum
import Derived.Test.YtcplfgmajbadmaaDoorIcErr
import Derived.BigQuiet
namespace Go.Proofs.YtcplfgmajbadmaaDoor
open Go.RowKit
set_option linter.unusedVariables false
set_option linter.unusedSimpArgs false

theorem rday_is (n : Int) (b : Bool) (w : World) (h : decide (1 ≤ n ∧ n ≤ 3652059) = b) : Calls Tryd.prog 15 #[.int .i64 n] w fun e w' => e = .returned (.bool b) ∧ w = w' := by
  subst h
  by_cases h1 : 1 ≤ n
  · have h2 : decide (1 ≤ n ∧ n ≤ 3652059) = decide (n ≤ 3652059) := by simp [h1]
    rw [h2]
    go_enter Tryd.func15, Tryd.ntmps15
    go_wp2
    go_ret
    exact ⟨rfl, rfl⟩
  · have h2 : decide (1 ≤ n ∧ n ≤ 3652059) = false := by simp [h1]
    have h3 : decide (1 ≤ n) = false := by simp [h1]
    rw [h2]
    go_enter Tryd.func15, Tryd.ntmps15
    go_wp2
    go_ret
    exact ⟨rfl, rfl⟩

/-- A slice's cells hold the days. -/
def Cells (W : World) (b off : Nat) (X : Nat → Int) (n : Nat) : Prop := ∀ j, j < n → W.cell? ⟨b, off + j, none⟩ = some (.int .i64 (X j))
theorem Cells.lt {W : World} {b off n : Nat} {X : Nat → Int} (h : Cells W b off X n) (hn : 0 < n) : b < W.heap.size := cell_lt (h 0 hn)
theorem Cells.below {W W' : World} {b off n : Nat} {X : Nat → Int} (h : Cells W b off X n) (hb : Below W.heap.size W W') : Cells W' b off X n := fun j hj => keep hb (cell_lt (h j hj)) (h j hj)
/-- .. in the rounds of a loop. -/
theorem Cells.kept {w W : World} {b off n : Nat} {X : Nat → Int} (h : Cells w b off X n) (hb : Below w.heap.size w W) : Cells W b off X n := h.below hb

theorem imr_no (ao : Option Addr) (n cap : Nat) (f : Int) (w : World) (hn : n ≤ 100) (h : n < 2 ∨ f < 1 ∨ 12 < f) :
    Calls Tryd.prog 12 #[.slice ao n cap, .int .i64 f] w fun e w' => e = .returned (.bool false) ∧ Below w.heap.size w w' := by
  have h2 : decide ((n : Int) > 1204) = false := by simp; omega
  by_cases k1 : n < 2
  · have t1 : decide ((n : Int) < 2) = true := by simp; omega
    go_enter Tryd.func12, Tryd.ntmps12
    go_wp2
    go_ret
    exact ⟨rfl, Below.refl _ _⟩
  · have t1 : decide ((n : Int) < 2) = false := by simp; omega
    by_cases k2 : f < 1
    · have t2 : decide (f < 1) = true := by simp; omega
      go_enter Tryd.func12, Tryd.ntmps12
      go_wp2
      go_ret
      exact ⟨rfl, Below.refl _ _⟩
    · have t2 : decide (f < 1) = false := by simp; omega
      have t3 : decide (f > 12) = true := by simp; omega
      go_enter Tryd.func12, Tryd.ntmps12
      go_wp2
      go_ret
      exact ⟨rfl, Below.refl _ _⟩

theorem rising_zero (X : Nat → Int) : Rising X 0 := ⟨fun i h => absurd h (by omega), fun i h => absurd h (by omega)⟩
theorem rising_one {X : Nat → Int} (h : 1 ≤ X 0 ∧ X 0 ≤ 3652059) : Rising X 1 := ⟨fun i hi => (by omega : i = 0) ▸ h, fun i h => absurd h (by omega)⟩
theorem rising_more {X : Nat → Int} {k : Nat} (h : Rising X (k + 1)) (hd : 1 ≤ X (k + 1) ∧ X (k + 1) ≤ 3652059) (hl : X k ≤ X (k + 1)) : Rising X (k + 2) :=
  ⟨fun i hi => by
    by_cases e : i = k + 1
    · subst e; exact hd
    · exact h.1 i (by omega), fun i hi => by
    by_cases e : i = k
    · subst e; exact hl
    · exact h.2 i (by omega)⟩

set_option maxHeartbeats 4000000 in
set_option maxRecDepth 100000 in
theorem imr_any (b off m cap : Nat) (X : Nat → Int) (f : Int) (c : Bool) (w : World) (hm1 : 1 ≤ m) (hm : m < 100) (hf : 1 ≤ f ∧ f ≤ 12) (hC : Cells w b off X (m + 1)) (hc : c = true ↔ Rising X (m + 1) ∧ X 0 < X m) :
    Calls Tryd.prog 12 #[.slice (some ⟨b, off, none⟩) (m + 1) cap, .int .i64 f] w fun e w' => e = .returned (.bool c) ∧ Below w.heap.size w w' := by
  have HC := Lib.hid hC
  have HR := Lib.hid hc
  have CF : Hid (¬ Rising X (m + 1) → c = false) := Lib.hid (fun h => by cases c; rfl; exact absurd (hc.1 rfl).1 h)
  clear hC hc
  go_enter Tryd.func12, Tryd.ntmps12
  go_wp2_with fail
  go_loopw [6, 7] (fun i d wr => ∃ k : Nat, k ≤ m + 1 ∧ i = .int .i64 k ∧ Rising X k ∧ Below w.heap.size w wr) (fun i _ _ => m + 1 - (intOf i).toNat)
  case atStart => exact ⟨0, by omega, rfl, rising_zero X, Below.refl _ _⟩
  case round =>
    obtain ⟨k, hk, rfl, hR, hB⟩ := hrel
    have KR := Lib.hid hR
    have KB := Lib.hid hB
    have KC := Lib.hid (HC.out.kept hB)
    clear hR hB
    by_cases hlt : k < m + 1
    · have ck := KC.out k hlt
      by_cases hd : 1 ≤ X k ∧ X k ≤ 3652059
      · have D := Lib.hid (fun v => rday_is (X k) true v (by simpa using hd))
        match k, hk, KR, hlt, ck, hd, D with
        | 0, hk, KR, hlt, ck, hd, D =>
          rw [Nat.add_zero] at ck
          go_wp2_with fail
          (with_reducible refine (D.out _).mono ?_)
          rintro e w1 ⟨rfl, rfl⟩
          go_wp2_with fail
          go_quiet (fail)
          go_wp2
          go_roundw
          case rel => exact ⟨1, by omega, by go_num, rising_one hd, belowDrewN KB.out _⟩
          case measure => simp [intOf]
        | j + 1, hk, KR, hlt, ck, hd, D =>
          have cj := KC.out j (by omega)
          go_wp2_with fail
          (with_reducible refine (D.out _).mono ?_)
          rintro e w1 ⟨rfl, rfl⟩
          by_cases hl : X (j + 1) < X j
          · have t1 : decide (X (j + 1) < X j) = true := by simpa using hl
            go_wp2_with fail
            go_quiet (fail)
            go_wp2
            go_ret
            exact ⟨by rw [CF.out (fun h => absurd (h.2 j (by omega)) (by omega))]; rfl, belowDrewN KB.out _⟩
          · have t1 : decide (X (j + 1) < X j) = false := by simpa using hl
            go_wp2_with fail
            go_quiet (fail)
            go_wp2
            go_roundw
            case rel => exact ⟨j + 2, by omega, by go_num, rising_more KR.out hd (by omega), belowDrewN KB.out _⟩
            case measure => simp [intOf]; omega
      · have D := Lib.hid (fun v => rday_is (X k) false v (by simpa using hd))
        go_wp2_with fail
        (with_reducible refine (D.out _).mono ?_)
        rintro e w1 ⟨rfl, rfl⟩
        go_wp2_with fail
        go_quiet (fail)
        go_wp2
        go_ret
        exact ⟨by rw [CF.out (fun h => hd (h.1 k hlt))]; rfl, belowDrewN KB.out _⟩
    · obtain rfl : k = m + 1 := by omega
      have c0 := KC.out 0 (by omega)
      rw [Nat.add_zero] at c0
      have cm := KC.out m (by omega)
      have T : decide (X 0 < X m) = c := by
        cases c
        · rw [decide_eq_false_iff_not]
          intro k
          exact absurd (HR.out.2 ⟨KR.out, k⟩) (by decide)
        · rw [decide_eq_true_eq]
          exact (HR.out.1 rfl).2
      go_wp2_with fail
      go_quiet (fail)
      go_wp2
      go_ret
      exact ⟨rfl, belowDrewN KB.out _⟩

/-- A slice of days, of whatever length. -/
def RowAt (W : World) (ao : Option Addr) (X : Nat → Int) (n cap : Nat) : Prop := n ≤ cap ∧ (0 < n → ∃ b off, ao = some ⟨b, off, none⟩ ∧ Cells W b off X n)
theorem RowAt.below {W W' : World} {ao : Option Addr} {n cap : Nat} {X : Nat → Int} (h : RowAt W ao X n cap) (hb : Below W.heap.size W W') : RowAt W' ao X n cap :=
  ⟨h.1, fun hn => by obtain ⟨b, off, e, hc⟩ := h.2 hn; exact ⟨b, off, e, hc.below hb⟩⟩
def rowF (ao : Option Addr) (X : Nat → Int) (n cap : Nat) : Fact := .that (fun W => RowAt W ao X n cap) (fun _ _ hb h => h.below hb)
theorem Held.row {w W : World} {fs : List Fact} {ao : Option Addr} {X : Nat → Int} {n cap : Nat} (h : Held w fs W) (hm : rowF ao X n cap ∈ fs) : RowAt W ao X n cap := h.all _ hm

theorem imr_is (ao : Option Addr) (n cap : Nat) (X : Nat → Int) (f : Int) (c : Bool) (w : World) (hn : n ≤ 100) (hR : RowAt w ao X n cap) (hc : c = true ↔ MayX X n f) :
    Calls Tryd.prog 12 #[.slice ao n cap, .int .i64 f] w fun e w' => e = .returned (.bool c) ∧ Below w.heap.size w w' := by
  by_cases h : 2 ≤ n ∧ 1 ≤ f ∧ f ≤ 12
  · obtain ⟨b, off, rfl, hC⟩ := hR.2 (by omega)
    obtain ⟨m, rfl⟩ : ∃ m, n = m + 1 := ⟨n - 1, by omega⟩
    refine imr_any b off m cap X f c w (by omega) (by omega) h.2 hC (hc.trans ⟨fun k => ⟨k.2.2.2.1, k.2.2.2.2⟩, fun k => ⟨h.1, by omega, h.2, k.1, k.2⟩⟩)
  · have : c = false := by
      cases c
      · rfl
      · exact absurd (hc.1 rfl) (fun k => h ⟨k.1, k.2.2.1⟩)
    subst this
    exact imr_no ao n cap f w hn (by omega)
end Go.Proofs.YtcplfgmajbadmaaDoor
