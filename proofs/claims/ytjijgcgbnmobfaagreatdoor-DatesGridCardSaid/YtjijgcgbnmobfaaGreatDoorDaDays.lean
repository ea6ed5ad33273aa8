/- Package dates' Of in the days' own words; whether ends that stay or long stubs are asked turns no step. -/
import Derived.Test.YtjijgcgbnmobfaaGreatDoorDaShown
namespace Go.Proofs.YtjijgcgbnmobfaaGreatDoor
open Go.RowKit
set_option linter.unusedVariables false
set_option linter.unusedSimpArgs false

theorem of_dd (mo ra ki co st en ms : Int) (bk lg eo : Bool) (ro : Int) (X E : Nat → Int) (m q : Nat) (w : World) (hL : FactsT w) (hc : (Tm.mk mo ra ki co st en ms bk lg eo ro).code = 0) (ho : st < en) (hm : -100 ≤ ms ∧ ms ≤ 100) (hWk : (Tm.mk mo ra ki co st en ms bk lg eo ro).Walk X E m) (hq : (Tm.mk mo ra ki co st en ms bk lg eo ro).q X E m = q) :
    Calls Tryz.prog 14 #[.agg #[.int .i64 mo, .int .i64 ra, .int .i64 ki, .int .i64 co, .int .i64 st, .int .i64 en, .int .i64 ms, .bool bk, .bool lg, .bool eo, .int .i64 ro]] w fun e w' => ∃ ao cap, e = .returned (.tuple #[.slice ao (q + 1 + 1) cap, .int .i64 0]) ∧ DaysAt w' ao ((Tm.mk mo ra ki co st en ms bk lg eo ro).dd X q) (q + 1 + 1) cap ∧ Below w.heap.size w w' := by
  have hD := hWk.days_is ho
  rw [hq] at hD
  have h := of_yes mo ra ki co st en ms bk lg eo ro X E m _ w hL hc hm hWk hD
  rw [dl_len] at h
  refine h.mono ?_
  rintro e w' ⟨ao, cap, rfl, hd, hb⟩
  exact ⟨ao, cap, rfl, hd.ext (fun i hi => ld_dl hi), hb⟩
theorem Tm.Walk.long {t s : Tm} {X E : Nat → Int} {m : Nat} (h : t.Walk X E m) (h1 : s.st = t.st) (h2 : s.en = t.en) (h3 : s.ms = t.ms) (h4 : s.bk = t.bk) (h5 : s.eo = t.eo) : s.Walk X E m := by
  have ea : s.an = t.an := by unfold Tm.an; rw [h1, h2, h4]
  have ep : s.ap = t.ap := by unfold Tm.ap; rw [h3, h4]
  refine ⟨fun k => ?_, h.x0.trans ea.symm, h.e0, h.one, h.top, fun k a b => ?_, h.code, fun e => ?_, h.day, fun b => h.up (h4 ▸ b), fun b => h.down (h4 ▸ b)⟩
  · rw [ea, ep, h5]; exact h.mv k
  · rw [h1, h2]; exact h.mid k a b
  · rw [h1, h2]; exact h.last e
theorem mul_bd2 {k a : Int} (h0 : -1200 ≤ k) (h1 : k ≤ 1200) (h2 : 1 ≤ a) (h3 : a ≤ 12) : -20000 ≤ k * a ∧ k * a ≤ 20000 := by
  have x := Int.mul_le_mul_of_nonneg_right h1 (show 0 ≤ a by omega)
  have y := Int.mul_le_mul_of_nonneg_right h0 (show 0 ≤ a by omega)
  omega
end Go.Proofs.YtjijgcgbnmobfaaGreatDoor
