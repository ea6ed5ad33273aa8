/- EasterRound: the walk. -/
import Derived.Test.YtlhopmipcibgcaaDoorEaShown
namespace Go.Proofs.YtlhopmipcibgcaaDoor
open Go.RowKit
set_option linter.unusedVariables false
set_option linter.unusedSimpArgs false

set_option maxHeartbeats 4000000 in
set_option maxRecDepth 100000 in
theorem eround_no (K : EWay) (y : Int) (w : World) (hL : FactsE w) (by0 : 0 ≤ y ∧ y < 65536) (hq : (1 + y % 9980) / 100 ≠ (1 + y % 9980 + 19) / 100) :
    Calls Tryd.prog 5 #[.int .u16 y] w fun e w' => e = .returned (.bool true) ∧ Below w.heap.size w w' := by
  have H := (Held.start w).add (f := factsEF) hL
  clear hL
  have t1 : ((1 + y % 9980) / 100 == (1 + y % 9980 + 19) / 100) = false := by simpa using hq
  have t2 : ((1 + y % 9980) / 100 != (1 + y % 9980 + 19) / 100) = true := by simpa using hq
  clear hq
  go_enter Tryd.func5, Tryd.ntmps5
  go_wp2_with fail
  (with_reducible refine (eshown_any K _ (H.factsE (List.Mem.head _))).mono ?_)
  rintro e w1 ⟨rfl, hb⟩
  replace H := H.below hb
  clear hb
  go_wp2_with fail
  go_ret
  exact ⟨rfl, H.old⟩

set_option maxHeartbeats 4000000 in
set_option maxRecDepth 100000 in
theorem eround_in (K : EWay) (y k E F A B P Q : Int) (w : World) (hL : FactsE w) (by0 : 0 ≤ y ∧ y < 65536) (hk : 1 + y % 9980 = k) (kb : 1 ≤ k ∧ k ≤ 9980) (hq : k / 100 = (k + 19) / 100) (he : EaIs k E 0) (hf : EaIs (k + 19) F 0) (ha : nN k 3 1 = A) (hb : nN (k + 19) 3 1 = B) (hp : E - A = P) (hr : F - B = Q) (bd : 1 ≤ A ∧ A ≤ 3652059 ∧ 1 ≤ B ∧ B ≤ 3652059 ∧ 0 ≤ P ∧ P ≤ 100 ∧ 0 ≤ Q ∧ Q ≤ 100) (q1 : P - Q < 7) (q2 : Q - P < 7) :
    Calls Tryd.prog 5 #[.int .u16 y] w fun e w' => e = .returned (.bool true) ∧ Below w.heap.size w w' := by
  have H := (Held.start w).add (f := factsEF) hL
  clear hL
  have t1 : ((1 + y % 9980) / 100 == (1 + y % 9980 + 19) / 100) = true := by rw [hk]; simpa using hq
  have t2 : ((1 + y % 9980) / 100 != (1 + y % 9980 + 19) / 100) = false := by rw [hk]; simpa using hq
  have d1 : decide (P - Q < 7) = true := decide_eq_true q1
  have d2 : decide (Q - P < 7) = true := decide_eq_true q2
  obtain rfl : E = A + P := by omega
  obtain rfl : F = B + Q := by omega
  clear hq q1 q2
  have HK := Lib.hid hk
  have HE := Lib.hid he
  have HF := Lib.hid hf
  have HA := Lib.hid ha
  have HB := Lib.hid hb
  have HP := Lib.hid hp
  have HR := Lib.hid hr
  clear hk he hf ha hb hp hr
  go_enter Tryd.func5, Tryd.ntmps5
  go_wp2_with fail
  (with_reducible refine (eshown_any K _ (H.factsE (List.Mem.head _))).mono ?_)
  rintro e w1 ⟨rfl, hb⟩
  replace H := H.below hb
  clear hb
  go_wp2_with fail
  rw [HK.out]
  (with_reducible refine (K.day k (A + P) 0 _ (H.factsE (List.Mem.head _)) HE.out).mono ?_)
  rintro e w2 ⟨rfl, hb⟩
  replace H := H.below hb
  clear hb
  go_wp2_with fail
  (with_reducible refine (K.day (k + 19) (B + Q) 0 _ (H.factsE (List.Mem.head _)) HF.out).mono ?_)
  rintro e w3 ⟨rfl, hb⟩
  replace H := H.below hb
  clear hb
  go_wp2_with fail
  (with_reducible refine (lday11_is k 3 1 A _ HA.out).mono ?_)
  rintro e w4 ⟨rfl, hb⟩
  replace H := H.below hb
  clear hb
  go_wp2_with fail
  rw [HP.out]
  (with_reducible refine (lday11_is (k + 19) 3 1 B _ HB.out).mono ?_)
  rintro e w5 ⟨rfl, hb⟩
  replace H := H.below hb
  clear hb
  have p1 := HP.out
  have p2 := HR.out
  go_wp2_with fail
  go_ret
  exact ⟨rfl, H.old⟩

theorem eround_walk (K : EWay) (y : Int) (w : World) (hL : FactsE w) (by0 : 0 ≤ y ∧ y < 65536) :
    Calls Tryd.prog 5 #[.int .u16 y] w fun e w' => e = .returned (.bool true) ∧ Below w.heap.size w w' := by
  obtain ⟨k, hk⟩ : ∃ k, 1 + y % 9980 = k := ⟨_, rfl⟩
  have kb : 1 ≤ k ∧ k ≤ 9980 := by omega
  by_cases hq : k / 100 = (k + 19) / 100
  · have a := (n_yes (may_march k 1 kb.1 (by omega) (by decide) (by decide))).1
    have b := (n_yes (may_march (k + 19) 1 (by omega) (by omega) (by decide) (by decide))).1
    have na := nb_bd k 3 1 (may_march k 1 kb.1 (by omega) (by decide) (by decide))
    have nc := nb_bd (k + 19) 3 1 (may_march (k + 19) 1 (by omega) (by omega) (by decide) (by decide))
    have f := eaN_19 k hq
    have c1 := ea_bd k
    have c2 := ea_bd (k + 19)
    have s1 := sun_bd (nb k 3 1 + eaN k)
    have s2 := sun_bd (nb (k + 19) 3 1 + eaN (k + 19))
    have h1 : east k = sun (nb k 3 1 + eaN k) := rfl
    have h2 : east (k + 19) = sun (nb (k + 19) 3 1 + eaN (k + 19)) := rfl
    exact eround_in K y k (east k) (east (k + 19)) _ _ _ _ w hL by0 hk kb hq (ea_in k kb.1 (by omega)) (ea_in (k + 19) (by omega) (by omega)) a b rfl rfl (by omega) (by omega) (by omega)
  · exact eround_no K y w hL by0 (by rw [hk]; exact hq)
end Go.Proofs.YtlhopmipcibgcaaDoor
