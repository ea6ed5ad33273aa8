/- EasterApart: the walk. -/
import Derived.Test.YtlhopmipcibgcaaDoorEaShown
namespace Go.Proofs.YtlhopmipcibgcaaDoor
open Go.RowKit
set_option linter.unusedVariables false
set_option linter.unusedSimpArgs false

set_option maxHeartbeats 4000000 in
set_option maxRecDepth 100000 in
theorem eapart_in (K : EWay) (y k E A D G : Int) (w : World) (hL : FactsE w) (by0 : 0 ≤ y ∧ y < 65536) (hk : 1 + y % 9998 = k) (kb : 1 ≤ k ∧ k ≤ 9998) (he : EaIs k E 0) (hf : EaIs (k + 1) (E + D) 0) (ha : nN k 3 22 = A) (hg : E - A = G) (bd : 1 ≤ E ∧ E ≤ 3652059 ∧ 1 ≤ A ∧ A ≤ 3652059) (d0 : 331 ≤ D ∧ D ≤ 400) (d7 : D % 7 = 0) (g0 : 0 ≤ G ∧ G ≤ 34) :
    Calls Tryd.prog 6 #[.int .u16 y] w fun e w' => e = .returned (.bool true) ∧ Below w.heap.size w w' := by
  have H := (Held.start w).add (f := factsEF) hL
  clear hL
  have t1 : (D % 7 == 0) = true := by simpa using d7
  have t2 : decide (D ≥ 331) = true := decide_eq_true d0.1
  have t3 : decide (D ≤ 400) = true := decide_eq_true d0.2
  have t4 : decide (G ≥ 0) = true := decide_eq_true g0.1
  have t5 : decide (G ≤ 34) = true := decide_eq_true g0.2
  have HS : Hid (E + D - E = D) := Lib.hid (by omega)
  have HK := Lib.hid hk
  have HE := Lib.hid he
  have HF := Lib.hid hf
  have HA := Lib.hid ha
  have HG := Lib.hid hg
  clear hk he hf ha hg
  go_enter Tryd.func6, Tryd.ntmps6
  go_wp2_with fail
  (with_reducible refine (eshown_any K _ (H.factsE (List.Mem.head _))).mono ?_)
  rintro e w1 ⟨rfl, hb⟩
  replace H := H.below hb
  clear hb
  go_wp2_with fail
  rw [HK.out]
  (with_reducible refine (K.day k E 0 _ (H.factsE (List.Mem.head _)) HE.out).mono ?_)
  rintro e w2 ⟨rfl, hb⟩
  replace H := H.below hb
  clear hb
  go_wp2_with fail
  (with_reducible refine (K.day (k + 1) (E + D) 0 _ (H.factsE (List.Mem.head _)) HF.out).mono ?_)
  rintro e w3 ⟨rfl, hb⟩
  replace H := H.below hb
  clear hb
  go_wp2_with fail
  try rw [HS.out]
  (with_reducible refine (lday11_is k 3 22 A _ HA.out).mono ?_)
  rintro e w4 ⟨rfl, hb⟩
  replace H := H.below hb
  clear hb
  have hg := HG.out
  go_wp2_with fail
  go_ret
  exact ⟨rfl, H.old⟩

theorem eapart_walk (K : EWay) (y : Int) (w : World) (hL : FactsE w) (by0 : 0 ≤ y ∧ y < 65536) :
    Calls Tryd.prog 6 #[.int .u16 y] w fun e w' => e = .returned (.bool true) ∧ Below w.heap.size w w' := by
  obtain ⟨k, hk⟩ : ∃ k, 1 + y % 9998 = k := ⟨_, rfl⟩
  have kb : 1 ≤ k ∧ k ≤ 9998 := by omega
  have m22 := may_march k 22 kb.1 (by omega) (by decide) (by decide)
  have a := (n_yes m22).1
  have nd := nb_bd k 3 22 m22
  have m1 := march k 1
  have m2 := march k 22
  have c1 := ea_bd k
  have c2 := ea_bd (k + 1)
  have mn := march_next k
  have w1 := sun_wk (nb k 3 1 + eaN k)
  have w2 := sun_wk (nb (k + 1) 3 1 + eaN (k + 1))
  have h1 : east k = sun (nb k 3 1 + eaN k) := rfl
  have h2 : east (k + 1) = sun (nb (k + 1) 3 1 + eaN (k + 1)) := rfl
  have e31 := nb_bd (k + 1) 3 1 (may_march (k + 1) 1 (by omega) (by omega) (by decide) (by decide))
  rw [← h1] at w1
  rw [← h2] at w2
  unfold wk at w1 w2
  refine eapart_in K y k (east k) _ (east (k + 1) - east k) _ w hL by0 hk kb (ea_in k kb.1 (by omega)) ?_ a rfl (by omega) (by omega) (by omega) (by omega)
  rw [show east k + (east (k + 1) - east k) = east (k + 1) by omega]
  exact ea_in (k + 1) (by omega) (by omega)
end Go.Proofs.YtlhopmipcibgcaaDoor
