/- EasterSunday: the walk. -/
import Derived.Test.YtlhopmipcibgcaaDoorEaShown
namespace Go.Proofs.YtlhopmipcibgcaaDoor
open Go.RowKit
set_option linter.unusedVariables false
set_option linter.unusedSimpArgs false

set_option maxHeartbeats 4000000 in
set_option maxRecDepth 100000 in
theorem esunday_in (K : EWay) (y k E A B : Int) (w : World) (hL : FactsE w) (by0 : 0 ≤ y ∧ y < 65536) (hk : 1 + y % 9999 = k) (kb : 1 ≤ k ∧ k ≤ 9999) (he : EaIs k E 0) (hw : wk E = 6) (ha : nN k 3 22 = A) (hb : nN k 4 25 = B) (e1 : A ≤ E) (e2 : E ≤ B) :
    Calls Tryd.prog 4 #[.int .u16 y] w fun e w' => e = .returned (.bool true) ∧ Below w.heap.size w w' := by
  have H := (Held.start w).add (f := factsEF) hL
  clear hL
  have HK := Lib.hid hk
  have HE := Lib.hid he
  have HW := Lib.hid hw
  have HA := Lib.hid ha
  have HB := Lib.hid hb
  clear hk he hw ha hb
  go_enter Tryd.func4, Tryd.ntmps4
  go_wp2_with fail
  (with_reducible refine (eshown_any K _ (H.factsE (List.Mem.head _))).mono ?_)
  rintro e w1 ⟨rfl, hb⟩
  replace H := H.below hb
  clear hb
  go_wp2_with fail
  rw [HK.out]
  (with_reducible refine (K.day k E 0 _ (H.factsE (List.Mem.head _)) HE.out).mono ?_)
  rintro e w2 ⟨rfl, hb⟩
  replace H := H.below hb
  clear hb
  go_wp2_with fail
  (with_reducible refine (rweek_is E 6 _ HW.out).mono ?_)
  rintro e w3 ⟨rfl, hb⟩
  replace H := H.below hb
  clear hb
  go_wp2_with fail
  (with_reducible refine (lday11_is k 3 22 A _ HA.out).mono ?_)
  rintro e w4 ⟨rfl, hb⟩
  replace H := H.below hb
  clear hb
  go_wp2_with fail
  (with_reducible refine (lday11_is k 4 25 B _ HB.out).mono ?_)
  rintro e w5 ⟨rfl, hb⟩
  replace H := H.below hb
  clear hb
  go_wp2_with fail
  go_ret
  exact ⟨rfl, H.old⟩

theorem esunday_walk (K : EWay) (y : Int) (w : World) (hL : FactsE w) (by0 : 0 ≤ y ∧ y < 65536) :
    Calls Tryd.prog 4 #[.int .u16 y] w fun e w' => e = .returned (.bool true) ∧ Below w.heap.size w w' := by
  obtain ⟨k, hk⟩ : ∃ k, 1 + y % 9999 = k := ⟨_, rfl⟩
  have kb : 1 ≤ k ∧ k ≤ 9999 := by omega
  have a := (n_yes (may_march k 22 kb.1 kb.2 (by decide) (by decide))).1
  have b := (n_yes (may_april k kb.1 kb.2)).1
  have c := ea_bd k
  have m1 := march k 1
  have m2 := march k 22
  have m3 := march k 56
  have m4 := march_31 k
  exact esunday_in K y k (east k) _ _ w hL by0 hk kb (ea_in k kb.1 kb.2) (sun_wk _) a b (by omega) (by omega)
end Go.Proofs.YtlhopmipcibgcaaDoor
