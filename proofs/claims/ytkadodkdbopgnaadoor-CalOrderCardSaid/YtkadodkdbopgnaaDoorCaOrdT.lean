/- CalOrder: the walk, a case (true). -/
import Derived.Test.YtkadodkdbopgnaaDoorCaOrdA
import Derived.Deep.RegionHeld3
import Derived.BigRegion
namespace Go.Proofs.YtkadodkdbopgnaaDoor
open Go.RowKit
set_option linter.unusedVariables false
set_option linter.unusedSimpArgs false


set_option maxHeartbeats 16000000 in
set_option maxRecDepth 100000 in
theorem caorder_t (K : CalWay) (c : Ca) (bR oR : Nat) (cR : Nat) (aD : Option Addr) (cD : Nat) (i j n : Int) (w : World) (hL : FactsV w) (hCc : CalAt w c (some ⟨bR, oR, none⟩) cR aD cD) (bi : 0 ≤ i ∧ i < 256) (bj : 0 ≤ j ∧ j < 256) (hf : decide (c.nr ≤ 12 ∧ c.nd ≤ 60) = true) (sn : c.nr ≤ 12) (hz : c.Small) (ma : c.May) (s1 : 1 ≤ c.nr) (hR : RCells w bR oR c.R c.nr) (x y : Nat) (xl : x < c.nr) (yl : y < c.nr) (hx : i % (c.nr : Int) = (x : Int)) (hy : j % (c.nr : Int) = (y : Int)) (hp : c.Is n) (ms : (c.swap x y).May) (hs : (c.swap x y).Is n) (mp : (c.plus (c.R x)).May) (zp : (c.plus (c.R x)).Small) (hq : (c.plus (c.R x)).Is n) :
    Calls Tryd.prog 9 #[.agg #[.bool (c.o 0), .bool (c.o 1), .bool (c.o 2), .bool (c.o 3), .bool (c.o 4), .bool (c.o 5), .bool (c.o 6), .slice (some ⟨bR, oR, none⟩) c.nr cR, .slice aD c.nd cD, .int .u8 i, .int .u8 j, .int .i64 n]] w fun e w' => e = .returned (.bool true) ∧ Below w.heap.size w w' := by
  have H := ((Held.start w).add (f := factsVF) hL).add (f := calF c (some ⟨bR, oR, none⟩) cR aD cD) hCc
  have HL0 : Hid (FactsV w ∧ CalAt w c (some ⟨bR, oR, none⟩) cR aD cD) := Lib.hid ⟨hL, hCc⟩
  obtain ⟨e0, e1, e2, e3, e4, e5, e6, e7⟩ := hR x xl
  have lR := World.block_lt_of_cell? w _ e0
  simp only at lR
  replace H := H.add (f := .cell (bR) (oR + x * 8) (.int .i64 (c.R x).k)) e0
  replace H := H.add (f := .cell (bR) (oR + x * 8 + 1) (.int .i64 (c.R x).m)) e1
  replace H := H.add (f := .cell (bR) (oR + x * 8 + 2) (.int .i64 (c.R x).d)) e2
  replace H := H.add (f := .cell (bR) (oR + x * 8 + 3) (.int .i64 (c.R x).q)) e3
  replace H := H.add (f := .cell (bR) (oR + x * 8 + 4) (.int .i64 (c.R x).o)) e4
  replace H := H.add (f := .cell (bR) (oR + x * 8 + 5) (.int .i64 (c.R x).s)) e5
  replace H := H.add (f := .cell (bR) (oR + x * 8 + 6) (.int .i64 (c.R x).f)) e6
  replace H := H.add (f := .cell (bR) (oR + x * 8 + 7) (.int .i64 (c.R x).t)) e7
  clear hL hCc hR e0 e1 e2 e3 e4 e5 e6 e7
  have HF := Lib.hid hf
  have HZ := Lib.hid hz
  have MA := Lib.hid ma
  have HP := Lib.hid hp
  have MS := Lib.hid ms
  have HS0 := Lib.hid hs
  have MP := Lib.hid mp
  have ZP := Lib.hid zp
  have HQ := Lib.hid hq
  clear hf hz ma hp ms hs mp zp hq
  go_enter Tryd.func9, Tryd.ntmps9
  go_wp2_with fail
  replace H := ((H.box_12 (w.heap.size) (.bool (c.o 0)) (.bool (c.o 1)) (.bool (c.o 2)) (.bool (c.o 3)) (.bool (c.o 4)) (.bool (c.o 5)) (.bool (c.o 6)) (.slice (some ⟨bR, oR, none⟩) c.nr cR) (.slice aD c.nd cD) (.int .u8 i) (.int .u8 j) (.int .i64 n) 58 rfl).box_9 (w.heap.size + 1) (.bool (c.o 0)) (.bool (c.o 1)) (.bool (c.o 2)) (.bool (c.o 3)) (.bool (c.o 4)) (.bool (c.o 5)) (.bool (c.o 6)) (.slice (some ⟨bR, oR, none⟩) c.nr cR) (.slice aD c.nd cD) 26 (by simp))
  (with_reducible refine (cashown_any K _ (H.factsV (mt32 (mt8 (mt8 (mt1 (mt1 (mt1 mh)))))))).mono ?_)
  rintro e w1 ⟨rfl, hb⟩
  replace H := H.below hb
  clear hb
  have cc0 := H.cell (w.heap.size + 1) 0 (.bool (c.o 0)) mh
  have cc1 := H.cell (w.heap.size + 1) 1 (.bool (c.o 1)) (mt1 mh)
  have cc2 := H.cell (w.heap.size + 1) 2 (.bool (c.o 2)) (mt1 (mt1 mh))
  have cc3 := H.cell (w.heap.size + 1) 3 (.bool (c.o 3)) (mt1 (mt1 (mt1 mh)))
  have cc4 := H.cell (w.heap.size + 1) 4 (.bool (c.o 4)) (mt1 (mt1 (mt1 (mt1 mh))))
  have cc5 := H.cell (w.heap.size + 1) 5 (.bool (c.o 5)) (mt1 (mt1 (mt1 (mt1 (mt1 mh)))))
  have cc6 := H.cell (w.heap.size + 1) 6 (.bool (c.o 6)) (mt1 (mt1 (mt1 (mt1 (mt1 (mt1 mh))))))
  have cc7 := H.cell (w.heap.size + 1) 7 (.slice (some ⟨bR, oR, none⟩) c.nr cR) (mt1 (mt1 (mt1 (mt1 (mt1 (mt1 (mt1 mh)))))))
  have cc8 := H.cell (w.heap.size + 1) 8 (.slice aD c.nd cD) (mt8 mh)
  have lc := H.lt (w.heap.size + 1) 0 (.bool (c.o 0)) mh
  go_wp2_with fail
  clear cc0 cc1 cc2 cc3 cc4 cc5 cc6 cc7 cc8 lc
  (with_reducible refine (few_any c (some ⟨bR, oR, none⟩) cR aD cD true _ HF.out).mono ?_)
  rintro e w2 ⟨rfl, hb⟩
  replace H := H.below hb
  clear hb
  have cc0 := H.cell (w.heap.size + 1) 0 (.bool (c.o 0)) mh
  have cc1 := H.cell (w.heap.size + 1) 1 (.bool (c.o 1)) (mt1 mh)
  have cc2 := H.cell (w.heap.size + 1) 2 (.bool (c.o 2)) (mt1 (mt1 mh))
  have cc3 := H.cell (w.heap.size + 1) 3 (.bool (c.o 3)) (mt1 (mt1 (mt1 mh)))
  have cc4 := H.cell (w.heap.size + 1) 4 (.bool (c.o 4)) (mt1 (mt1 (mt1 (mt1 mh))))
  have cc5 := H.cell (w.heap.size + 1) 5 (.bool (c.o 5)) (mt1 (mt1 (mt1 (mt1 (mt1 mh)))))
  have cc6 := H.cell (w.heap.size + 1) 6 (.bool (c.o 6)) (mt1 (mt1 (mt1 (mt1 (mt1 (mt1 mh))))))
  have cc7 := H.cell (w.heap.size + 1) 7 (.slice (some ⟨bR, oR, none⟩) c.nr cR) (mt1 (mt1 (mt1 (mt1 (mt1 (mt1 (mt1 mh)))))))
  have cc8 := H.cell (w.heap.size + 1) 8 (.slice aD c.nd cD) (mt8 mh)
  have lc := H.lt (w.heap.size + 1) 0 (.bool (c.o 0)) mh
  go_wp2_with fail
  clear cc0 cc1 cc2 cc3 cc4 cc5 cc6 cc7 cc8 lc
  (with_reducible refine (rcmay_any c (some ⟨bR, oR, none⟩) cR aD cD true _ HZ.out (H.cal (mt32 (mt8 (mt8 (mt1 (mt1 mh)))))) ⟨fun _ => MA.out, fun _ => rfl⟩).mono ?_)
  rintro e w3 ⟨rfl, hb⟩
  replace H := H.below hb
  clear hb
  have sox := H.lt (w.heap.size) 0 (.bool (c.o 0)) (mt8 (mt8 (mt1 (mt1 mh))))
  have soc := H.lt (w.heap.size + 1) 0 (.bool (c.o 0)) mh
  have cc0 := H.cell (w.heap.size + 1) 0 (.bool (c.o 0)) mh
  have cc1 := H.cell (w.heap.size + 1) 1 (.bool (c.o 1)) (mt1 mh)
  have cc2 := H.cell (w.heap.size + 1) 2 (.bool (c.o 2)) (mt1 (mt1 mh))
  have cc3 := H.cell (w.heap.size + 1) 3 (.bool (c.o 3)) (mt1 (mt1 (mt1 mh)))
  have cc4 := H.cell (w.heap.size + 1) 4 (.bool (c.o 4)) (mt1 (mt1 (mt1 (mt1 mh))))
  have cc5 := H.cell (w.heap.size + 1) 5 (.bool (c.o 5)) (mt1 (mt1 (mt1 (mt1 (mt1 mh)))))
  have cc6 := H.cell (w.heap.size + 1) 6 (.bool (c.o 6)) (mt1 (mt1 (mt1 (mt1 (mt1 (mt1 mh))))))
  have cc7 := H.cell (w.heap.size + 1) 7 (.slice (some ⟨bR, oR, none⟩) c.nr cR) (mt1 (mt1 (mt1 (mt1 (mt1 (mt1 (mt1 mh)))))))
  have cc8 := H.cell (w.heap.size + 1) 8 (.slice aD c.nd cD) (mt8 mh)
  have lc := H.lt (w.heap.size + 1) 0 (.bool (c.o 0)) mh
  go_upto_region 11 with fail
  clear cc0 cc1 cc2 cc3 cc4 cc5 cc6 cc7 cc8 lc
  replace H := (H.box_9 (w3.heap.size) (.bool (c.o 0)) (.bool (c.o 1)) (.bool (c.o 2)) (.bool (c.o 3)) (.bool (c.o 4)) (.bool (c.o 5)) (.bool (c.o 6)) (.slice (some ⟨bR, oR, none⟩) c.nr cR) (.slice aD c.nd cD) 26 rfl)
  generalize w3.alloc (.cells #[.bool (c.o 0), .bool (c.o 1), .bool (c.o 2), .bool (c.o 3), .bool (c.o 4), .bool (c.o 5), .bool (c.o 6), .slice (some ⟨bR, oR, none⟩) c.nr cR, .slice aD c.nd cD] 26) = W1 at H ⊢
  have ld := H.lt (w3.heap.size) 0 (.bool (c.o 0)) mh
  obtain ⟨i0, hi, hz0, hz1, hz2⟩ := info_parts infoRule
  have own := World.ownsRow_made W1 (base := W1.heap.size) (e := 51) (size := 8) #[] 0 (Nat.le_refl _) (Nat.zero_le _) rfl
  have B1 : Below W1.heap.size W1 (W1.alloc (.cells #[] 51)) := (Below.refl _ _).alloc (Nat.le_refl _) _
  obtain ⟨v1, w1, hr, ho, hg⟩ := app13 W1.heap.size 23 23 51 i0 (.agg #[.int .i64 0, .int .i64 0, .int .i64 0, .int .i64 0, .int .i64 0, .int .i64 0, .int .i64 0, .int .i64 0]) 8 64 Tryd.underlying23 hi hz0 hz1 hz2 rfl (by decide) _ _ _ own (some ⟨bR, oR, none⟩) c.nr cR (rl c.R c.nr) ((row_rules (H.cal (mt32 (mt32 (mt1 (mt1 (mt1 (mt1 mh))))))).1).below B1) (by omega) (by decide) (by simp)
  rw [Nat.zero_add, List.nil_append] at ho
  have B2 := B1.trans (grown_own (by simp) own hg)
  have hv : v1 ≠ .slice none 0 0 := fun e => by
    rcases ho.2 with ⟨_, e2⟩ | ⟨g, cap, cur, e2, _⟩
    · omega
    · rw [e] at e2; cases e2
  rcases ho.2 with ⟨e, _⟩ | ⟨gN, kN, cur, rfl, hbN, _, _, _, _, _⟩
  · exact absurd e hv
  obtain ⟨aN, kN2, eN, hN⟩ := own_rules ho
  injection eN with e1 _ e3
  subst e1 e3
  have fN : ∀ k, w1.frozen? ⟨gN, k, none⟩ = false := fun k => World.ownsRow.frozenAt ho k
  have H2 := H.below B2
  have s1 := H2.cell (w3.heap.size) 7 (.slice (some ⟨bR, oR, none⟩) c.nr cR) (mt1 (mt1 (mt1 (mt1 (mt1 (mt1 (mt1 mh)))))))
  have s2 := H2.frozen (w3.heap.size) 7 (mt8 (mt8 mh))
  have HR := Lib.hid hr
  have HN := Lib.hid hN
  have HFN := Lib.hid fN
  have HHH := Lib.hid H2
  clear hr ho hg own B1 hN fN H2 hv
  have cc0 := H.cell (w.heap.size + 1) 0 (.bool (c.o 0)) (mt8 (mt8 (mt1 (mt1 mh))))
  have cc1 := H.cell (w.heap.size + 1) 1 (.bool (c.o 1)) (mt8 (mt8 (mt1 (mt1 (mt1 mh)))))
  have cc2 := H.cell (w.heap.size + 1) 2 (.bool (c.o 2)) (mt8 (mt8 (mt1 (mt1 (mt1 (mt1 mh))))))
  have cc3 := H.cell (w.heap.size + 1) 3 (.bool (c.o 3)) (mt8 (mt8 (mt1 (mt1 (mt1 (mt1 (mt1 mh)))))))
  have cc4 := H.cell (w.heap.size + 1) 4 (.bool (c.o 4)) (mt8 (mt8 (mt1 (mt1 (mt1 (mt1 (mt1 (mt1 mh))))))))
  have cc5 := H.cell (w.heap.size + 1) 5 (.bool (c.o 5)) (mt8 (mt8 (mt1 (mt1 (mt1 (mt1 (mt1 (mt1 (mt1 mh)))))))))
  have cc6 := H.cell (w.heap.size + 1) 6 (.bool (c.o 6)) (mt8 (mt8 (mt8 mh)))
  have cc7 := H.cell (w.heap.size + 1) 7 (.slice (some ⟨bR, oR, none⟩) c.nr cR) (mt8 (mt8 (mt8 (mt1 mh))))
  have cc8 := H.cell (w.heap.size + 1) 8 (.slice aD c.nd cD) (mt8 (mt8 (mt8 (mt1 (mt1 mh)))))
  have lc := H.lt (w.heap.size + 1) 0 (.bool (c.o 0)) (mt8 (mt8 (mt1 (mt1 mh))))
  go_wp2_with (first
    | (at_builtin; refine Lib.wpList_append_run _ rfl _ _ _ _ rfl _ _ rfl rfl _ _ HR.out ?_)
    | go_in)
  have ld0 := HHH.out.lt (w3.heap.size) 0 (.bool (c.o 0)) mh
  have H3 : Held w (.is (w3.heap.size) 7 :: .cell (w3.heap.size) 0 (.bool (c.o 0)) :: .cell (w3.heap.size) 1 (.bool (c.o 1)) :: .cell (w3.heap.size) 2 (.bool (c.o 2)) :: .cell (w3.heap.size) 3 (.bool (c.o 3)) :: .cell (w3.heap.size) 4 (.bool (c.o 4)) :: .cell (w3.heap.size) 5 (.bool (c.o 5)) :: .cell (w3.heap.size) 6 (.bool (c.o 6)) :: .cell (w3.heap.size) 8 (.slice aD c.nd cD) :: .free (w3.heap.size) 0 :: .free (w3.heap.size) 1 :: .free (w3.heap.size) 2 :: .free (w3.heap.size) 3 :: .free (w3.heap.size) 4 :: .free (w3.heap.size) 5 :: .free (w3.heap.size) 6 :: .free (w3.heap.size) 7 :: .free (w3.heap.size) 8 :: .cell (w.heap.size + 1) 0 (.bool (c.o 0)) :: .cell (w.heap.size + 1) 1 (.bool (c.o 1)) :: .cell (w.heap.size + 1) 2 (.bool (c.o 2)) :: .cell (w.heap.size + 1) 3 (.bool (c.o 3)) :: .cell (w.heap.size + 1) 4 (.bool (c.o 4)) :: .cell (w.heap.size + 1) 5 (.bool (c.o 5)) :: .cell (w.heap.size + 1) 6 (.bool (c.o 6)) :: .cell (w.heap.size + 1) 7 (.slice (some ⟨bR, oR, none⟩) c.nr cR) :: .cell (w.heap.size + 1) 8 (.slice aD c.nd cD) :: .free (w.heap.size + 1) 0 :: .free (w.heap.size + 1) 1 :: .free (w.heap.size + 1) 2 :: .free (w.heap.size + 1) 3 :: .free (w.heap.size + 1) 4 :: .free (w.heap.size + 1) 5 :: .free (w.heap.size + 1) 6 :: .free (w.heap.size + 1) 7 :: .free (w.heap.size + 1) 8 :: .cell (w.heap.size) 0 (.bool (c.o 0)) :: .cell (w.heap.size) 1 (.bool (c.o 1)) :: .cell (w.heap.size) 2 (.bool (c.o 2)) :: .cell (w.heap.size) 3 (.bool (c.o 3)) :: .cell (w.heap.size) 4 (.bool (c.o 4)) :: .cell (w.heap.size) 5 (.bool (c.o 5)) :: .cell (w.heap.size) 6 (.bool (c.o 6)) :: .cell (w.heap.size) 7 (.slice (some ⟨bR, oR, none⟩) c.nr cR) :: .cell (w.heap.size) 8 (.slice aD c.nd cD) :: .cell (w.heap.size) 9 (.int .u8 i) :: .cell (w.heap.size) 10 (.int .u8 j) :: .cell (w.heap.size) 11 (.int .i64 n) :: .free (w.heap.size) 0 :: .free (w.heap.size) 1 :: .free (w.heap.size) 2 :: .free (w.heap.size) 3 :: .free (w.heap.size) 4 :: .free (w.heap.size) 5 :: .free (w.heap.size) 6 :: .free (w.heap.size) 7 :: .free (w.heap.size) 8 :: .free (w.heap.size) 9 :: .free (w.heap.size) 10 :: .free (w.heap.size) 11 :: .cell (bR) (oR + x * 8 + 7) (.int .i64 (c.R x).t) :: .cell (bR) (oR + x * 8 + 6) (.int .i64 (c.R x).f) :: .cell (bR) (oR + x * 8 + 5) (.int .i64 (c.R x).s) :: .cell (bR) (oR + x * 8 + 4) (.int .i64 (c.R x).o) :: .cell (bR) (oR + x * 8 + 3) (.int .i64 (c.R x).q) :: .cell (bR) (oR + x * 8 + 2) (.int .i64 (c.R x).d) :: .cell (bR) (oR + x * 8 + 1) (.int .i64 (c.R x).m) :: .cell (bR) (oR + x * 8) (.int .i64 (c.R x).k) :: calF c (some ⟨bR, oR, none⟩) cR aD cD :: factsVF :: []) w1 := (HHH.out.is (w3.heap.size) 7 (.slice (some ⟨bR, oR, none⟩) c.nr cR) (mt1 (mt1 (mt1 (mt1 (mt1 (mt1 (mt1 mh)))))))).erase13 8
  replace H3 := H3.setc (w3.heap.size) 7 (.slice (some ⟨gN, 0, none⟩) c.nr kN) (by omega) (fun f hf => by
    simp only [List.mem_cons, List.not_mem_nil, or_false] at hf
    rcases hf with rfl | rfl | rfl | rfl | rfl | rfl | rfl | rfl | rfl | rfl | rfl | rfl | rfl | rfl | rfl | rfl | rfl | rfl | rfl | rfl | rfl | rfl | rfl | rfl | rfl | rfl | rfl | rfl | rfl | rfl | rfl | rfl | rfl | rfl | rfl | rfl | rfl | rfl | rfl | rfl | rfl | rfl | rfl | rfl | rfl | rfl | rfl | rfl | rfl | rfl | rfl | rfl | rfl | rfl | rfl | rfl | rfl | rfl | rfl | rfl | rfl | rfl | rfl | rfl | rfl | rfl | rfl | rfl | rfl | rfl
    all_goals first
      | exact Or.inl trivial
      | exact Or.inl (Or.inr (by decide))
      | exact Or.inl (Or.inl (by omega))
      | exact Or.inr HL0.out.1
      | exact Or.inr HL0.out.2)
  have hN2 := RulesAt.set1 HN.out (w3.heap.size) 7 (.slice (some ⟨gN, 0, none⟩) c.nr kN) (fun p hp => by
    injection hp with hp
    subst hp
    show gN ≠ _
    omega)
  have q7 := World.cell?_setCell_same' w1 ⟨w3.heap.size, 7, none⟩ (.slice (some ⟨gN, 0, none⟩) c.nr kN) (by rw [s1]; rfl)
  have fr : ∀ k, (w1.setCell ⟨w3.heap.size, 7, none⟩ (.slice (some ⟨gN, 0, none⟩) c.nr kN)).frozen? ⟨gN, k, none⟩ = false := fun k => (World.frozen?_setCell _ _ _ _).trans (HFN.out k)
  clear s1 s2 HR HN HFN HHH B2
  generalize World.setCell w1 _ _ = W9 at H3 hN2 q7 fr ⊢
  have H := (H3.add (f := .cell (w3.heap.size) 7 (.slice (some ⟨gN, 0, none⟩) c.nr kN)) q7).drew
  replace hN2 : RulesAt W9.drew (some ⟨gN, 0, none⟩) c.R c.nr kN := hN2.below (Below.drew (Below.refl _ _))
  replace fr : ∀ k, W9.drew.frozen? ⟨gN, k, none⟩ = false := fr
  replace q7 : W9.drew.cell? ⟨w3.heap.size, 7, none⟩ = some (.slice (some ⟨gN, 0, none⟩) c.nr kN) := q7
  clear H3
  have hsz : (Tryd.prog.info? 51).map (·.size) = some 8 := by
    rw [hi]
    exact congrArg some hz1
  have HN29 := Lib.hid hN2
  have FR9 := Lib.hid fr
  have HSZ9 := Lib.hid hsz
  have H9 := Lib.hid H
  have HQ7 := Lib.hid q7
  clear hN2 fr hsz H hi hz0 hz1 hz2
  refine wp_region_held_drew (S := fun w' => w'.cell? ⟨w3.heap.size, 7, none⟩ = some (.slice (some ⟨gN, 0, none⟩) c.nr kN)) (by kernel_rfl) q7 (fun hHeld => ?_)
  clear q7
  refine wpAnyH_take (i := 0) (oi := ⟨some 55, _, _, _, _, _⟩) (v := ?_) rfl (by kernel_rfl) (by kernel_rfl) (by kernel_rfl) (fun _ _ _ h => h) (Or.inl ⟨by rfl, ?_⟩) (by assumption) ?_
  rotate_left
  · intro w hSw; (try dsimp only at hSw); go_simp; try with_reducible rfl
  simp only [Act.put, List.setIfInBounds_toArray, List.set_cons_zero, List.set_cons_succ]
  refine wpAnyH_take (i := 1) (oi := ⟨some 56, _, _, _, _, _⟩) (v := ?_) rfl (by kernel_rfl) (by kernel_rfl) (by kernel_rfl) (fun _ _ _ h => h) (Or.inl ⟨by rfl, ?_⟩) (by assumption) ?_
  rotate_left
  · intro w hSw; (try dsimp only at hSw); go_simp; try with_reducible rfl
  simp only [Act.put, List.setIfInBounds_toArray, List.set_cons_zero, List.set_cons_succ]
  refine wpAnyH_take (i := 2) (oi := ⟨some 57, _, _, _, _, _⟩) (v := ?_) rfl (by kernel_rfl) (by kernel_rfl) (by kernel_rfl) (fun _ _ _ h => h) (Or.inl ⟨by rfl, ?_⟩) (by assumption) ?_
  rotate_left
  · intro w hSw; (try dsimp only at hSw); go_simp; try with_reducible rfl
  simp only [Act.put, List.setIfInBounds_toArray, List.set_cons_zero, List.set_cons_succ]
  refine wpAnyH_take (i := 3) (oi := ⟨some 58, _, _, _, _, _⟩) (v := ?_) rfl (by kernel_rfl) (by kernel_rfl) (by kernel_rfl) (fun _ _ _ h => h) (Or.inl ⟨by rfl, ?_⟩) (by assumption) ?_
  rotate_left
  · intro w hSw; (try dsimp only at hSw); go_simp; try with_reducible rfl
  simp only [Act.put, List.setIfInBounds_toArray, List.set_cons_zero, List.set_cons_succ]
  refine wpAnyH_take (i := 4) (oi := ⟨some 59, _, _, _, _, _⟩) (v := ?_) rfl (by kernel_rfl) (by kernel_rfl) (by kernel_rfl) (fun _ _ _ h => h) (Or.inl ⟨by rfl, ?_⟩) (by assumption) ?_
  rotate_left
  · intro w hSw; (try dsimp only at hSw); go_simp; try with_reducible rfl
  simp only [Act.put, List.setIfInBounds_toArray, List.set_cons_zero, List.set_cons_succ]
  refine wpAnyH_take (i := 5) (oi := ⟨some 60, _, _, _, _, _⟩) (v := ?_) rfl (by kernel_rfl) (by kernel_rfl) (by kernel_rfl) (fun _ _ _ h => h) (Or.inl ⟨by rfl, ?_⟩) (by assumption) ?_
  rotate_left
  · intro w hSw; (try dsimp only at hSw); go_simp; try with_reducible rfl
  simp only [Act.put, List.setIfInBounds_toArray, List.set_cons_zero, List.set_cons_succ]
  refine wpAnyH_take (i := 6) (oi := ⟨some 61, _, _, _, _, _⟩) (v := ?_) rfl (by kernel_rfl) (by kernel_rfl) (by kernel_rfl) (fun _ _ _ h => h) (Or.inl ⟨by rfl, ?_⟩) (by assumption) ?_
  rotate_left
  · intro w hSw; (try dsimp only at hSw); go_simp; try with_reducible rfl
  simp only [Act.put, List.setIfInBounds_toArray, List.set_cons_zero, List.set_cons_succ]
  refine wpAnyH_take (i := 7) (oi := ⟨some 62, _, _, _, _, _⟩) (v := ?_) rfl (by kernel_rfl) (by kernel_rfl) (by kernel_rfl) (fun _ _ _ h => h) (Or.inl ⟨by rfl, ?_⟩) (by assumption) ?_
  rotate_left
  · intro w hSw; (try dsimp only at hSw); go_simp; try with_reducible rfl
  simp only [Act.put, List.setIfInBounds_toArray, List.set_cons_zero, List.set_cons_succ]
  refine wpAnyH_take (i := 8) (oi := ⟨some 63, _, _, _, _, _⟩) (v := ?_) rfl (by kernel_rfl) (by kernel_rfl) (by kernel_rfl) (fun _ _ _ h => h) (Or.inl ⟨by rfl, ?_⟩) (by assumption) ?_
  rotate_left
  · intro w hSw; (try dsimp only at hSw); go_simp; try with_reducible rfl
  simp only [Act.put, List.setIfInBounds_toArray, List.set_cons_zero, List.set_cons_succ]
  refine wpAnyH_take (i := 9) (oi := ⟨some 64, _, _, _, _, _⟩) (v := ?_) rfl (by kernel_rfl) (by kernel_rfl) (by kernel_rfl) (fun _ _ _ h => h) (Or.inl ⟨by rfl, ?_⟩) (by assumption) ?_
  rotate_left
  · intro w hSw; (try dsimp only at hSw); go_simp; try with_reducible rfl
  simp only [Act.put, List.setIfInBounds_toArray, List.set_cons_zero, List.set_cons_succ]
  refine wpAnyH_take (i := 11) (oi := ⟨some 66, _, _, _, _, _⟩) (v := ?_) rfl (by kernel_rfl) (by kernel_rfl) (by kernel_rfl) (fun _ _ _ h => h) (Or.inl ⟨by rfl, ?_⟩) (by assumption) ?_
  rotate_left
  · intro w hSw; (try dsimp only at hSw); go_simp; try with_reducible rfl
  simp only [Act.put, List.setIfInBounds_toArray, List.set_cons_zero, List.set_cons_succ]
  refine wpAnyH_take (i := 12) (oi := ⟨some 67, _, _, _, _, _⟩) (v := ?_) rfl (by kernel_rfl) (by kernel_rfl) (by kernel_rfl) (fun _ _ _ h => h) (Or.inl ⟨by rfl, ?_⟩) (by assumption) ?_
  rotate_left
  · intro w hSw; (try dsimp only at hSw); go_simp; try with_reducible rfl
  simp only [Act.put, List.setIfInBounds_toArray, List.set_cons_zero, List.set_cons_succ]
  refine wpAnyH_take (i := 13) (oi := ⟨some 68, _, _, _, _, _⟩) (v := ?_) rfl (by kernel_rfl) (by kernel_rfl) (by kernel_rfl) (fun _ _ _ h => h) (Or.inl ⟨by rfl, ?_⟩) (by assumption) ?_
  rotate_left
  · intro w hSw; (try dsimp only at hSw); go_simp; try with_reducible rfl
  simp only [Act.put, List.setIfInBounds_toArray, List.set_cons_zero, List.set_cons_succ]
  refine wpAnyH_take (i := 14) (oi := ⟨some 69, _, _, _, _, _⟩) (v := ?_) rfl (by kernel_rfl) (by kernel_rfl) (by kernel_rfl) (fun _ _ _ h => h) (Or.inl ⟨by rfl, ?_⟩) (by assumption) ?_
  rotate_left
  · intro w hSw; (try dsimp only at hSw); go_simp; try with_reducible rfl
  simp only [Act.put, List.setIfInBounds_toArray, List.set_cons_zero, List.set_cons_succ]
  refine capA (fun G A W0 hG hA hW => ?_)
  rw [← hW] at hHeld
  replace HN29 := Lib.hid (hW ▸ HN29.out)
  replace FR9 := Lib.hid (hW ▸ FR9.out)
  replace H9 := Lib.hid (hW ▸ H9.out)
  have HG := Lib.hid hG
  have HA := Lib.hid hA
  clear hG hA hW HQ7
  obtain ⟨V1, hV1⟩ : ∃ V, V = W0.setCells gN (x * 8) (rc (c.R y)).toArray.toList := ⟨_, rfl⟩
  have ht2 : V1.there gN (y * 8) 8 := by
    rw [hV1]
    exact World.there_setCells (rc_there HN29.out yl FR9.out) _ _ _
  have hH1 : V1.cell? ⟨w3.heap.size, 7, none⟩ = some (.slice (some ⟨gN, 0, none⟩) c.nr kN) := by
    rw [hV1]
    exact far_setCells (by omega) hHeld _ _
  have lgN : gN < W0.heap.size := by
    obtain ⟨b, off, e, hc⟩ := HN29.out.2 (by omega)
    injection e with e
    injection e with e1 _ _
    subst e1
    exact World.block_lt_of_cell? _ _ (hc x xl).c0
  have h1 : Held w (.cell (w3.heap.size) 7 (.slice (some ⟨gN, 0, none⟩) c.nr kN) :: .is (w3.heap.size) 7 :: .cell (w3.heap.size) 0 (.bool (c.o 0)) :: .cell (w3.heap.size) 1 (.bool (c.o 1)) :: .cell (w3.heap.size) 2 (.bool (c.o 2)) :: .cell (w3.heap.size) 3 (.bool (c.o 3)) :: .cell (w3.heap.size) 4 (.bool (c.o 4)) :: .cell (w3.heap.size) 5 (.bool (c.o 5)) :: .cell (w3.heap.size) 6 (.bool (c.o 6)) :: .cell (w3.heap.size) 8 (.slice aD c.nd cD) :: .free (w3.heap.size) 0 :: .free (w3.heap.size) 1 :: .free (w3.heap.size) 2 :: .free (w3.heap.size) 3 :: .free (w3.heap.size) 4 :: .free (w3.heap.size) 5 :: .free (w3.heap.size) 6 :: .free (w3.heap.size) 7 :: .free (w3.heap.size) 8 :: .cell (w.heap.size + 1) 0 (.bool (c.o 0)) :: .cell (w.heap.size + 1) 1 (.bool (c.o 1)) :: .cell (w.heap.size + 1) 2 (.bool (c.o 2)) :: .cell (w.heap.size + 1) 3 (.bool (c.o 3)) :: .cell (w.heap.size + 1) 4 (.bool (c.o 4)) :: .cell (w.heap.size + 1) 5 (.bool (c.o 5)) :: .cell (w.heap.size + 1) 6 (.bool (c.o 6)) :: .cell (w.heap.size + 1) 7 (.slice (some ⟨bR, oR, none⟩) c.nr cR) :: .cell (w.heap.size + 1) 8 (.slice aD c.nd cD) :: .free (w.heap.size + 1) 0 :: .free (w.heap.size + 1) 1 :: .free (w.heap.size + 1) 2 :: .free (w.heap.size + 1) 3 :: .free (w.heap.size + 1) 4 :: .free (w.heap.size + 1) 5 :: .free (w.heap.size + 1) 6 :: .free (w.heap.size + 1) 7 :: .free (w.heap.size + 1) 8 :: .cell (w.heap.size) 0 (.bool (c.o 0)) :: .cell (w.heap.size) 1 (.bool (c.o 1)) :: .cell (w.heap.size) 2 (.bool (c.o 2)) :: .cell (w.heap.size) 3 (.bool (c.o 3)) :: .cell (w.heap.size) 4 (.bool (c.o 4)) :: .cell (w.heap.size) 5 (.bool (c.o 5)) :: .cell (w.heap.size) 6 (.bool (c.o 6)) :: .cell (w.heap.size) 7 (.slice (some ⟨bR, oR, none⟩) c.nr cR) :: .cell (w.heap.size) 8 (.slice aD c.nd cD) :: .cell (w.heap.size) 9 (.int .u8 i) :: .cell (w.heap.size) 10 (.int .u8 j) :: .cell (w.heap.size) 11 (.int .i64 n) :: .free (w.heap.size) 0 :: .free (w.heap.size) 1 :: .free (w.heap.size) 2 :: .free (w.heap.size) 3 :: .free (w.heap.size) 4 :: .free (w.heap.size) 5 :: .free (w.heap.size) 6 :: .free (w.heap.size) 7 :: .free (w.heap.size) 8 :: .free (w.heap.size) 9 :: .free (w.heap.size) 10 :: .free (w.heap.size) 11 :: .cell (bR) (oR + x * 8 + 7) (.int .i64 (c.R x).t) :: .cell (bR) (oR + x * 8 + 6) (.int .i64 (c.R x).f) :: .cell (bR) (oR + x * 8 + 5) (.int .i64 (c.R x).s) :: .cell (bR) (oR + x * 8 + 4) (.int .i64 (c.R x).o) :: .cell (bR) (oR + x * 8 + 3) (.int .i64 (c.R x).q) :: .cell (bR) (oR + x * 8 + 2) (.int .i64 (c.R x).d) :: .cell (bR) (oR + x * 8 + 1) (.int .i64 (c.R x).m) :: .cell (bR) (oR + x * 8) (.int .i64 (c.R x).k) :: calF c (some ⟨bR, oR, none⟩) cR aD cD :: factsVF :: []) V1 := by
    rw [hV1]
    exact Held.setcs (B := gN) (by omega) (fun f hf => by
      simp only [List.mem_cons, List.not_mem_nil, or_false] at hf
      rcases hf with rfl | rfl | rfl | rfl | rfl | rfl | rfl | rfl | rfl | rfl | rfl | rfl | rfl | rfl | rfl | rfl | rfl | rfl | rfl | rfl | rfl | rfl | rfl | rfl | rfl | rfl | rfl | rfl | rfl | rfl | rfl | rfl | rfl | rfl | rfl | rfl | rfl | rfl | rfl | rfl | rfl | rfl | rfl | rfl | rfl | rfl | rfl | rfl | rfl | rfl | rfl | rfl | rfl | rfl | rfl | rfl | rfl | rfl | rfl | rfl | rfl | rfl | rfl | rfl | rfl | rfl | rfl | rfl | rfl | rfl | rfl
      all_goals first
        | exact Or.inl trivial
        | exact Or.inl (by decide)
        | exact Or.inl (by show _ ≠ gN; omega)
        | exact Or.inr HL0.out.1
        | exact Or.inr HL0.out.2) (rc (c.R y)) (x * 8) _ H9.out
  obtain ⟨V2, hV2⟩ : ∃ V, V = V1.setCells gN (y * 8) (rc (c.R x)).toArray.toList := ⟨_, rfl⟩
  have hH2 : V2.cell? ⟨w3.heap.size, 7, none⟩ = some (.slice (some ⟨gN, 0, none⟩) c.nr kN) := by
    rw [hV2]
    exact far_setCells (by omega) hH1 _ _
  have h2 : Held w (.cell (w3.heap.size) 7 (.slice (some ⟨gN, 0, none⟩) c.nr kN) :: .is (w3.heap.size) 7 :: .cell (w3.heap.size) 0 (.bool (c.o 0)) :: .cell (w3.heap.size) 1 (.bool (c.o 1)) :: .cell (w3.heap.size) 2 (.bool (c.o 2)) :: .cell (w3.heap.size) 3 (.bool (c.o 3)) :: .cell (w3.heap.size) 4 (.bool (c.o 4)) :: .cell (w3.heap.size) 5 (.bool (c.o 5)) :: .cell (w3.heap.size) 6 (.bool (c.o 6)) :: .cell (w3.heap.size) 8 (.slice aD c.nd cD) :: .free (w3.heap.size) 0 :: .free (w3.heap.size) 1 :: .free (w3.heap.size) 2 :: .free (w3.heap.size) 3 :: .free (w3.heap.size) 4 :: .free (w3.heap.size) 5 :: .free (w3.heap.size) 6 :: .free (w3.heap.size) 7 :: .free (w3.heap.size) 8 :: .cell (w.heap.size + 1) 0 (.bool (c.o 0)) :: .cell (w.heap.size + 1) 1 (.bool (c.o 1)) :: .cell (w.heap.size + 1) 2 (.bool (c.o 2)) :: .cell (w.heap.size + 1) 3 (.bool (c.o 3)) :: .cell (w.heap.size + 1) 4 (.bool (c.o 4)) :: .cell (w.heap.size + 1) 5 (.bool (c.o 5)) :: .cell (w.heap.size + 1) 6 (.bool (c.o 6)) :: .cell (w.heap.size + 1) 7 (.slice (some ⟨bR, oR, none⟩) c.nr cR) :: .cell (w.heap.size + 1) 8 (.slice aD c.nd cD) :: .free (w.heap.size + 1) 0 :: .free (w.heap.size + 1) 1 :: .free (w.heap.size + 1) 2 :: .free (w.heap.size + 1) 3 :: .free (w.heap.size + 1) 4 :: .free (w.heap.size + 1) 5 :: .free (w.heap.size + 1) 6 :: .free (w.heap.size + 1) 7 :: .free (w.heap.size + 1) 8 :: .cell (w.heap.size) 0 (.bool (c.o 0)) :: .cell (w.heap.size) 1 (.bool (c.o 1)) :: .cell (w.heap.size) 2 (.bool (c.o 2)) :: .cell (w.heap.size) 3 (.bool (c.o 3)) :: .cell (w.heap.size) 4 (.bool (c.o 4)) :: .cell (w.heap.size) 5 (.bool (c.o 5)) :: .cell (w.heap.size) 6 (.bool (c.o 6)) :: .cell (w.heap.size) 7 (.slice (some ⟨bR, oR, none⟩) c.nr cR) :: .cell (w.heap.size) 8 (.slice aD c.nd cD) :: .cell (w.heap.size) 9 (.int .u8 i) :: .cell (w.heap.size) 10 (.int .u8 j) :: .cell (w.heap.size) 11 (.int .i64 n) :: .free (w.heap.size) 0 :: .free (w.heap.size) 1 :: .free (w.heap.size) 2 :: .free (w.heap.size) 3 :: .free (w.heap.size) 4 :: .free (w.heap.size) 5 :: .free (w.heap.size) 6 :: .free (w.heap.size) 7 :: .free (w.heap.size) 8 :: .free (w.heap.size) 9 :: .free (w.heap.size) 10 :: .free (w.heap.size) 11 :: .cell (bR) (oR + x * 8 + 7) (.int .i64 (c.R x).t) :: .cell (bR) (oR + x * 8 + 6) (.int .i64 (c.R x).f) :: .cell (bR) (oR + x * 8 + 5) (.int .i64 (c.R x).s) :: .cell (bR) (oR + x * 8 + 4) (.int .i64 (c.R x).o) :: .cell (bR) (oR + x * 8 + 3) (.int .i64 (c.R x).q) :: .cell (bR) (oR + x * 8 + 2) (.int .i64 (c.R x).d) :: .cell (bR) (oR + x * 8 + 1) (.int .i64 (c.R x).m) :: .cell (bR) (oR + x * 8) (.int .i64 (c.R x).k) :: calF c (some ⟨bR, oR, none⟩) cR aD cD :: factsVF :: []) V2 := by
    rw [hV2]
    exact Held.setcs (B := gN) (by omega) (fun f hf => by
      simp only [List.mem_cons, List.not_mem_nil, or_false] at hf
      rcases hf with rfl | rfl | rfl | rfl | rfl | rfl | rfl | rfl | rfl | rfl | rfl | rfl | rfl | rfl | rfl | rfl | rfl | rfl | rfl | rfl | rfl | rfl | rfl | rfl | rfl | rfl | rfl | rfl | rfl | rfl | rfl | rfl | rfl | rfl | rfl | rfl | rfl | rfl | rfl | rfl | rfl | rfl | rfl | rfl | rfl | rfl | rfl | rfl | rfl | rfl | rfl | rfl | rfl | rfl | rfl | rfl | rfl | rfl | rfl | rfl | rfl | rfl | rfl | rfl | rfl | rfl | rfl | rfl | rfl | rfl | rfl
      all_goals first
        | exact Or.inl trivial
        | exact Or.inl (by decide)
        | exact Or.inl (by show _ ≠ gN; omega)
        | exact Or.inr HL0.out.1
        | exact Or.inr HL0.out.2) (rc (c.R x)) (y * 8) _ h1
  have hS : RulesAt V2 (some ⟨gN, 0, none⟩) (swp c.R x y) c.nr kN := by
    rw [hV2, hV1]
    exact swap_row HN29.out xl yl
  have lgM : gN < V2.heap.size := by
    have b1 := setCells_below (Below.refl 0 W0) (Nat.zero_le gN) (rc (c.R y)) (x * 8) _ (Below.refl 0 W0)
    have b2 := setCells_below (Below.refl 0 W0) (Nat.zero_le gN) (rc (c.R x)) (y * 8) _ b1
    rw [hV2, hV1]
    exact Nat.lt_of_lt_of_le lgN b2.size
  have HV1 := Lib.hid hV1
  have HV2 := Lib.hid hV2
  have HS2 := Lib.hid hS
  have HL2 := Lib.hid h2
  have HT2 := Lib.hid ht2
  clear hV1 hV2 hS h1 h2 ht2
  have Z11 : Hid (G 4 #[true, true, true, true, true, true, true, true, true, true, true, true, true, true, true, true, false, false, false, false] (Act.put (Act.put A (some 65) (.agg (rc (c.R y)).toArray)) (some 70) (.agg (rc (c.R x)).toArray)) W0) := Lib.hid (by
    rw [HG.out, HA.out]
    (try simp only [Act.put, List.setIfInBounds_toArray, List.set_cons_zero, List.set_cons_succ])
    refine wpAnyH_take (i := 16) (oi := ⟨some 71, _, _, _, _, _⟩) (v := ?_) rfl (by kernel_rfl) (by kernel_rfl) (by kernel_rfl) (fun _ _ _ h => h) (Or.inl ⟨by rfl, ?_⟩) (by assumption) ?_
    rotate_left
    · intro w hSw; (try dsimp only at hSw); go_simp; try with_reducible rfl
    simp only [Act.put, List.setIfInBounds_toArray, List.set_cons_zero, List.set_cons_succ]
    refine wpAnyH_ready (rs := [17]) (by kernel_rfl) (by simp) ?_
    refine AllReadyH.cons (o := ⟨none, _, _, _, _, _⟩) rfl (fun KK hK => ?_) AllReadyH.nil
    refine wanted_if (by rfl) ?_
    refine wp_store_mid 51 (.tmp 71) (.tmp 65) rfl gN (x * 8) (rc (c.R y)).toArray rfl rfl (rc_there HN29.out xl FR9.out) HSZ9.out (rc_one _) ?_
    rw [← HV1.out]
    refine hK.out _ _ hH1 (fun hHeld => ?_)
    clear hK KK
    (try simp only [Act.put, List.setIfInBounds_toArray, List.set_cons_zero, List.set_cons_succ])
    refine wpAnyH_take (i := 18) (oi := ⟨some 72, _, _, _, _, _⟩) (v := ?_) rfl (by kernel_rfl) (by kernel_rfl) (by kernel_rfl) (fun _ _ _ h => h) (Or.inl ⟨by rfl, ?_⟩) (by assumption) ?_
    rotate_left
    · intro w hSw; (try dsimp only at hSw); go_simp; try with_reducible rfl
    simp only [Act.put, List.setIfInBounds_toArray, List.set_cons_zero, List.set_cons_succ]
    refine wpAnyH_ready (rs := [19]) (by kernel_rfl) (by simp) ?_
    refine AllReadyH.cons (o := ⟨none, _, _, _, _, _⟩) rfl (fun KK hK => ?_) AllReadyH.nil
    refine wanted_if (by rfl) ?_
    refine wp_store_mid 51 (.tmp 72) (.tmp 70) rfl gN (y * 8) (rc (c.R x)).toArray rfl rfl HT2.out HSZ9.out (rc_one _) ?_
    rw [← HV2.out]
    refine hK.out _ _ hH2 (fun _ => ?_)
    clear hK KK hHeld
    (try simp only [Act.put, List.setIfInBounds_toArray, List.set_cons_zero, List.set_cons_succ])
    refine wpAnyH_done (by kernel_rfl) ?_ _
    clear HG HA HN29 FR9 H9 HV1 HV2 HSZ9 HT2 hH1 hH2
    have H := HL2.out.add (f := rulesF (some ⟨gN, 0, none⟩) (swp c.R x y) c.nr kN) HS2.out
    clear HS2 HL2
    have spx := H.lt (w.heap.size) 0 (.bool (c.o 0)) (mt32 (mt1 (mt1 (mt1 (mt1 (mt1 (mt1 mh)))))))
    have spc := H.lt (w.heap.size + 1) 0 (.bool (c.o 0)) (mt8 (mt8 (mt1 (mt1 (mt1 (mt1 mh))))))
    have spd := H.lt (w3.heap.size) 0 (.bool (c.o 0)) (mt1 (mt1 (mt1 mh)))
    have cc0 := H.cell (w.heap.size + 1) 0 (.bool (c.o 0)) (mt8 (mt8 (mt1 (mt1 (mt1 (mt1 mh))))))
    have cc1 := H.cell (w.heap.size + 1) 1 (.bool (c.o 1)) (mt8 (mt8 (mt1 (mt1 (mt1 (mt1 (mt1 mh)))))))
    have cc2 := H.cell (w.heap.size + 1) 2 (.bool (c.o 2)) (mt8 (mt8 (mt1 (mt1 (mt1 (mt1 (mt1 (mt1 mh))))))))
    have cc3 := H.cell (w.heap.size + 1) 3 (.bool (c.o 3)) (mt8 (mt8 (mt1 (mt1 (mt1 (mt1 (mt1 (mt1 (mt1 mh)))))))))
    have cc4 := H.cell (w.heap.size + 1) 4 (.bool (c.o 4)) (mt8 (mt8 (mt8 mh)))
    have cc5 := H.cell (w.heap.size + 1) 5 (.bool (c.o 5)) (mt8 (mt8 (mt8 (mt1 mh))))
    have cc6 := H.cell (w.heap.size + 1) 6 (.bool (c.o 6)) (mt8 (mt8 (mt8 (mt1 (mt1 mh)))))
    have cc7 := H.cell (w.heap.size + 1) 7 (.slice (some ⟨bR, oR, none⟩) c.nr cR) (mt8 (mt8 (mt8 (mt1 (mt1 (mt1 mh))))))
    have cc8 := H.cell (w.heap.size + 1) 8 (.slice aD c.nd cD) (mt8 (mt8 (mt8 (mt1 (mt1 (mt1 (mt1 mh)))))))
    have lc := H.lt (w.heap.size + 1) 0 (.bool (c.o 0)) (mt8 (mt8 (mt1 (mt1 (mt1 (mt1 mh))))))
    go_wp2_with fail
    clear cc0 cc1 cc2 cc3 cc4 cc5 cc6 cc7 cc8 lc
    replace H := (H.box_9 (V2.heap.size) (.bool (c.o 0)) (.bool (c.o 1)) (.bool (c.o 2)) (.bool (c.o 3)) (.bool (c.o 4)) (.bool (c.o 5)) (.bool (c.o 6)) (.slice (some ⟨bR, oR, none⟩) c.nr cR) (.slice aD c.nd cD) 26 rfl)
    replace H := (H.is (V2.heap.size) 7 (.slice (some ⟨bR, oR, none⟩) c.nr cR) (mt1 (mt1 (mt1 (mt1 (mt1 (mt1 (mt1 mh)))))))).erase13 8
    have KS : Hid (∀ w' : World, Held w (.is (V2.heap.size) 7 :: .cell (V2.heap.size) 0 (.bool (c.o 0)) :: .cell (V2.heap.size) 1 (.bool (c.o 1)) :: .cell (V2.heap.size) 2 (.bool (c.o 2)) :: .cell (V2.heap.size) 3 (.bool (c.o 3)) :: .cell (V2.heap.size) 4 (.bool (c.o 4)) :: .cell (V2.heap.size) 5 (.bool (c.o 5)) :: .cell (V2.heap.size) 6 (.bool (c.o 6)) :: .cell (V2.heap.size) 8 (.slice aD c.nd cD) :: .free (V2.heap.size) 0 :: .free (V2.heap.size) 1 :: .free (V2.heap.size) 2 :: .free (V2.heap.size) 3 :: .free (V2.heap.size) 4 :: .free (V2.heap.size) 5 :: .free (V2.heap.size) 6 :: .free (V2.heap.size) 7 :: .free (V2.heap.size) 8 :: rulesF (some ⟨gN, 0, none⟩) (swp c.R x y) c.nr kN :: .cell (w3.heap.size) 7 (.slice (some ⟨gN, 0, none⟩) c.nr kN) :: .is (w3.heap.size) 7 :: .cell (w3.heap.size) 0 (.bool (c.o 0)) :: .cell (w3.heap.size) 1 (.bool (c.o 1)) :: .cell (w3.heap.size) 2 (.bool (c.o 2)) :: .cell (w3.heap.size) 3 (.bool (c.o 3)) :: .cell (w3.heap.size) 4 (.bool (c.o 4)) :: .cell (w3.heap.size) 5 (.bool (c.o 5)) :: .cell (w3.heap.size) 6 (.bool (c.o 6)) :: .cell (w3.heap.size) 8 (.slice aD c.nd cD) :: .free (w3.heap.size) 0 :: .free (w3.heap.size) 1 :: .free (w3.heap.size) 2 :: .free (w3.heap.size) 3 :: .free (w3.heap.size) 4 :: .free (w3.heap.size) 5 :: .free (w3.heap.size) 6 :: .free (w3.heap.size) 7 :: .free (w3.heap.size) 8 :: .cell (w.heap.size + 1) 0 (.bool (c.o 0)) :: .cell (w.heap.size + 1) 1 (.bool (c.o 1)) :: .cell (w.heap.size + 1) 2 (.bool (c.o 2)) :: .cell (w.heap.size + 1) 3 (.bool (c.o 3)) :: .cell (w.heap.size + 1) 4 (.bool (c.o 4)) :: .cell (w.heap.size + 1) 5 (.bool (c.o 5)) :: .cell (w.heap.size + 1) 6 (.bool (c.o 6)) :: .cell (w.heap.size + 1) 7 (.slice (some ⟨bR, oR, none⟩) c.nr cR) :: .cell (w.heap.size + 1) 8 (.slice aD c.nd cD) :: .free (w.heap.size + 1) 0 :: .free (w.heap.size + 1) 1 :: .free (w.heap.size + 1) 2 :: .free (w.heap.size + 1) 3 :: .free (w.heap.size + 1) 4 :: .free (w.heap.size + 1) 5 :: .free (w.heap.size + 1) 6 :: .free (w.heap.size + 1) 7 :: .free (w.heap.size + 1) 8 :: .cell (w.heap.size) 0 (.bool (c.o 0)) :: .cell (w.heap.size) 1 (.bool (c.o 1)) :: .cell (w.heap.size) 2 (.bool (c.o 2)) :: .cell (w.heap.size) 3 (.bool (c.o 3)) :: .cell (w.heap.size) 4 (.bool (c.o 4)) :: .cell (w.heap.size) 5 (.bool (c.o 5)) :: .cell (w.heap.size) 6 (.bool (c.o 6)) :: .cell (w.heap.size) 7 (.slice (some ⟨bR, oR, none⟩) c.nr cR) :: .cell (w.heap.size) 8 (.slice aD c.nd cD) :: .cell (w.heap.size) 9 (.int .u8 i) :: .cell (w.heap.size) 10 (.int .u8 j) :: .cell (w.heap.size) 11 (.int .i64 n) :: .free (w.heap.size) 0 :: .free (w.heap.size) 1 :: .free (w.heap.size) 2 :: .free (w.heap.size) 3 :: .free (w.heap.size) 4 :: .free (w.heap.size) 5 :: .free (w.heap.size) 6 :: .free (w.heap.size) 7 :: .free (w.heap.size) 8 :: .free (w.heap.size) 9 :: .free (w.heap.size) 10 :: .free (w.heap.size) 11 :: .cell (bR) (oR + x * 8 + 7) (.int .i64 (c.R x).t) :: .cell (bR) (oR + x * 8 + 6) (.int .i64 (c.R x).f) :: .cell (bR) (oR + x * 8 + 5) (.int .i64 (c.R x).s) :: .cell (bR) (oR + x * 8 + 4) (.int .i64 (c.R x).o) :: .cell (bR) (oR + x * 8 + 3) (.int .i64 (c.R x).q) :: .cell (bR) (oR + x * 8 + 2) (.int .i64 (c.R x).d) :: .cell (bR) (oR + x * 8 + 1) (.int .i64 (c.R x).m) :: .cell (bR) (oR + x * 8) (.int .i64 (c.R x).k) :: calF c (some ⟨bR, oR, none⟩) cR aD cD :: factsVF :: []) w' → w'.cell? ⟨w.heap.size + 1, 0, none⟩ = some (.bool (c.o 0)) ∧ w'.cell? ⟨w.heap.size + 1, 1, none⟩ = some (.bool (c.o 1)) ∧ w'.cell? ⟨w.heap.size + 1, 2, none⟩ = some (.bool (c.o 2)) ∧ w'.cell? ⟨w.heap.size + 1, 3, none⟩ = some (.bool (c.o 3)) ∧ w'.cell? ⟨w.heap.size + 1, 4, none⟩ = some (.bool (c.o 4)) ∧ w'.cell? ⟨w.heap.size + 1, 5, none⟩ = some (.bool (c.o 5)) ∧ w'.cell? ⟨w.heap.size + 1, 6, none⟩ = some (.bool (c.o 6)) ∧ w'.cell? ⟨w.heap.size + 1, 7, none⟩ = some (.slice (some ⟨bR, oR, none⟩) c.nr cR) ∧ w'.cell? ⟨w.heap.size + 1, 8, none⟩ = some (.slice aD c.nd cD) ∧ w'.cell? ⟨bR, (oR + x * 8), none⟩ = some (.int .i64 (c.R x).k) ∧ w'.cell? ⟨bR, (oR + x * 8 + 1), none⟩ = some (.int .i64 (c.R x).m) ∧ w'.cell? ⟨bR, (oR + x * 8 + 2), none⟩ = some (.int .i64 (c.R x).d) ∧ w'.cell? ⟨bR, (oR + x * 8 + 3), none⟩ = some (.int .i64 (c.R x).q) ∧ w'.cell? ⟨bR, (oR + x * 8 + 4), none⟩ = some (.int .i64 (c.R x).o) ∧ w'.cell? ⟨bR, (oR + x * 8 + 5), none⟩ = some (.int .i64 (c.R x).s) ∧ w'.cell? ⟨bR, (oR + x * 8 + 6), none⟩ = some (.int .i64 (c.R x).f) ∧ w'.cell? ⟨bR, (oR + x * 8 + 7), none⟩ = some (.int .i64 (c.R x).t) ∧ (w'.cell? ⟨V2.heap.size, 7, none⟩).isSome = true ∧ w'.frozen? ⟨V2.heap.size, 7, none⟩ = false ∧ Held w (.is (V2.heap.size) 7 :: .cell (V2.heap.size) 0 (.bool (c.o 0)) :: .cell (V2.heap.size) 1 (.bool (c.o 1)) :: .cell (V2.heap.size) 2 (.bool (c.o 2)) :: .cell (V2.heap.size) 3 (.bool (c.o 3)) :: .cell (V2.heap.size) 4 (.bool (c.o 4)) :: .cell (V2.heap.size) 5 (.bool (c.o 5)) :: .cell (V2.heap.size) 6 (.bool (c.o 6)) :: .cell (V2.heap.size) 8 (.slice aD c.nd cD) :: .free (V2.heap.size) 0 :: .free (V2.heap.size) 1 :: .free (V2.heap.size) 2 :: .free (V2.heap.size) 3 :: .free (V2.heap.size) 4 :: .free (V2.heap.size) 5 :: .free (V2.heap.size) 6 :: .free (V2.heap.size) 7 :: .free (V2.heap.size) 8 :: rulesF (some ⟨gN, 0, none⟩) (swp c.R x y) c.nr kN :: .cell (w3.heap.size) 7 (.slice (some ⟨gN, 0, none⟩) c.nr kN) :: .is (w3.heap.size) 7 :: .cell (w3.heap.size) 0 (.bool (c.o 0)) :: .cell (w3.heap.size) 1 (.bool (c.o 1)) :: .cell (w3.heap.size) 2 (.bool (c.o 2)) :: .cell (w3.heap.size) 3 (.bool (c.o 3)) :: .cell (w3.heap.size) 4 (.bool (c.o 4)) :: .cell (w3.heap.size) 5 (.bool (c.o 5)) :: .cell (w3.heap.size) 6 (.bool (c.o 6)) :: .cell (w3.heap.size) 8 (.slice aD c.nd cD) :: .free (w3.heap.size) 0 :: .free (w3.heap.size) 1 :: .free (w3.heap.size) 2 :: .free (w3.heap.size) 3 :: .free (w3.heap.size) 4 :: .free (w3.heap.size) 5 :: .free (w3.heap.size) 6 :: .free (w3.heap.size) 7 :: .free (w3.heap.size) 8 :: .cell (w.heap.size + 1) 0 (.bool (c.o 0)) :: .cell (w.heap.size + 1) 1 (.bool (c.o 1)) :: .cell (w.heap.size + 1) 2 (.bool (c.o 2)) :: .cell (w.heap.size + 1) 3 (.bool (c.o 3)) :: .cell (w.heap.size + 1) 4 (.bool (c.o 4)) :: .cell (w.heap.size + 1) 5 (.bool (c.o 5)) :: .cell (w.heap.size + 1) 6 (.bool (c.o 6)) :: .cell (w.heap.size + 1) 7 (.slice (some ⟨bR, oR, none⟩) c.nr cR) :: .cell (w.heap.size + 1) 8 (.slice aD c.nd cD) :: .free (w.heap.size + 1) 0 :: .free (w.heap.size + 1) 1 :: .free (w.heap.size + 1) 2 :: .free (w.heap.size + 1) 3 :: .free (w.heap.size + 1) 4 :: .free (w.heap.size + 1) 5 :: .free (w.heap.size + 1) 6 :: .free (w.heap.size + 1) 7 :: .free (w.heap.size + 1) 8 :: .cell (w.heap.size) 0 (.bool (c.o 0)) :: .cell (w.heap.size) 1 (.bool (c.o 1)) :: .cell (w.heap.size) 2 (.bool (c.o 2)) :: .cell (w.heap.size) 3 (.bool (c.o 3)) :: .cell (w.heap.size) 4 (.bool (c.o 4)) :: .cell (w.heap.size) 5 (.bool (c.o 5)) :: .cell (w.heap.size) 6 (.bool (c.o 6)) :: .cell (w.heap.size) 7 (.slice (some ⟨bR, oR, none⟩) c.nr cR) :: .cell (w.heap.size) 8 (.slice aD c.nd cD) :: .cell (w.heap.size) 9 (.int .u8 i) :: .cell (w.heap.size) 10 (.int .u8 j) :: .cell (w.heap.size) 11 (.int .i64 n) :: .free (w.heap.size) 0 :: .free (w.heap.size) 1 :: .free (w.heap.size) 2 :: .free (w.heap.size) 3 :: .free (w.heap.size) 4 :: .free (w.heap.size) 5 :: .free (w.heap.size) 6 :: .free (w.heap.size) 7 :: .free (w.heap.size) 8 :: .free (w.heap.size) 9 :: .free (w.heap.size) 10 :: .free (w.heap.size) 11 :: .cell (bR) (oR + x * 8 + 7) (.int .i64 (c.R x).t) :: .cell (bR) (oR + x * 8 + 6) (.int .i64 (c.R x).f) :: .cell (bR) (oR + x * 8 + 5) (.int .i64 (c.R x).s) :: .cell (bR) (oR + x * 8 + 4) (.int .i64 (c.R x).o) :: .cell (bR) (oR + x * 8 + 3) (.int .i64 (c.R x).q) :: .cell (bR) (oR + x * 8 + 2) (.int .i64 (c.R x).d) :: .cell (bR) (oR + x * 8 + 1) (.int .i64 (c.R x).m) :: .cell (bR) (oR + x * 8) (.int .i64 (c.R x).k) :: calF c (some ⟨bR, oR, none⟩) cR aD cD :: factsVF :: []) w') := Lib.hid (fun _ h => ⟨h.cell (w.heap.size + 1) 0 (.bool (c.o 0)) (mt32 (mt1 (mt1 (mt1 (mt1 (mt1 (mt1 mh))))))), h.cell (w.heap.size + 1) 1 (.bool (c.o 1)) (mt32 (mt1 (mt1 (mt1 (mt1 (mt1 (mt1 (mt1 mh)))))))), h.cell (w.heap.size + 1) 2 (.bool (c.o 2)) (mt32 (mt8 mh)), h.cell (w.heap.size + 1) 3 (.bool (c.o 3)) (mt32 (mt8 (mt1 mh))), h.cell (w.heap.size + 1) 4 (.bool (c.o 4)) (mt32 (mt8 (mt1 (mt1 mh)))), h.cell (w.heap.size + 1) 5 (.bool (c.o 5)) (mt32 (mt8 (mt1 (mt1 (mt1 mh))))), h.cell (w.heap.size + 1) 6 (.bool (c.o 6)) (mt32 (mt8 (mt1 (mt1 (mt1 (mt1 mh)))))), h.cell (w.heap.size + 1) 7 (.slice (some ⟨bR, oR, none⟩) c.nr cR) (mt32 (mt8 (mt1 (mt1 (mt1 (mt1 (mt1 mh))))))), h.cell (w.heap.size + 1) 8 (.slice aD c.nd cD) (mt32 (mt8 (mt1 (mt1 (mt1 (mt1 (mt1 (mt1 mh)))))))), h.cell (bR) (oR + x * 8) (.int .i64 (c.R x).k) (mt32 (mt32 (mt8 (mt8 (mt1 (mt1 (mt1 (mt1 (mt1 (mt1 (mt1 mh))))))))))), h.cell (bR) (oR + x * 8 + 1) (.int .i64 (c.R x).m) (mt32 (mt32 (mt8 (mt8 (mt1 (mt1 (mt1 (mt1 (mt1 (mt1 mh)))))))))), h.cell (bR) (oR + x * 8 + 2) (.int .i64 (c.R x).d) (mt32 (mt32 (mt8 (mt8 (mt1 (mt1 (mt1 (mt1 (mt1 mh))))))))), h.cell (bR) (oR + x * 8 + 3) (.int .i64 (c.R x).q) (mt32 (mt32 (mt8 (mt8 (mt1 (mt1 (mt1 (mt1 mh)))))))), h.cell (bR) (oR + x * 8 + 4) (.int .i64 (c.R x).o) (mt32 (mt32 (mt8 (mt8 (mt1 (mt1 (mt1 mh))))))), h.cell (bR) (oR + x * 8 + 5) (.int .i64 (c.R x).s) (mt32 (mt32 (mt8 (mt8 (mt1 (mt1 mh)))))), h.cell (bR) (oR + x * 8 + 6) (.int .i64 (c.R x).f) (mt32 (mt32 (mt8 (mt8 (mt1 mh))))), h.cell (bR) (oR + x * 8 + 7) (.int .i64 (c.R x).t) (mt32 (mt32 (mt8 (mt8 mh)))), h.all (.is (V2.heap.size) 7) mh, h.frozen (V2.heap.size) 7 (mt8 (mt8 mh)), h⟩)
    have KH : Hid (∀ w' : World, w'.cell? ⟨w.heap.size + 1, 0, none⟩ = some (.bool (c.o 0)) ∧ w'.cell? ⟨w.heap.size + 1, 1, none⟩ = some (.bool (c.o 1)) ∧ w'.cell? ⟨w.heap.size + 1, 2, none⟩ = some (.bool (c.o 2)) ∧ w'.cell? ⟨w.heap.size + 1, 3, none⟩ = some (.bool (c.o 3)) ∧ w'.cell? ⟨w.heap.size + 1, 4, none⟩ = some (.bool (c.o 4)) ∧ w'.cell? ⟨w.heap.size + 1, 5, none⟩ = some (.bool (c.o 5)) ∧ w'.cell? ⟨w.heap.size + 1, 6, none⟩ = some (.bool (c.o 6)) ∧ w'.cell? ⟨w.heap.size + 1, 7, none⟩ = some (.slice (some ⟨bR, oR, none⟩) c.nr cR) ∧ w'.cell? ⟨w.heap.size + 1, 8, none⟩ = some (.slice aD c.nd cD) ∧ w'.cell? ⟨bR, (oR + x * 8), none⟩ = some (.int .i64 (c.R x).k) ∧ w'.cell? ⟨bR, (oR + x * 8 + 1), none⟩ = some (.int .i64 (c.R x).m) ∧ w'.cell? ⟨bR, (oR + x * 8 + 2), none⟩ = some (.int .i64 (c.R x).d) ∧ w'.cell? ⟨bR, (oR + x * 8 + 3), none⟩ = some (.int .i64 (c.R x).q) ∧ w'.cell? ⟨bR, (oR + x * 8 + 4), none⟩ = some (.int .i64 (c.R x).o) ∧ w'.cell? ⟨bR, (oR + x * 8 + 5), none⟩ = some (.int .i64 (c.R x).s) ∧ w'.cell? ⟨bR, (oR + x * 8 + 6), none⟩ = some (.int .i64 (c.R x).f) ∧ w'.cell? ⟨bR, (oR + x * 8 + 7), none⟩ = some (.int .i64 (c.R x).t) ∧ (w'.cell? ⟨V2.heap.size, 7, none⟩).isSome = true ∧ w'.frozen? ⟨V2.heap.size, 7, none⟩ = false ∧ Held w (.is (V2.heap.size) 7 :: .cell (V2.heap.size) 0 (.bool (c.o 0)) :: .cell (V2.heap.size) 1 (.bool (c.o 1)) :: .cell (V2.heap.size) 2 (.bool (c.o 2)) :: .cell (V2.heap.size) 3 (.bool (c.o 3)) :: .cell (V2.heap.size) 4 (.bool (c.o 4)) :: .cell (V2.heap.size) 5 (.bool (c.o 5)) :: .cell (V2.heap.size) 6 (.bool (c.o 6)) :: .cell (V2.heap.size) 8 (.slice aD c.nd cD) :: .free (V2.heap.size) 0 :: .free (V2.heap.size) 1 :: .free (V2.heap.size) 2 :: .free (V2.heap.size) 3 :: .free (V2.heap.size) 4 :: .free (V2.heap.size) 5 :: .free (V2.heap.size) 6 :: .free (V2.heap.size) 7 :: .free (V2.heap.size) 8 :: rulesF (some ⟨gN, 0, none⟩) (swp c.R x y) c.nr kN :: .cell (w3.heap.size) 7 (.slice (some ⟨gN, 0, none⟩) c.nr kN) :: .is (w3.heap.size) 7 :: .cell (w3.heap.size) 0 (.bool (c.o 0)) :: .cell (w3.heap.size) 1 (.bool (c.o 1)) :: .cell (w3.heap.size) 2 (.bool (c.o 2)) :: .cell (w3.heap.size) 3 (.bool (c.o 3)) :: .cell (w3.heap.size) 4 (.bool (c.o 4)) :: .cell (w3.heap.size) 5 (.bool (c.o 5)) :: .cell (w3.heap.size) 6 (.bool (c.o 6)) :: .cell (w3.heap.size) 8 (.slice aD c.nd cD) :: .free (w3.heap.size) 0 :: .free (w3.heap.size) 1 :: .free (w3.heap.size) 2 :: .free (w3.heap.size) 3 :: .free (w3.heap.size) 4 :: .free (w3.heap.size) 5 :: .free (w3.heap.size) 6 :: .free (w3.heap.size) 7 :: .free (w3.heap.size) 8 :: .cell (w.heap.size + 1) 0 (.bool (c.o 0)) :: .cell (w.heap.size + 1) 1 (.bool (c.o 1)) :: .cell (w.heap.size + 1) 2 (.bool (c.o 2)) :: .cell (w.heap.size + 1) 3 (.bool (c.o 3)) :: .cell (w.heap.size + 1) 4 (.bool (c.o 4)) :: .cell (w.heap.size + 1) 5 (.bool (c.o 5)) :: .cell (w.heap.size + 1) 6 (.bool (c.o 6)) :: .cell (w.heap.size + 1) 7 (.slice (some ⟨bR, oR, none⟩) c.nr cR) :: .cell (w.heap.size + 1) 8 (.slice aD c.nd cD) :: .free (w.heap.size + 1) 0 :: .free (w.heap.size + 1) 1 :: .free (w.heap.size + 1) 2 :: .free (w.heap.size + 1) 3 :: .free (w.heap.size + 1) 4 :: .free (w.heap.size + 1) 5 :: .free (w.heap.size + 1) 6 :: .free (w.heap.size + 1) 7 :: .free (w.heap.size + 1) 8 :: .cell (w.heap.size) 0 (.bool (c.o 0)) :: .cell (w.heap.size) 1 (.bool (c.o 1)) :: .cell (w.heap.size) 2 (.bool (c.o 2)) :: .cell (w.heap.size) 3 (.bool (c.o 3)) :: .cell (w.heap.size) 4 (.bool (c.o 4)) :: .cell (w.heap.size) 5 (.bool (c.o 5)) :: .cell (w.heap.size) 6 (.bool (c.o 6)) :: .cell (w.heap.size) 7 (.slice (some ⟨bR, oR, none⟩) c.nr cR) :: .cell (w.heap.size) 8 (.slice aD c.nd cD) :: .cell (w.heap.size) 9 (.int .u8 i) :: .cell (w.heap.size) 10 (.int .u8 j) :: .cell (w.heap.size) 11 (.int .i64 n) :: .free (w.heap.size) 0 :: .free (w.heap.size) 1 :: .free (w.heap.size) 2 :: .free (w.heap.size) 3 :: .free (w.heap.size) 4 :: .free (w.heap.size) 5 :: .free (w.heap.size) 6 :: .free (w.heap.size) 7 :: .free (w.heap.size) 8 :: .free (w.heap.size) 9 :: .free (w.heap.size) 10 :: .free (w.heap.size) 11 :: .cell (bR) (oR + x * 8 + 7) (.int .i64 (c.R x).t) :: .cell (bR) (oR + x * 8 + 6) (.int .i64 (c.R x).f) :: .cell (bR) (oR + x * 8 + 5) (.int .i64 (c.R x).s) :: .cell (bR) (oR + x * 8 + 4) (.int .i64 (c.R x).o) :: .cell (bR) (oR + x * 8 + 3) (.int .i64 (c.R x).q) :: .cell (bR) (oR + x * 8 + 2) (.int .i64 (c.R x).d) :: .cell (bR) (oR + x * 8 + 1) (.int .i64 (c.R x).m) :: .cell (bR) (oR + x * 8) (.int .i64 (c.R x).k) :: calF c (some ⟨bR, oR, none⟩) cR aD cD :: factsVF :: []) w' → Held w (.is (V2.heap.size) 7 :: .cell (V2.heap.size) 0 (.bool (c.o 0)) :: .cell (V2.heap.size) 1 (.bool (c.o 1)) :: .cell (V2.heap.size) 2 (.bool (c.o 2)) :: .cell (V2.heap.size) 3 (.bool (c.o 3)) :: .cell (V2.heap.size) 4 (.bool (c.o 4)) :: .cell (V2.heap.size) 5 (.bool (c.o 5)) :: .cell (V2.heap.size) 6 (.bool (c.o 6)) :: .cell (V2.heap.size) 8 (.slice aD c.nd cD) :: .free (V2.heap.size) 0 :: .free (V2.heap.size) 1 :: .free (V2.heap.size) 2 :: .free (V2.heap.size) 3 :: .free (V2.heap.size) 4 :: .free (V2.heap.size) 5 :: .free (V2.heap.size) 6 :: .free (V2.heap.size) 7 :: .free (V2.heap.size) 8 :: rulesF (some ⟨gN, 0, none⟩) (swp c.R x y) c.nr kN :: .cell (w3.heap.size) 7 (.slice (some ⟨gN, 0, none⟩) c.nr kN) :: .is (w3.heap.size) 7 :: .cell (w3.heap.size) 0 (.bool (c.o 0)) :: .cell (w3.heap.size) 1 (.bool (c.o 1)) :: .cell (w3.heap.size) 2 (.bool (c.o 2)) :: .cell (w3.heap.size) 3 (.bool (c.o 3)) :: .cell (w3.heap.size) 4 (.bool (c.o 4)) :: .cell (w3.heap.size) 5 (.bool (c.o 5)) :: .cell (w3.heap.size) 6 (.bool (c.o 6)) :: .cell (w3.heap.size) 8 (.slice aD c.nd cD) :: .free (w3.heap.size) 0 :: .free (w3.heap.size) 1 :: .free (w3.heap.size) 2 :: .free (w3.heap.size) 3 :: .free (w3.heap.size) 4 :: .free (w3.heap.size) 5 :: .free (w3.heap.size) 6 :: .free (w3.heap.size) 7 :: .free (w3.heap.size) 8 :: .cell (w.heap.size + 1) 0 (.bool (c.o 0)) :: .cell (w.heap.size + 1) 1 (.bool (c.o 1)) :: .cell (w.heap.size + 1) 2 (.bool (c.o 2)) :: .cell (w.heap.size + 1) 3 (.bool (c.o 3)) :: .cell (w.heap.size + 1) 4 (.bool (c.o 4)) :: .cell (w.heap.size + 1) 5 (.bool (c.o 5)) :: .cell (w.heap.size + 1) 6 (.bool (c.o 6)) :: .cell (w.heap.size + 1) 7 (.slice (some ⟨bR, oR, none⟩) c.nr cR) :: .cell (w.heap.size + 1) 8 (.slice aD c.nd cD) :: .free (w.heap.size + 1) 0 :: .free (w.heap.size + 1) 1 :: .free (w.heap.size + 1) 2 :: .free (w.heap.size + 1) 3 :: .free (w.heap.size + 1) 4 :: .free (w.heap.size + 1) 5 :: .free (w.heap.size + 1) 6 :: .free (w.heap.size + 1) 7 :: .free (w.heap.size + 1) 8 :: .cell (w.heap.size) 0 (.bool (c.o 0)) :: .cell (w.heap.size) 1 (.bool (c.o 1)) :: .cell (w.heap.size) 2 (.bool (c.o 2)) :: .cell (w.heap.size) 3 (.bool (c.o 3)) :: .cell (w.heap.size) 4 (.bool (c.o 4)) :: .cell (w.heap.size) 5 (.bool (c.o 5)) :: .cell (w.heap.size) 6 (.bool (c.o 6)) :: .cell (w.heap.size) 7 (.slice (some ⟨bR, oR, none⟩) c.nr cR) :: .cell (w.heap.size) 8 (.slice aD c.nd cD) :: .cell (w.heap.size) 9 (.int .u8 i) :: .cell (w.heap.size) 10 (.int .u8 j) :: .cell (w.heap.size) 11 (.int .i64 n) :: .free (w.heap.size) 0 :: .free (w.heap.size) 1 :: .free (w.heap.size) 2 :: .free (w.heap.size) 3 :: .free (w.heap.size) 4 :: .free (w.heap.size) 5 :: .free (w.heap.size) 6 :: .free (w.heap.size) 7 :: .free (w.heap.size) 8 :: .free (w.heap.size) 9 :: .free (w.heap.size) 10 :: .free (w.heap.size) 11 :: .cell (bR) (oR + x * 8 + 7) (.int .i64 (c.R x).t) :: .cell (bR) (oR + x * 8 + 6) (.int .i64 (c.R x).f) :: .cell (bR) (oR + x * 8 + 5) (.int .i64 (c.R x).s) :: .cell (bR) (oR + x * 8 + 4) (.int .i64 (c.R x).o) :: .cell (bR) (oR + x * 8 + 3) (.int .i64 (c.R x).q) :: .cell (bR) (oR + x * 8 + 2) (.int .i64 (c.R x).d) :: .cell (bR) (oR + x * 8 + 1) (.int .i64 (c.R x).m) :: .cell (bR) (oR + x * 8) (.int .i64 (c.R x).k) :: calF c (some ⟨bR, oR, none⟩) cR aD cD :: factsVF :: []) w') := Lib.hid (fun _ h => h.2.2.2.2.2.2.2.2.2.2.2.2.2.2.2.2.2.2.2)
    refine wp_region_held_drew (S := fun w' => w'.cell? ⟨w.heap.size + 1, 0, none⟩ = some (.bool (c.o 0)) ∧ w'.cell? ⟨w.heap.size + 1, 1, none⟩ = some (.bool (c.o 1)) ∧ w'.cell? ⟨w.heap.size + 1, 2, none⟩ = some (.bool (c.o 2)) ∧ w'.cell? ⟨w.heap.size + 1, 3, none⟩ = some (.bool (c.o 3)) ∧ w'.cell? ⟨w.heap.size + 1, 4, none⟩ = some (.bool (c.o 4)) ∧ w'.cell? ⟨w.heap.size + 1, 5, none⟩ = some (.bool (c.o 5)) ∧ w'.cell? ⟨w.heap.size + 1, 6, none⟩ = some (.bool (c.o 6)) ∧ w'.cell? ⟨w.heap.size + 1, 7, none⟩ = some (.slice (some ⟨bR, oR, none⟩) c.nr cR) ∧ w'.cell? ⟨w.heap.size + 1, 8, none⟩ = some (.slice aD c.nd cD) ∧ w'.cell? ⟨bR, (oR + x * 8), none⟩ = some (.int .i64 (c.R x).k) ∧ w'.cell? ⟨bR, (oR + x * 8 + 1), none⟩ = some (.int .i64 (c.R x).m) ∧ w'.cell? ⟨bR, (oR + x * 8 + 2), none⟩ = some (.int .i64 (c.R x).d) ∧ w'.cell? ⟨bR, (oR + x * 8 + 3), none⟩ = some (.int .i64 (c.R x).q) ∧ w'.cell? ⟨bR, (oR + x * 8 + 4), none⟩ = some (.int .i64 (c.R x).o) ∧ w'.cell? ⟨bR, (oR + x * 8 + 5), none⟩ = some (.int .i64 (c.R x).s) ∧ w'.cell? ⟨bR, (oR + x * 8 + 6), none⟩ = some (.int .i64 (c.R x).f) ∧ w'.cell? ⟨bR, (oR + x * 8 + 7), none⟩ = some (.int .i64 (c.R x).t) ∧ (w'.cell? ⟨V2.heap.size, 7, none⟩).isSome = true ∧ w'.frozen? ⟨V2.heap.size, 7, none⟩ = false ∧ Held w (.is (V2.heap.size) 7 :: .cell (V2.heap.size) 0 (.bool (c.o 0)) :: .cell (V2.heap.size) 1 (.bool (c.o 1)) :: .cell (V2.heap.size) 2 (.bool (c.o 2)) :: .cell (V2.heap.size) 3 (.bool (c.o 3)) :: .cell (V2.heap.size) 4 (.bool (c.o 4)) :: .cell (V2.heap.size) 5 (.bool (c.o 5)) :: .cell (V2.heap.size) 6 (.bool (c.o 6)) :: .cell (V2.heap.size) 8 (.slice aD c.nd cD) :: .free (V2.heap.size) 0 :: .free (V2.heap.size) 1 :: .free (V2.heap.size) 2 :: .free (V2.heap.size) 3 :: .free (V2.heap.size) 4 :: .free (V2.heap.size) 5 :: .free (V2.heap.size) 6 :: .free (V2.heap.size) 7 :: .free (V2.heap.size) 8 :: rulesF (some ⟨gN, 0, none⟩) (swp c.R x y) c.nr kN :: .cell (w3.heap.size) 7 (.slice (some ⟨gN, 0, none⟩) c.nr kN) :: .is (w3.heap.size) 7 :: .cell (w3.heap.size) 0 (.bool (c.o 0)) :: .cell (w3.heap.size) 1 (.bool (c.o 1)) :: .cell (w3.heap.size) 2 (.bool (c.o 2)) :: .cell (w3.heap.size) 3 (.bool (c.o 3)) :: .cell (w3.heap.size) 4 (.bool (c.o 4)) :: .cell (w3.heap.size) 5 (.bool (c.o 5)) :: .cell (w3.heap.size) 6 (.bool (c.o 6)) :: .cell (w3.heap.size) 8 (.slice aD c.nd cD) :: .free (w3.heap.size) 0 :: .free (w3.heap.size) 1 :: .free (w3.heap.size) 2 :: .free (w3.heap.size) 3 :: .free (w3.heap.size) 4 :: .free (w3.heap.size) 5 :: .free (w3.heap.size) 6 :: .free (w3.heap.size) 7 :: .free (w3.heap.size) 8 :: .cell (w.heap.size + 1) 0 (.bool (c.o 0)) :: .cell (w.heap.size + 1) 1 (.bool (c.o 1)) :: .cell (w.heap.size + 1) 2 (.bool (c.o 2)) :: .cell (w.heap.size + 1) 3 (.bool (c.o 3)) :: .cell (w.heap.size + 1) 4 (.bool (c.o 4)) :: .cell (w.heap.size + 1) 5 (.bool (c.o 5)) :: .cell (w.heap.size + 1) 6 (.bool (c.o 6)) :: .cell (w.heap.size + 1) 7 (.slice (some ⟨bR, oR, none⟩) c.nr cR) :: .cell (w.heap.size + 1) 8 (.slice aD c.nd cD) :: .free (w.heap.size + 1) 0 :: .free (w.heap.size + 1) 1 :: .free (w.heap.size + 1) 2 :: .free (w.heap.size + 1) 3 :: .free (w.heap.size + 1) 4 :: .free (w.heap.size + 1) 5 :: .free (w.heap.size + 1) 6 :: .free (w.heap.size + 1) 7 :: .free (w.heap.size + 1) 8 :: .cell (w.heap.size) 0 (.bool (c.o 0)) :: .cell (w.heap.size) 1 (.bool (c.o 1)) :: .cell (w.heap.size) 2 (.bool (c.o 2)) :: .cell (w.heap.size) 3 (.bool (c.o 3)) :: .cell (w.heap.size) 4 (.bool (c.o 4)) :: .cell (w.heap.size) 5 (.bool (c.o 5)) :: .cell (w.heap.size) 6 (.bool (c.o 6)) :: .cell (w.heap.size) 7 (.slice (some ⟨bR, oR, none⟩) c.nr cR) :: .cell (w.heap.size) 8 (.slice aD c.nd cD) :: .cell (w.heap.size) 9 (.int .u8 i) :: .cell (w.heap.size) 10 (.int .u8 j) :: .cell (w.heap.size) 11 (.int .i64 n) :: .free (w.heap.size) 0 :: .free (w.heap.size) 1 :: .free (w.heap.size) 2 :: .free (w.heap.size) 3 :: .free (w.heap.size) 4 :: .free (w.heap.size) 5 :: .free (w.heap.size) 6 :: .free (w.heap.size) 7 :: .free (w.heap.size) 8 :: .free (w.heap.size) 9 :: .free (w.heap.size) 10 :: .free (w.heap.size) 11 :: .cell (bR) (oR + x * 8 + 7) (.int .i64 (c.R x).t) :: .cell (bR) (oR + x * 8 + 6) (.int .i64 (c.R x).f) :: .cell (bR) (oR + x * 8 + 5) (.int .i64 (c.R x).s) :: .cell (bR) (oR + x * 8 + 4) (.int .i64 (c.R x).o) :: .cell (bR) (oR + x * 8 + 3) (.int .i64 (c.R x).q) :: .cell (bR) (oR + x * 8 + 2) (.int .i64 (c.R x).d) :: .cell (bR) (oR + x * 8 + 1) (.int .i64 (c.R x).m) :: .cell (bR) (oR + x * 8) (.int .i64 (c.R x).k) :: calF c (some ⟨bR, oR, none⟩) cR aD cD :: factsVF :: []) w') (by kernel_rfl) (KS.out _ H.drew) (fun hHeld => ?_)
    clear H
    refine wpAnyH_take (i := 1) (oi := ⟨some 75, _, _, _, _, _⟩) (v := ?_) rfl (by kernel_rfl) (by kernel_rfl) (by kernel_rfl) (fun _ _ _ h => h) (Or.inl ⟨by rfl, ?_⟩) (by assumption) ?_
    rotate_left
    · intro w hSw; (try dsimp only at hSw); go_simp; try with_reducible rfl
    simp only [Act.put, List.setIfInBounds_toArray, List.set_cons_zero, List.set_cons_succ]
    refine wpAnyH_take (i := 2) (oi := ⟨some 76, _, _, _, _, _⟩) (v := ?_) rfl (by kernel_rfl) (by kernel_rfl) (by kernel_rfl) (fun _ _ _ h => h) (Or.inl ⟨by rfl, ?_⟩) (by assumption) ?_
    rotate_left
    · intro w hSw; (try dsimp only at hSw); go_simp; try with_reducible rfl
    simp only [Act.put, List.setIfInBounds_toArray, List.set_cons_zero, List.set_cons_succ]
    refine wpAnyH_take (i := 4) (oi := ⟨some 78, _, _, _, _, _⟩) (v := ?_) rfl (by kernel_rfl) (by kernel_rfl) (by kernel_rfl) (fun _ _ _ h => h) (Or.inl ⟨by rfl, ?_⟩) (by assumption) ?_
    rotate_left
    · intro w hSw; (try dsimp only at hSw); go_simp; try with_reducible rfl
    simp only [Act.put, List.setIfInBounds_toArray, List.set_cons_zero, List.set_cons_succ]
    refine wpAnyH_take (i := 5) (oi := ⟨some 79, _, _, _, _, _⟩) (v := ?_) rfl (by kernel_rfl) (by kernel_rfl) (by kernel_rfl) (fun _ _ _ h => h) (Or.inl ⟨by rfl, ?_⟩) (by assumption) ?_
    rotate_left
    · intro w hSw; (try dsimp only at hSw); go_simp; try with_reducible rfl
    simp only [Act.put, List.setIfInBounds_toArray, List.set_cons_zero, List.set_cons_succ]
    refine wpAnyH_take (i := 6) (oi := ⟨some 80, _, _, _, _, _⟩) (v := ?_) rfl (by kernel_rfl) (by kernel_rfl) (by kernel_rfl) (fun _ _ _ h => h) (Or.inl ⟨by rfl, ?_⟩) (by assumption) ?_
    rotate_left
    · intro w hSw; (try dsimp only at hSw); go_simp; try with_reducible rfl
    simp only [Act.put, List.setIfInBounds_toArray, List.set_cons_zero, List.set_cons_succ]
    refine wpAnyH_take (i := 7) (oi := ⟨some 81, _, _, _, _, _⟩) (v := ?_) rfl (by kernel_rfl) (by kernel_rfl) (by kernel_rfl) (fun _ _ _ h => h) (Or.inl ⟨by rfl, ?_⟩) (by assumption) ?_
    rotate_left
    · intro w hSw; (try dsimp only at hSw); go_simp; try with_reducible rfl
    simp only [Act.put, List.setIfInBounds_toArray, List.set_cons_zero, List.set_cons_succ]
    refine wpAnyH_take (i := 8) (oi := ⟨some 82, _, _, _, _, _⟩) (v := ?_) rfl (by kernel_rfl) (by kernel_rfl) (by kernel_rfl) (fun _ _ _ h => h) (Or.inl ⟨by rfl, ?_⟩) (by assumption) ?_
    rotate_left
    · intro w hSw; (try dsimp only at hSw); go_simp; try with_reducible rfl
    simp only [Act.put, List.setIfInBounds_toArray, List.set_cons_zero, List.set_cons_succ]
    have H := KH.out _ hHeld
    clear hHeld
    refine capA (fun G A W0 hG hA hW => ?_)
    rw [← hW] at H
    have HG := Lib.hid hG
    have HA := Lib.hid hA
    clear hG hA hW
    obtain ⟨i0, hi, hz0, hz1, hz2⟩ := info_parts infoRule
    have RC := Lib.hid (row_rules (H.cal (mt32 (mt32 (mt8 (mt8 (mt8 mh)))))).1)
    have H0 := Lib.hid H
    clear H
    have Z111 : Hid (∀ (W : World) (g0 : Nat) (v1 : Value) (g1 : Nat), Below W0.heap.size W0 W → W.ownsRow W0.heap.size 51 8 v1 c.nr (rl c.R c.nr) → Row13 W 8 (some ⟨g1, 0, none⟩) 1 (rc (c.R x)) → g1 < W.heap.size → G 3 #[true, true, true, true, true, true, true, true, true, true, false, false, false] (Act.put (Act.put (Act.put A (some 74) (.slice (some ⟨g0, 0, none⟩) 0 0)) (some 77) v1) (some 83) (.slice (some ⟨g1, 0, none⟩) 1 1)) W) := Lib.hid (by
      intro W g0 v1 g1 B o1 rr lg
      have H : Held w (.is (V2.heap.size) 7 :: .cell (V2.heap.size) 0 (.bool (c.o 0)) :: .cell (V2.heap.size) 1 (.bool (c.o 1)) :: .cell (V2.heap.size) 2 (.bool (c.o 2)) :: .cell (V2.heap.size) 3 (.bool (c.o 3)) :: .cell (V2.heap.size) 4 (.bool (c.o 4)) :: .cell (V2.heap.size) 5 (.bool (c.o 5)) :: .cell (V2.heap.size) 6 (.bool (c.o 6)) :: .cell (V2.heap.size) 8 (.slice aD c.nd cD) :: .free (V2.heap.size) 0 :: .free (V2.heap.size) 1 :: .free (V2.heap.size) 2 :: .free (V2.heap.size) 3 :: .free (V2.heap.size) 4 :: .free (V2.heap.size) 5 :: .free (V2.heap.size) 6 :: .free (V2.heap.size) 7 :: .free (V2.heap.size) 8 :: rulesF (some ⟨gN, 0, none⟩) (swp c.R x y) c.nr kN :: .cell (w3.heap.size) 7 (.slice (some ⟨gN, 0, none⟩) c.nr kN) :: .is (w3.heap.size) 7 :: .cell (w3.heap.size) 0 (.bool (c.o 0)) :: .cell (w3.heap.size) 1 (.bool (c.o 1)) :: .cell (w3.heap.size) 2 (.bool (c.o 2)) :: .cell (w3.heap.size) 3 (.bool (c.o 3)) :: .cell (w3.heap.size) 4 (.bool (c.o 4)) :: .cell (w3.heap.size) 5 (.bool (c.o 5)) :: .cell (w3.heap.size) 6 (.bool (c.o 6)) :: .cell (w3.heap.size) 8 (.slice aD c.nd cD) :: .free (w3.heap.size) 0 :: .free (w3.heap.size) 1 :: .free (w3.heap.size) 2 :: .free (w3.heap.size) 3 :: .free (w3.heap.size) 4 :: .free (w3.heap.size) 5 :: .free (w3.heap.size) 6 :: .free (w3.heap.size) 7 :: .free (w3.heap.size) 8 :: .cell (w.heap.size + 1) 0 (.bool (c.o 0)) :: .cell (w.heap.size + 1) 1 (.bool (c.o 1)) :: .cell (w.heap.size + 1) 2 (.bool (c.o 2)) :: .cell (w.heap.size + 1) 3 (.bool (c.o 3)) :: .cell (w.heap.size + 1) 4 (.bool (c.o 4)) :: .cell (w.heap.size + 1) 5 (.bool (c.o 5)) :: .cell (w.heap.size + 1) 6 (.bool (c.o 6)) :: .cell (w.heap.size + 1) 7 (.slice (some ⟨bR, oR, none⟩) c.nr cR) :: .cell (w.heap.size + 1) 8 (.slice aD c.nd cD) :: .free (w.heap.size + 1) 0 :: .free (w.heap.size + 1) 1 :: .free (w.heap.size + 1) 2 :: .free (w.heap.size + 1) 3 :: .free (w.heap.size + 1) 4 :: .free (w.heap.size + 1) 5 :: .free (w.heap.size + 1) 6 :: .free (w.heap.size + 1) 7 :: .free (w.heap.size + 1) 8 :: .cell (w.heap.size) 0 (.bool (c.o 0)) :: .cell (w.heap.size) 1 (.bool (c.o 1)) :: .cell (w.heap.size) 2 (.bool (c.o 2)) :: .cell (w.heap.size) 3 (.bool (c.o 3)) :: .cell (w.heap.size) 4 (.bool (c.o 4)) :: .cell (w.heap.size) 5 (.bool (c.o 5)) :: .cell (w.heap.size) 6 (.bool (c.o 6)) :: .cell (w.heap.size) 7 (.slice (some ⟨bR, oR, none⟩) c.nr cR) :: .cell (w.heap.size) 8 (.slice aD c.nd cD) :: .cell (w.heap.size) 9 (.int .u8 i) :: .cell (w.heap.size) 10 (.int .u8 j) :: .cell (w.heap.size) 11 (.int .i64 n) :: .free (w.heap.size) 0 :: .free (w.heap.size) 1 :: .free (w.heap.size) 2 :: .free (w.heap.size) 3 :: .free (w.heap.size) 4 :: .free (w.heap.size) 5 :: .free (w.heap.size) 6 :: .free (w.heap.size) 7 :: .free (w.heap.size) 8 :: .free (w.heap.size) 9 :: .free (w.heap.size) 10 :: .free (w.heap.size) 11 :: .cell (bR) (oR + x * 8 + 7) (.int .i64 (c.R x).t) :: .cell (bR) (oR + x * 8 + 6) (.int .i64 (c.R x).f) :: .cell (bR) (oR + x * 8 + 5) (.int .i64 (c.R x).s) :: .cell (bR) (oR + x * 8 + 4) (.int .i64 (c.R x).o) :: .cell (bR) (oR + x * 8 + 3) (.int .i64 (c.R x).q) :: .cell (bR) (oR + x * 8 + 2) (.int .i64 (c.R x).d) :: .cell (bR) (oR + x * 8 + 1) (.int .i64 (c.R x).m) :: .cell (bR) (oR + x * 8) (.int .i64 (c.R x).k) :: calF c (some ⟨bR, oR, none⟩) cR aD cD :: factsVF :: []) W := H0.out.below B
      rw [HG.out, HA.out]
      (try simp only [Act.put, List.setIfInBounds_toArray, List.set_cons_zero, List.set_cons_succ])
      refine wpAnyH_ready (rs := [10]) (by kernel_rfl) (by simp) ?_
      refine AllReadyH.cons (o := ⟨some 84, _, _, _, _, _⟩) rfl (fun KK hK => ?_) AllReadyH.nil
      obtain ⟨v2, w2, hr, ho, hg⟩ := app13 W0.heap.size 23 23 51 i0 (.agg #[.int .i64 0, .int .i64 0, .int .i64 0, .int .i64 0, .int .i64 0, .int .i64 0, .int .i64 0, .int .i64 0]) 8 64 Tryd.underlying23 hi hz0 hz1 hz2 rfl (by decide) _ _ _ o1 (some ⟨g1, 0, none⟩) 1 1 (rc (c.R x)) rr (by omega) (by decide) B.size
      rw [rl_more] at ho
      have B2 := B.trans (grown_own B.size o1 hg)
      obtain ⟨aN, cN, rfl, hN⟩ := own_rules ho
      have lN : ∀ p, aN = some p → W0.heap.size ≤ p.block := fun p hp => by subst hp; exact (World.ownsRow.lt ho p.block rfl).1
      refine Lib.wp_append_run _ (.tmp 77) (.tmp 83) 23 23 rfl _ _ rfl rfl _ _ hr ?_
      have H2 := H0.out.below B2
      refine hK.out _ _ (KS.out _ H2) (fun hHeld => ?_)
      clear hK KK H B
      (try simp only [Act.put, List.setIfInBounds_toArray, List.set_cons_zero, List.set_cons_succ])
      refine wpAnyH_take (i := 11) (oi := ⟨some 85, _, _, _, _, _⟩) (v := ?_) rfl (by kernel_rfl) (by kernel_rfl) (by kernel_rfl) (fun _ _ _ h => h) (Or.inl ⟨by rfl, ?_⟩) (by assumption) ?_
      rotate_left
      · intro w hSw; (try dsimp only at hSw); go_simp; try with_reducible rfl
      simp only [Act.put, List.setIfInBounds_toArray, List.set_cons_zero, List.set_cons_succ]
      clear hHeld
      have s1 := H2.all (.is (V2.heap.size) 7) mh
      have s2 := H2.frozen (V2.heap.size) 7 (mt8 (mt8 mh))
      obtain ⟨x7, s3⟩ := Option.isSome_iff_exists.1 s1
      clear s1
      have ld := H0.out.lt (V2.heap.size) 0 (.bool (c.o 0)) (mt1 mh)
      have H3 := H2.setc2 (V2.heap.size) 7 (.slice aN (c.nr + 1) cN) (by omega) (fun f hf => by
        simp only [List.mem_cons, List.not_mem_nil, or_false] at hf
        rcases hf with rfl | rfl | rfl | rfl | rfl | rfl | rfl | rfl | rfl | rfl | rfl | rfl | rfl | rfl | rfl | rfl | rfl | rfl | rfl | rfl | rfl | rfl | rfl | rfl | rfl | rfl | rfl | rfl | rfl | rfl | rfl | rfl | rfl | rfl | rfl | rfl | rfl | rfl | rfl | rfl | rfl | rfl | rfl | rfl | rfl | rfl | rfl | rfl | rfl | rfl | rfl | rfl | rfl | rfl | rfl | rfl | rfl | rfl | rfl | rfl | rfl | rfl | rfl | rfl | rfl | rfl | rfl | rfl | rfl | rfl | rfl | rfl | rfl | rfl | rfl | rfl | rfl | rfl | rfl | rfl | rfl | rfl | rfl | rfl | rfl | rfl | rfl | rfl | rfl | rfl
        all_goals first
          | exact Or.inl trivial
          | exact Or.inl (Or.inr (by decide))
          | exact Or.inl (Or.inl (by omega))
          | exact Or.inr (Or.inl HL0.out.1)
          | exact Or.inr (Or.inl HL0.out.2)
          | exact Or.inr (Or.inr (fun V hV => RulesAt.set1 hV _ _ _ (fun p hp => by
              injection hp with hp
              subst hp
              show gN ≠ _
              omega))))
      have hN2 := RulesAt.set1 hN (V2.heap.size) 7 (.slice aN (c.nr + 1) cN) (fun p hp => Nat.ne_of_gt (Nat.lt_of_lt_of_le ld (lN p hp)))
      have q7 := World.cell?_setCell_same' w2 ⟨V2.heap.size, 7, none⟩ (.slice aN (c.nr + 1) cN) (by rw [s3]; rfl)
      have h3 := Lib.hid H3
      have hn2 := Lib.hid hN2
      have hq7 := Lib.hid q7
      clear H3 hN2 q7 hN ho hg hr
      refine wpAnyH_ready (rs := [12]) (by kernel_rfl) (by simp) ?_
      refine AllReadyH.cons (o := ⟨none, _, _, _, _, _⟩) rfl (fun KK hK => ?_) AllReadyH.nil
      go_wp2_with fail
      refine hK.out _ _ (KS.out _ h3.out) (fun _ => ?_)
      clear hK KK s2 s3 H2
      (try simp only [Act.put, List.setIfInBounds_toArray, List.set_cons_zero, List.set_cons_succ])
      refine wpAnyH_done (by kernel_rfl) ?_ _
      replace h3 := h3.out
      replace hn2 := hn2.out
      replace hq7 := hq7.out
      generalize World.setCell w2 _ _ = W9 at h3 hn2 hq7 ⊢
      have H := (h3.add (f := .cell (V2.heap.size) 7 (.slice aN (c.nr + 1) cN)) hq7).add (f := rulesF aN (more c.R c.nr (c.R x)) (c.nr + 1) cN) hn2
      clear h3 hn2 hq7
      have cc0 := H.cell (w.heap.size + 1) 0 (.bool (c.o 0)) (mt32 (mt8 mh))
      have cc1 := H.cell (w.heap.size + 1) 1 (.bool (c.o 1)) (mt32 (mt8 (mt1 mh)))
      have cc2 := H.cell (w.heap.size + 1) 2 (.bool (c.o 2)) (mt32 (mt8 (mt1 (mt1 mh))))
      have cc3 := H.cell (w.heap.size + 1) 3 (.bool (c.o 3)) (mt32 (mt8 (mt1 (mt1 (mt1 mh)))))
      have cc4 := H.cell (w.heap.size + 1) 4 (.bool (c.o 4)) (mt32 (mt8 (mt1 (mt1 (mt1 (mt1 mh))))))
      have cc5 := H.cell (w.heap.size + 1) 5 (.bool (c.o 5)) (mt32 (mt8 (mt1 (mt1 (mt1 (mt1 (mt1 mh)))))))
      have cc6 := H.cell (w.heap.size + 1) 6 (.bool (c.o 6)) (mt32 (mt8 (mt1 (mt1 (mt1 (mt1 (mt1 (mt1 mh))))))))
      have cc7 := H.cell (w.heap.size + 1) 7 (.slice (some ⟨bR, oR, none⟩) c.nr cR) (mt32 (mt8 (mt1 (mt1 (mt1 (mt1 (mt1 (mt1 (mt1 mh)))))))))
      have cc8 := H.cell (w.heap.size + 1) 8 (.slice aD c.nd cD) (mt32 (mt8 (mt8 mh)))
      have lc := H.lt (w.heap.size + 1) 0 (.bool (c.o 0)) (mt32 (mt8 mh))
      go_wp2_with fail
      clear cc0 cc1 cc2 cc3 cc4 cc5 cc6 cc7 cc8 lc
      (with_reducible refine (K.is c (some ⟨bR, oR, none⟩) cR aD cD n true _ (H.factsV (mt32 (mt32 (mt8 (mt8 (mt8 (mt1 (mt1 (mt1 mh))))))))) MA.out (H.cal (mt32 (mt32 (mt8 (mt8 (mt8 (mt1 (mt1 mh)))))))) ⟨fun _ => HP.out, fun _ => rfl⟩).mono ?_)
      rintro e w4 ⟨rfl, hb⟩
      replace H := H.below hb
      clear hb
      have cd0 := H.cell (w3.heap.size) 0 (.bool (c.o 0)) (mt8 (mt8 (mt1 (mt1 (mt1 (mt1 (mt1 (mt1 (mt1 mh)))))))))
      have cd1 := H.cell (w3.heap.size) 1 (.bool (c.o 1)) (mt8 (mt8 (mt8 mh)))
      have cd2 := H.cell (w3.heap.size) 2 (.bool (c.o 2)) (mt8 (mt8 (mt8 (mt1 mh))))
      have cd3 := H.cell (w3.heap.size) 3 (.bool (c.o 3)) (mt8 (mt8 (mt8 (mt1 (mt1 mh)))))
      have cd4 := H.cell (w3.heap.size) 4 (.bool (c.o 4)) (mt8 (mt8 (mt8 (mt1 (mt1 (mt1 mh))))))
      have cd5 := H.cell (w3.heap.size) 5 (.bool (c.o 5)) (mt8 (mt8 (mt8 (mt1 (mt1 (mt1 (mt1 mh)))))))
      have cd6 := H.cell (w3.heap.size) 6 (.bool (c.o 6)) (mt8 (mt8 (mt8 (mt1 (mt1 (mt1 (mt1 (mt1 mh))))))))
      have cd7 := H.cell (w3.heap.size) 7 (.slice (some ⟨gN, 0, none⟩) c.nr kN) (mt8 (mt8 (mt1 (mt1 (mt1 (mt1 (mt1 mh)))))))
      have cd8 := H.cell (w3.heap.size) 8 (.slice aD c.nd cD) (mt8 (mt8 (mt8 (mt1 (mt1 (mt1 (mt1 (mt1 (mt1 mh)))))))))
      have ld := H.lt (w3.heap.size) 0 (.bool (c.o 0)) (mt8 (mt8 (mt1 (mt1 (mt1 (mt1 (mt1 (mt1 (mt1 mh)))))))))
      go_wp2_with fail
      clear cd0 cd1 cd2 cd3 cd4 cd5 cd6 cd7 cd8 ld
      (with_reducible refine (smay K c x y gN kN aD cD _ (H.factsV (mt32 (mt32 (mt8 (mt8 (mt8 (mt1 (mt1 (mt1 mh))))))))) HZ.out MS.out (H.rules (mt8 (mt8 (mt1 (mt1 (mt1 (mt1 mh))))))) (cal_d13 (H.cal (mt32 (mt32 (mt8 (mt8 (mt8 (mt1 (mt1 mh)))))))))).mono ?_)
      rintro e w5 ⟨rfl, hb⟩
      replace H := H.below hb
      clear hb
      have ce0 := H.cell (V2.heap.size) 0 (.bool (c.o 0)) (mt1 (mt1 (mt1 mh)))
      have ce1 := H.cell (V2.heap.size) 1 (.bool (c.o 1)) (mt1 (mt1 (mt1 (mt1 mh))))
      have ce2 := H.cell (V2.heap.size) 2 (.bool (c.o 2)) (mt1 (mt1 (mt1 (mt1 (mt1 mh)))))
      have ce3 := H.cell (V2.heap.size) 3 (.bool (c.o 3)) (mt1 (mt1 (mt1 (mt1 (mt1 (mt1 mh))))))
      have ce4 := H.cell (V2.heap.size) 4 (.bool (c.o 4)) (mt1 (mt1 (mt1 (mt1 (mt1 (mt1 (mt1 mh)))))))
      have ce5 := H.cell (V2.heap.size) 5 (.bool (c.o 5)) (mt8 mh)
      have ce6 := H.cell (V2.heap.size) 6 (.bool (c.o 6)) (mt8 (mt1 mh))
      have ce7 := H.cell (V2.heap.size) 7 (.slice aN (c.nr + 1) cN) (mt1 mh)
      have ce8 := H.cell (V2.heap.size) 8 (.slice aD c.nd cD) (mt8 (mt1 (mt1 mh)))
      have le := H.lt (V2.heap.size) 0 (.bool (c.o 0)) (mt1 (mt1 (mt1 mh)))
      go_wp2_with fail
      clear ce0 ce1 ce2 ce3 ce4 ce5 ce6 ce7 ce8 le
      (with_reducible refine (pmay K c (c.R x) aN cN aD cD _ (H.factsV (mt32 (mt32 (mt8 (mt8 (mt8 (mt1 (mt1 (mt1 mh))))))))) ZP.out MP.out (H.rules mh) (cal_d13 (H.cal (mt32 (mt32 (mt8 (mt8 (mt8 (mt1 (mt1 mh)))))))))).mono ?_)
      rintro e w6 ⟨rfl, hb⟩
      replace H := H.below hb
      clear hb
      have cd0 := H.cell (w3.heap.size) 0 (.bool (c.o 0)) (mt8 (mt8 (mt1 (mt1 (mt1 (mt1 (mt1 (mt1 (mt1 mh)))))))))
      have cd1 := H.cell (w3.heap.size) 1 (.bool (c.o 1)) (mt8 (mt8 (mt8 mh)))
      have cd2 := H.cell (w3.heap.size) 2 (.bool (c.o 2)) (mt8 (mt8 (mt8 (mt1 mh))))
      have cd3 := H.cell (w3.heap.size) 3 (.bool (c.o 3)) (mt8 (mt8 (mt8 (mt1 (mt1 mh)))))
      have cd4 := H.cell (w3.heap.size) 4 (.bool (c.o 4)) (mt8 (mt8 (mt8 (mt1 (mt1 (mt1 mh))))))
      have cd5 := H.cell (w3.heap.size) 5 (.bool (c.o 5)) (mt8 (mt8 (mt8 (mt1 (mt1 (mt1 (mt1 mh)))))))
      have cd6 := H.cell (w3.heap.size) 6 (.bool (c.o 6)) (mt8 (mt8 (mt8 (mt1 (mt1 (mt1 (mt1 (mt1 mh))))))))
      have cd7 := H.cell (w3.heap.size) 7 (.slice (some ⟨gN, 0, none⟩) c.nr kN) (mt8 (mt8 (mt1 (mt1 (mt1 (mt1 (mt1 mh)))))))
      have cd8 := H.cell (w3.heap.size) 8 (.slice aD c.nd cD) (mt8 (mt8 (mt8 (mt1 (mt1 (mt1 (mt1 (mt1 (mt1 mh)))))))))
      have ld := H.lt (w3.heap.size) 0 (.bool (c.o 0)) (mt8 (mt8 (mt1 (mt1 (mt1 (mt1 (mt1 (mt1 (mt1 mh)))))))))
      go_wp2_with fail
      clear cd0 cd1 cd2 cd3 cd4 cd5 cd6 cd7 cd8 ld
      (with_reducible refine (sis K c x y gN kN aD cD n true _ (H.factsV (mt32 (mt32 (mt8 (mt8 (mt8 (mt1 (mt1 (mt1 mh))))))))) MS.out (H.rules (mt8 (mt8 (mt1 (mt1 (mt1 (mt1 mh))))))) (cal_d13 (H.cal (mt32 (mt32 (mt8 (mt8 (mt8 (mt1 (mt1 mh))))))))) ⟨fun _ => HS0.out, fun _ => rfl⟩).mono ?_)
      rintro e w7 ⟨rfl, hb⟩
      replace H := H.below hb
      clear hb
      have ce0 := H.cell (V2.heap.size) 0 (.bool (c.o 0)) (mt1 (mt1 (mt1 mh)))
      have ce1 := H.cell (V2.heap.size) 1 (.bool (c.o 1)) (mt1 (mt1 (mt1 (mt1 mh))))
      have ce2 := H.cell (V2.heap.size) 2 (.bool (c.o 2)) (mt1 (mt1 (mt1 (mt1 (mt1 mh)))))
      have ce3 := H.cell (V2.heap.size) 3 (.bool (c.o 3)) (mt1 (mt1 (mt1 (mt1 (mt1 (mt1 mh))))))
      have ce4 := H.cell (V2.heap.size) 4 (.bool (c.o 4)) (mt1 (mt1 (mt1 (mt1 (mt1 (mt1 (mt1 mh)))))))
      have ce5 := H.cell (V2.heap.size) 5 (.bool (c.o 5)) (mt8 mh)
      have ce6 := H.cell (V2.heap.size) 6 (.bool (c.o 6)) (mt8 (mt1 mh))
      have ce7 := H.cell (V2.heap.size) 7 (.slice aN (c.nr + 1) cN) (mt1 mh)
      have ce8 := H.cell (V2.heap.size) 8 (.slice aD c.nd cD) (mt8 (mt1 (mt1 mh)))
      have le := H.lt (V2.heap.size) 0 (.bool (c.o 0)) (mt1 (mt1 (mt1 mh)))
      go_wp2_with fail
      clear ce0 ce1 ce2 ce3 ce4 ce5 ce6 ce7 ce8 le
      (with_reducible refine (pis K c (c.R x) aN cN aD cD n true _ (H.factsV (mt32 (mt32 (mt8 (mt8 (mt8 (mt1 (mt1 (mt1 mh))))))))) MP.out (H.rules mh) (cal_d13 (H.cal (mt32 (mt32 (mt8 (mt8 (mt8 (mt1 (mt1 mh))))))))) ⟨fun _ => HQ.out, fun _ => rfl⟩).mono ?_)
      rintro e w8 ⟨rfl, hb⟩
      replace H := H.below hb
      clear hb
      go_wp2_with fail
      go_ret
      exact ⟨rfl, H.old⟩)
    have Z101 : Hid (∀ (W : World) (g0 : Nat) (g1 : Nat), Below W0.heap.size W0 W → W.ownsRow W0.heap.size 51 8 (.slice (some ⟨g0, 0, none⟩) 0 0) 0 [] → Row13 W 8 (some ⟨g1, 0, none⟩) 1 (rc (c.R x)) → g1 < W.heap.size → g1 ≠ g0 → G 4 #[true, true, true, false, true, true, true, true, true, true, false, false, false] (Act.put (Act.put A (some 74) (.slice (some ⟨g0, 0, none⟩) 0 0)) (some 83) (.slice (some ⟨g1, 0, none⟩) 1 1)) W) := Lib.hid (by
      intro W g0 g1 B o0 rr lg ng
      have H : Held w (.is (V2.heap.size) 7 :: .cell (V2.heap.size) 0 (.bool (c.o 0)) :: .cell (V2.heap.size) 1 (.bool (c.o 1)) :: .cell (V2.heap.size) 2 (.bool (c.o 2)) :: .cell (V2.heap.size) 3 (.bool (c.o 3)) :: .cell (V2.heap.size) 4 (.bool (c.o 4)) :: .cell (V2.heap.size) 5 (.bool (c.o 5)) :: .cell (V2.heap.size) 6 (.bool (c.o 6)) :: .cell (V2.heap.size) 8 (.slice aD c.nd cD) :: .free (V2.heap.size) 0 :: .free (V2.heap.size) 1 :: .free (V2.heap.size) 2 :: .free (V2.heap.size) 3 :: .free (V2.heap.size) 4 :: .free (V2.heap.size) 5 :: .free (V2.heap.size) 6 :: .free (V2.heap.size) 7 :: .free (V2.heap.size) 8 :: rulesF (some ⟨gN, 0, none⟩) (swp c.R x y) c.nr kN :: .cell (w3.heap.size) 7 (.slice (some ⟨gN, 0, none⟩) c.nr kN) :: .is (w3.heap.size) 7 :: .cell (w3.heap.size) 0 (.bool (c.o 0)) :: .cell (w3.heap.size) 1 (.bool (c.o 1)) :: .cell (w3.heap.size) 2 (.bool (c.o 2)) :: .cell (w3.heap.size) 3 (.bool (c.o 3)) :: .cell (w3.heap.size) 4 (.bool (c.o 4)) :: .cell (w3.heap.size) 5 (.bool (c.o 5)) :: .cell (w3.heap.size) 6 (.bool (c.o 6)) :: .cell (w3.heap.size) 8 (.slice aD c.nd cD) :: .free (w3.heap.size) 0 :: .free (w3.heap.size) 1 :: .free (w3.heap.size) 2 :: .free (w3.heap.size) 3 :: .free (w3.heap.size) 4 :: .free (w3.heap.size) 5 :: .free (w3.heap.size) 6 :: .free (w3.heap.size) 7 :: .free (w3.heap.size) 8 :: .cell (w.heap.size + 1) 0 (.bool (c.o 0)) :: .cell (w.heap.size + 1) 1 (.bool (c.o 1)) :: .cell (w.heap.size + 1) 2 (.bool (c.o 2)) :: .cell (w.heap.size + 1) 3 (.bool (c.o 3)) :: .cell (w.heap.size + 1) 4 (.bool (c.o 4)) :: .cell (w.heap.size + 1) 5 (.bool (c.o 5)) :: .cell (w.heap.size + 1) 6 (.bool (c.o 6)) :: .cell (w.heap.size + 1) 7 (.slice (some ⟨bR, oR, none⟩) c.nr cR) :: .cell (w.heap.size + 1) 8 (.slice aD c.nd cD) :: .free (w.heap.size + 1) 0 :: .free (w.heap.size + 1) 1 :: .free (w.heap.size + 1) 2 :: .free (w.heap.size + 1) 3 :: .free (w.heap.size + 1) 4 :: .free (w.heap.size + 1) 5 :: .free (w.heap.size + 1) 6 :: .free (w.heap.size + 1) 7 :: .free (w.heap.size + 1) 8 :: .cell (w.heap.size) 0 (.bool (c.o 0)) :: .cell (w.heap.size) 1 (.bool (c.o 1)) :: .cell (w.heap.size) 2 (.bool (c.o 2)) :: .cell (w.heap.size) 3 (.bool (c.o 3)) :: .cell (w.heap.size) 4 (.bool (c.o 4)) :: .cell (w.heap.size) 5 (.bool (c.o 5)) :: .cell (w.heap.size) 6 (.bool (c.o 6)) :: .cell (w.heap.size) 7 (.slice (some ⟨bR, oR, none⟩) c.nr cR) :: .cell (w.heap.size) 8 (.slice aD c.nd cD) :: .cell (w.heap.size) 9 (.int .u8 i) :: .cell (w.heap.size) 10 (.int .u8 j) :: .cell (w.heap.size) 11 (.int .i64 n) :: .free (w.heap.size) 0 :: .free (w.heap.size) 1 :: .free (w.heap.size) 2 :: .free (w.heap.size) 3 :: .free (w.heap.size) 4 :: .free (w.heap.size) 5 :: .free (w.heap.size) 6 :: .free (w.heap.size) 7 :: .free (w.heap.size) 8 :: .free (w.heap.size) 9 :: .free (w.heap.size) 10 :: .free (w.heap.size) 11 :: .cell (bR) (oR + x * 8 + 7) (.int .i64 (c.R x).t) :: .cell (bR) (oR + x * 8 + 6) (.int .i64 (c.R x).f) :: .cell (bR) (oR + x * 8 + 5) (.int .i64 (c.R x).s) :: .cell (bR) (oR + x * 8 + 4) (.int .i64 (c.R x).o) :: .cell (bR) (oR + x * 8 + 3) (.int .i64 (c.R x).q) :: .cell (bR) (oR + x * 8 + 2) (.int .i64 (c.R x).d) :: .cell (bR) (oR + x * 8 + 1) (.int .i64 (c.R x).m) :: .cell (bR) (oR + x * 8) (.int .i64 (c.R x).k) :: calF c (some ⟨bR, oR, none⟩) cR aD cD :: factsVF :: []) W := H0.out.below B
      rw [HG.out, HA.out]
      (try simp only [Act.put, List.setIfInBounds_toArray, List.set_cons_zero, List.set_cons_succ])
      refine wpAnyH_ready (rs := [3]) (by kernel_rfl) (by simp) ?_
      refine AllReadyH.cons (o := ⟨some 77, _, _, _, _, _⟩) rfl (fun KK hK => ?_) AllReadyH.nil
      obtain ⟨v1, w1, hr, ho, hg⟩ := app13 W0.heap.size 23 23 51 i0 (.agg #[.int .i64 0, .int .i64 0, .int .i64 0, .int .i64 0, .int .i64 0, .int .i64 0, .int .i64 0, .int .i64 0]) 8 64 Tryd.underlying23 hi hz0 hz1 hz2 rfl (by decide) _ _ _ o0 (some ⟨bR, oR, none⟩) c.nr cR (rl c.R c.nr) (RC.out.below B) (by omega) (by decide) B.size
      rw [Nat.zero_add, List.nil_append] at ho
      have B2 := B.trans (grown_own B.size o0 hg)
      have z := Lib.hid (Z111.out w1 g0 v1 g1 B2 ho (rr.grown hg (fun e => ng (Option.some.inj e))) (Nat.lt_of_lt_of_le lg hg.4))
      refine Lib.wp_append_run _ (.tmp 74) (.tmp 76) 23 23 rfl _ _ rfl rfl _ _ hr ?_
      refine hK.out _ _ (KS.out _ (H0.out.below B2)) (fun _ => ?_)
      clear hK KK
      replace z := z.out
      (try simp only [Act.put, List.setIfInBounds_toArray, List.set_cons_zero, List.set_cons_succ])
      rw [HG.out, HA.out] at z
      (try simp only [Act.put, List.setIfInBounds_toArray, List.set_cons_zero, List.set_cons_succ] at z)
      exact z)
    have Z110 : Hid (∀ (W : World) (g0 : Nat) (v1 : Value), Below W0.heap.size W0 W → W.ownsRow W0.heap.size 51 8 v1 c.nr (rl c.R c.nr) → G 4 #[true, true, true, true, true, true, true, true, true, false, false, false, false] (Act.put (Act.put A (some 74) (.slice (some ⟨g0, 0, none⟩) 0 0)) (some 77) v1) W) := Lib.hid (by
      intro W g0 v1 B o1
      have H : Held w (.is (V2.heap.size) 7 :: .cell (V2.heap.size) 0 (.bool (c.o 0)) :: .cell (V2.heap.size) 1 (.bool (c.o 1)) :: .cell (V2.heap.size) 2 (.bool (c.o 2)) :: .cell (V2.heap.size) 3 (.bool (c.o 3)) :: .cell (V2.heap.size) 4 (.bool (c.o 4)) :: .cell (V2.heap.size) 5 (.bool (c.o 5)) :: .cell (V2.heap.size) 6 (.bool (c.o 6)) :: .cell (V2.heap.size) 8 (.slice aD c.nd cD) :: .free (V2.heap.size) 0 :: .free (V2.heap.size) 1 :: .free (V2.heap.size) 2 :: .free (V2.heap.size) 3 :: .free (V2.heap.size) 4 :: .free (V2.heap.size) 5 :: .free (V2.heap.size) 6 :: .free (V2.heap.size) 7 :: .free (V2.heap.size) 8 :: rulesF (some ⟨gN, 0, none⟩) (swp c.R x y) c.nr kN :: .cell (w3.heap.size) 7 (.slice (some ⟨gN, 0, none⟩) c.nr kN) :: .is (w3.heap.size) 7 :: .cell (w3.heap.size) 0 (.bool (c.o 0)) :: .cell (w3.heap.size) 1 (.bool (c.o 1)) :: .cell (w3.heap.size) 2 (.bool (c.o 2)) :: .cell (w3.heap.size) 3 (.bool (c.o 3)) :: .cell (w3.heap.size) 4 (.bool (c.o 4)) :: .cell (w3.heap.size) 5 (.bool (c.o 5)) :: .cell (w3.heap.size) 6 (.bool (c.o 6)) :: .cell (w3.heap.size) 8 (.slice aD c.nd cD) :: .free (w3.heap.size) 0 :: .free (w3.heap.size) 1 :: .free (w3.heap.size) 2 :: .free (w3.heap.size) 3 :: .free (w3.heap.size) 4 :: .free (w3.heap.size) 5 :: .free (w3.heap.size) 6 :: .free (w3.heap.size) 7 :: .free (w3.heap.size) 8 :: .cell (w.heap.size + 1) 0 (.bool (c.o 0)) :: .cell (w.heap.size + 1) 1 (.bool (c.o 1)) :: .cell (w.heap.size + 1) 2 (.bool (c.o 2)) :: .cell (w.heap.size + 1) 3 (.bool (c.o 3)) :: .cell (w.heap.size + 1) 4 (.bool (c.o 4)) :: .cell (w.heap.size + 1) 5 (.bool (c.o 5)) :: .cell (w.heap.size + 1) 6 (.bool (c.o 6)) :: .cell (w.heap.size + 1) 7 (.slice (some ⟨bR, oR, none⟩) c.nr cR) :: .cell (w.heap.size + 1) 8 (.slice aD c.nd cD) :: .free (w.heap.size + 1) 0 :: .free (w.heap.size + 1) 1 :: .free (w.heap.size + 1) 2 :: .free (w.heap.size + 1) 3 :: .free (w.heap.size + 1) 4 :: .free (w.heap.size + 1) 5 :: .free (w.heap.size + 1) 6 :: .free (w.heap.size + 1) 7 :: .free (w.heap.size + 1) 8 :: .cell (w.heap.size) 0 (.bool (c.o 0)) :: .cell (w.heap.size) 1 (.bool (c.o 1)) :: .cell (w.heap.size) 2 (.bool (c.o 2)) :: .cell (w.heap.size) 3 (.bool (c.o 3)) :: .cell (w.heap.size) 4 (.bool (c.o 4)) :: .cell (w.heap.size) 5 (.bool (c.o 5)) :: .cell (w.heap.size) 6 (.bool (c.o 6)) :: .cell (w.heap.size) 7 (.slice (some ⟨bR, oR, none⟩) c.nr cR) :: .cell (w.heap.size) 8 (.slice aD c.nd cD) :: .cell (w.heap.size) 9 (.int .u8 i) :: .cell (w.heap.size) 10 (.int .u8 j) :: .cell (w.heap.size) 11 (.int .i64 n) :: .free (w.heap.size) 0 :: .free (w.heap.size) 1 :: .free (w.heap.size) 2 :: .free (w.heap.size) 3 :: .free (w.heap.size) 4 :: .free (w.heap.size) 5 :: .free (w.heap.size) 6 :: .free (w.heap.size) 7 :: .free (w.heap.size) 8 :: .free (w.heap.size) 9 :: .free (w.heap.size) 10 :: .free (w.heap.size) 11 :: .cell (bR) (oR + x * 8 + 7) (.int .i64 (c.R x).t) :: .cell (bR) (oR + x * 8 + 6) (.int .i64 (c.R x).f) :: .cell (bR) (oR + x * 8 + 5) (.int .i64 (c.R x).s) :: .cell (bR) (oR + x * 8 + 4) (.int .i64 (c.R x).o) :: .cell (bR) (oR + x * 8 + 3) (.int .i64 (c.R x).q) :: .cell (bR) (oR + x * 8 + 2) (.int .i64 (c.R x).d) :: .cell (bR) (oR + x * 8 + 1) (.int .i64 (c.R x).m) :: .cell (bR) (oR + x * 8) (.int .i64 (c.R x).k) :: calF c (some ⟨bR, oR, none⟩) cR aD cD :: factsVF :: []) W := H0.out.below B
      rw [HG.out, HA.out]
      (try simp only [Act.put, List.setIfInBounds_toArray, List.set_cons_zero, List.set_cons_succ])
      refine wpAnyH_ready (rs := [9]) (by kernel_rfl) (by simp) ?_
      refine AllReadyH.cons (o := ⟨some 83, _, _, _, _, _⟩) rfl (fun KK hK => ?_) AllReadyH.nil
      have z := Lib.hid (Z111.out (W.alloc (.cells #[.int .i64 (c.R x).k, .int .i64 (c.R x).m, .int .i64 (c.R x).d, .int .i64 (c.R x).q, .int .i64 (c.R x).o, .int .i64 (c.R x).s, .int .i64 (c.R x).f, .int .i64 (c.R x).t] 51)) g0 v1 W.heap.size (B.alloc B.size _) (o1.alloc _) (row_new W (c.R x)) (by simp))
      go_wp2_with fail
      refine hK.out _ _ (KS.out _ (H.alloc _)) (fun _ => ?_)
      clear hK KK
      replace z := z.out
      (try simp only [Act.put, List.setIfInBounds_toArray, List.set_cons_zero, List.set_cons_succ])
      rw [HG.out, HA.out] at z
      (try simp only [Act.put, List.setIfInBounds_toArray, List.set_cons_zero, List.set_cons_succ] at z)
      exact z)
    have Z001 : Hid (∀ (W : World) (g1 : Nat), Below W0.heap.size W0 W → Row13 W 8 (some ⟨g1, 0, none⟩) 1 (rc (c.R x)) → g1 < W.heap.size → G 5 #[false, true, true, false, true, true, true, true, true, true, false, false, false] (Act.put A (some 83) (.slice (some ⟨g1, 0, none⟩) 1 1)) W) := Lib.hid (by
      intro W g1 B rr lg
      have H : Held w (.is (V2.heap.size) 7 :: .cell (V2.heap.size) 0 (.bool (c.o 0)) :: .cell (V2.heap.size) 1 (.bool (c.o 1)) :: .cell (V2.heap.size) 2 (.bool (c.o 2)) :: .cell (V2.heap.size) 3 (.bool (c.o 3)) :: .cell (V2.heap.size) 4 (.bool (c.o 4)) :: .cell (V2.heap.size) 5 (.bool (c.o 5)) :: .cell (V2.heap.size) 6 (.bool (c.o 6)) :: .cell (V2.heap.size) 8 (.slice aD c.nd cD) :: .free (V2.heap.size) 0 :: .free (V2.heap.size) 1 :: .free (V2.heap.size) 2 :: .free (V2.heap.size) 3 :: .free (V2.heap.size) 4 :: .free (V2.heap.size) 5 :: .free (V2.heap.size) 6 :: .free (V2.heap.size) 7 :: .free (V2.heap.size) 8 :: rulesF (some ⟨gN, 0, none⟩) (swp c.R x y) c.nr kN :: .cell (w3.heap.size) 7 (.slice (some ⟨gN, 0, none⟩) c.nr kN) :: .is (w3.heap.size) 7 :: .cell (w3.heap.size) 0 (.bool (c.o 0)) :: .cell (w3.heap.size) 1 (.bool (c.o 1)) :: .cell (w3.heap.size) 2 (.bool (c.o 2)) :: .cell (w3.heap.size) 3 (.bool (c.o 3)) :: .cell (w3.heap.size) 4 (.bool (c.o 4)) :: .cell (w3.heap.size) 5 (.bool (c.o 5)) :: .cell (w3.heap.size) 6 (.bool (c.o 6)) :: .cell (w3.heap.size) 8 (.slice aD c.nd cD) :: .free (w3.heap.size) 0 :: .free (w3.heap.size) 1 :: .free (w3.heap.size) 2 :: .free (w3.heap.size) 3 :: .free (w3.heap.size) 4 :: .free (w3.heap.size) 5 :: .free (w3.heap.size) 6 :: .free (w3.heap.size) 7 :: .free (w3.heap.size) 8 :: .cell (w.heap.size + 1) 0 (.bool (c.o 0)) :: .cell (w.heap.size + 1) 1 (.bool (c.o 1)) :: .cell (w.heap.size + 1) 2 (.bool (c.o 2)) :: .cell (w.heap.size + 1) 3 (.bool (c.o 3)) :: .cell (w.heap.size + 1) 4 (.bool (c.o 4)) :: .cell (w.heap.size + 1) 5 (.bool (c.o 5)) :: .cell (w.heap.size + 1) 6 (.bool (c.o 6)) :: .cell (w.heap.size + 1) 7 (.slice (some ⟨bR, oR, none⟩) c.nr cR) :: .cell (w.heap.size + 1) 8 (.slice aD c.nd cD) :: .free (w.heap.size + 1) 0 :: .free (w.heap.size + 1) 1 :: .free (w.heap.size + 1) 2 :: .free (w.heap.size + 1) 3 :: .free (w.heap.size + 1) 4 :: .free (w.heap.size + 1) 5 :: .free (w.heap.size + 1) 6 :: .free (w.heap.size + 1) 7 :: .free (w.heap.size + 1) 8 :: .cell (w.heap.size) 0 (.bool (c.o 0)) :: .cell (w.heap.size) 1 (.bool (c.o 1)) :: .cell (w.heap.size) 2 (.bool (c.o 2)) :: .cell (w.heap.size) 3 (.bool (c.o 3)) :: .cell (w.heap.size) 4 (.bool (c.o 4)) :: .cell (w.heap.size) 5 (.bool (c.o 5)) :: .cell (w.heap.size) 6 (.bool (c.o 6)) :: .cell (w.heap.size) 7 (.slice (some ⟨bR, oR, none⟩) c.nr cR) :: .cell (w.heap.size) 8 (.slice aD c.nd cD) :: .cell (w.heap.size) 9 (.int .u8 i) :: .cell (w.heap.size) 10 (.int .u8 j) :: .cell (w.heap.size) 11 (.int .i64 n) :: .free (w.heap.size) 0 :: .free (w.heap.size) 1 :: .free (w.heap.size) 2 :: .free (w.heap.size) 3 :: .free (w.heap.size) 4 :: .free (w.heap.size) 5 :: .free (w.heap.size) 6 :: .free (w.heap.size) 7 :: .free (w.heap.size) 8 :: .free (w.heap.size) 9 :: .free (w.heap.size) 10 :: .free (w.heap.size) 11 :: .cell (bR) (oR + x * 8 + 7) (.int .i64 (c.R x).t) :: .cell (bR) (oR + x * 8 + 6) (.int .i64 (c.R x).f) :: .cell (bR) (oR + x * 8 + 5) (.int .i64 (c.R x).s) :: .cell (bR) (oR + x * 8 + 4) (.int .i64 (c.R x).o) :: .cell (bR) (oR + x * 8 + 3) (.int .i64 (c.R x).q) :: .cell (bR) (oR + x * 8 + 2) (.int .i64 (c.R x).d) :: .cell (bR) (oR + x * 8 + 1) (.int .i64 (c.R x).m) :: .cell (bR) (oR + x * 8) (.int .i64 (c.R x).k) :: calF c (some ⟨bR, oR, none⟩) cR aD cD :: factsVF :: []) W := H0.out.below B
      rw [HG.out, HA.out]
      (try simp only [Act.put, List.setIfInBounds_toArray, List.set_cons_zero, List.set_cons_succ])
      refine wpAnyH_ready (rs := [0]) (by kernel_rfl) (by simp) ?_
      refine AllReadyH.cons (o := ⟨some 74, _, _, _, _, _⟩) rfl (fun KK hK => ?_) AllReadyH.nil
      have z := Lib.hid (Z101.out (W.alloc (.cells #[] 51)) W.heap.size g1 (B.alloc B.size _) (World.ownsRow_made W #[] 0 B.size (Nat.zero_le _) rfl) (rr.alloc _) (by simp; omega) (Nat.ne_of_lt lg))
      go_wp2_with fail
      refine hK.out _ _ (KS.out _ (H.alloc _)) (fun _ => ?_)
      clear hK KK
      replace z := z.out
      (try simp only [Act.put, List.setIfInBounds_toArray, List.set_cons_zero, List.set_cons_succ])
      rw [HG.out, HA.out] at z
      (try simp only [Act.put, List.setIfInBounds_toArray, List.set_cons_zero, List.set_cons_succ] at z)
      exact z)
    have Z100 : Hid (∀ (W : World) (g0 : Nat), Below W0.heap.size W0 W → W.ownsRow W0.heap.size 51 8 (.slice (some ⟨g0, 0, none⟩) 0 0) 0 [] → G 5 #[true, true, true, false, true, true, true, true, true, false, false, false, false] (Act.put A (some 74) (.slice (some ⟨g0, 0, none⟩) 0 0)) W) := Lib.hid (by
      intro W g0 B o0
      have H : Held w (.is (V2.heap.size) 7 :: .cell (V2.heap.size) 0 (.bool (c.o 0)) :: .cell (V2.heap.size) 1 (.bool (c.o 1)) :: .cell (V2.heap.size) 2 (.bool (c.o 2)) :: .cell (V2.heap.size) 3 (.bool (c.o 3)) :: .cell (V2.heap.size) 4 (.bool (c.o 4)) :: .cell (V2.heap.size) 5 (.bool (c.o 5)) :: .cell (V2.heap.size) 6 (.bool (c.o 6)) :: .cell (V2.heap.size) 8 (.slice aD c.nd cD) :: .free (V2.heap.size) 0 :: .free (V2.heap.size) 1 :: .free (V2.heap.size) 2 :: .free (V2.heap.size) 3 :: .free (V2.heap.size) 4 :: .free (V2.heap.size) 5 :: .free (V2.heap.size) 6 :: .free (V2.heap.size) 7 :: .free (V2.heap.size) 8 :: rulesF (some ⟨gN, 0, none⟩) (swp c.R x y) c.nr kN :: .cell (w3.heap.size) 7 (.slice (some ⟨gN, 0, none⟩) c.nr kN) :: .is (w3.heap.size) 7 :: .cell (w3.heap.size) 0 (.bool (c.o 0)) :: .cell (w3.heap.size) 1 (.bool (c.o 1)) :: .cell (w3.heap.size) 2 (.bool (c.o 2)) :: .cell (w3.heap.size) 3 (.bool (c.o 3)) :: .cell (w3.heap.size) 4 (.bool (c.o 4)) :: .cell (w3.heap.size) 5 (.bool (c.o 5)) :: .cell (w3.heap.size) 6 (.bool (c.o 6)) :: .cell (w3.heap.size) 8 (.slice aD c.nd cD) :: .free (w3.heap.size) 0 :: .free (w3.heap.size) 1 :: .free (w3.heap.size) 2 :: .free (w3.heap.size) 3 :: .free (w3.heap.size) 4 :: .free (w3.heap.size) 5 :: .free (w3.heap.size) 6 :: .free (w3.heap.size) 7 :: .free (w3.heap.size) 8 :: .cell (w.heap.size + 1) 0 (.bool (c.o 0)) :: .cell (w.heap.size + 1) 1 (.bool (c.o 1)) :: .cell (w.heap.size + 1) 2 (.bool (c.o 2)) :: .cell (w.heap.size + 1) 3 (.bool (c.o 3)) :: .cell (w.heap.size + 1) 4 (.bool (c.o 4)) :: .cell (w.heap.size + 1) 5 (.bool (c.o 5)) :: .cell (w.heap.size + 1) 6 (.bool (c.o 6)) :: .cell (w.heap.size + 1) 7 (.slice (some ⟨bR, oR, none⟩) c.nr cR) :: .cell (w.heap.size + 1) 8 (.slice aD c.nd cD) :: .free (w.heap.size + 1) 0 :: .free (w.heap.size + 1) 1 :: .free (w.heap.size + 1) 2 :: .free (w.heap.size + 1) 3 :: .free (w.heap.size + 1) 4 :: .free (w.heap.size + 1) 5 :: .free (w.heap.size + 1) 6 :: .free (w.heap.size + 1) 7 :: .free (w.heap.size + 1) 8 :: .cell (w.heap.size) 0 (.bool (c.o 0)) :: .cell (w.heap.size) 1 (.bool (c.o 1)) :: .cell (w.heap.size) 2 (.bool (c.o 2)) :: .cell (w.heap.size) 3 (.bool (c.o 3)) :: .cell (w.heap.size) 4 (.bool (c.o 4)) :: .cell (w.heap.size) 5 (.bool (c.o 5)) :: .cell (w.heap.size) 6 (.bool (c.o 6)) :: .cell (w.heap.size) 7 (.slice (some ⟨bR, oR, none⟩) c.nr cR) :: .cell (w.heap.size) 8 (.slice aD c.nd cD) :: .cell (w.heap.size) 9 (.int .u8 i) :: .cell (w.heap.size) 10 (.int .u8 j) :: .cell (w.heap.size) 11 (.int .i64 n) :: .free (w.heap.size) 0 :: .free (w.heap.size) 1 :: .free (w.heap.size) 2 :: .free (w.heap.size) 3 :: .free (w.heap.size) 4 :: .free (w.heap.size) 5 :: .free (w.heap.size) 6 :: .free (w.heap.size) 7 :: .free (w.heap.size) 8 :: .free (w.heap.size) 9 :: .free (w.heap.size) 10 :: .free (w.heap.size) 11 :: .cell (bR) (oR + x * 8 + 7) (.int .i64 (c.R x).t) :: .cell (bR) (oR + x * 8 + 6) (.int .i64 (c.R x).f) :: .cell (bR) (oR + x * 8 + 5) (.int .i64 (c.R x).s) :: .cell (bR) (oR + x * 8 + 4) (.int .i64 (c.R x).o) :: .cell (bR) (oR + x * 8 + 3) (.int .i64 (c.R x).q) :: .cell (bR) (oR + x * 8 + 2) (.int .i64 (c.R x).d) :: .cell (bR) (oR + x * 8 + 1) (.int .i64 (c.R x).m) :: .cell (bR) (oR + x * 8) (.int .i64 (c.R x).k) :: calF c (some ⟨bR, oR, none⟩) cR aD cD :: factsVF :: []) W := H0.out.below B
      rw [HG.out, HA.out]
      (try simp only [Act.put, List.setIfInBounds_toArray, List.set_cons_zero, List.set_cons_succ])
      refine wpAnyH_ready (rs := [3, 9]) (by kernel_rfl) (by simp) ?_
      refine AllReadyH.cons (o := ⟨some 77, _, _, _, _, _⟩) rfl (fun KK hK => ?_) ?_
      · skip
        obtain ⟨v1, w1, hr, ho, hg⟩ := app13 W0.heap.size 23 23 51 i0 (.agg #[.int .i64 0, .int .i64 0, .int .i64 0, .int .i64 0, .int .i64 0, .int .i64 0, .int .i64 0, .int .i64 0]) 8 64 Tryd.underlying23 hi hz0 hz1 hz2 rfl (by decide) _ _ _ o0 (some ⟨bR, oR, none⟩) c.nr cR (rl c.R c.nr) (RC.out.below B) (by omega) (by decide) B.size
        rw [Nat.zero_add, List.nil_append] at ho
        have B2 := B.trans (grown_own B.size o0 hg)
        have z := Lib.hid (Z110.out w1 g0 v1 B2 ho)
        refine Lib.wp_append_run _ (.tmp 74) (.tmp 76) 23 23 rfl _ _ rfl rfl _ _ hr ?_
        refine hK.out _ _ (KS.out _ (H0.out.below B2)) (fun _ => ?_)
        clear hK KK
        replace z := z.out
        (try simp only [Act.put, List.setIfInBounds_toArray, List.set_cons_zero, List.set_cons_succ])
        rw [HG.out, HA.out] at z
        (try simp only [Act.put, List.setIfInBounds_toArray, List.set_cons_zero, List.set_cons_succ] at z)
        exact z
      refine AllReadyH.cons (o := ⟨some 83, _, _, _, _, _⟩) rfl (fun KK hK => ?_) AllReadyH.nil
      have z := Lib.hid (Z101.out (W.alloc (.cells #[.int .i64 (c.R x).k, .int .i64 (c.R x).m, .int .i64 (c.R x).d, .int .i64 (c.R x).q, .int .i64 (c.R x).o, .int .i64 (c.R x).s, .int .i64 (c.R x).f, .int .i64 (c.R x).t] 51)) g0 W.heap.size (B.alloc B.size _) (o0.alloc _) (row_new W (c.R x)) (by simp) (Nat.ne_of_gt (World.ownsRow.lt o0 g0 rfl).2))
      go_wp2_with fail
      refine hK.out _ _ (KS.out _ (H.alloc _)) (fun _ => ?_)
      clear hK KK
      replace z := z.out
      (try simp only [Act.put, List.setIfInBounds_toArray, List.set_cons_zero, List.set_cons_succ])
      rw [HG.out, HA.out] at z
      (try simp only [Act.put, List.setIfInBounds_toArray, List.set_cons_zero, List.set_cons_succ] at z)
      exact z)
    have Z000 : Hid (∀ (W : World), Below W0.heap.size W0 W → G 6 #[false, true, true, false, true, true, true, true, true, false, false, false, false] A W) := Lib.hid (by
      intro W B
      have H : Held w (.is (V2.heap.size) 7 :: .cell (V2.heap.size) 0 (.bool (c.o 0)) :: .cell (V2.heap.size) 1 (.bool (c.o 1)) :: .cell (V2.heap.size) 2 (.bool (c.o 2)) :: .cell (V2.heap.size) 3 (.bool (c.o 3)) :: .cell (V2.heap.size) 4 (.bool (c.o 4)) :: .cell (V2.heap.size) 5 (.bool (c.o 5)) :: .cell (V2.heap.size) 6 (.bool (c.o 6)) :: .cell (V2.heap.size) 8 (.slice aD c.nd cD) :: .free (V2.heap.size) 0 :: .free (V2.heap.size) 1 :: .free (V2.heap.size) 2 :: .free (V2.heap.size) 3 :: .free (V2.heap.size) 4 :: .free (V2.heap.size) 5 :: .free (V2.heap.size) 6 :: .free (V2.heap.size) 7 :: .free (V2.heap.size) 8 :: rulesF (some ⟨gN, 0, none⟩) (swp c.R x y) c.nr kN :: .cell (w3.heap.size) 7 (.slice (some ⟨gN, 0, none⟩) c.nr kN) :: .is (w3.heap.size) 7 :: .cell (w3.heap.size) 0 (.bool (c.o 0)) :: .cell (w3.heap.size) 1 (.bool (c.o 1)) :: .cell (w3.heap.size) 2 (.bool (c.o 2)) :: .cell (w3.heap.size) 3 (.bool (c.o 3)) :: .cell (w3.heap.size) 4 (.bool (c.o 4)) :: .cell (w3.heap.size) 5 (.bool (c.o 5)) :: .cell (w3.heap.size) 6 (.bool (c.o 6)) :: .cell (w3.heap.size) 8 (.slice aD c.nd cD) :: .free (w3.heap.size) 0 :: .free (w3.heap.size) 1 :: .free (w3.heap.size) 2 :: .free (w3.heap.size) 3 :: .free (w3.heap.size) 4 :: .free (w3.heap.size) 5 :: .free (w3.heap.size) 6 :: .free (w3.heap.size) 7 :: .free (w3.heap.size) 8 :: .cell (w.heap.size + 1) 0 (.bool (c.o 0)) :: .cell (w.heap.size + 1) 1 (.bool (c.o 1)) :: .cell (w.heap.size + 1) 2 (.bool (c.o 2)) :: .cell (w.heap.size + 1) 3 (.bool (c.o 3)) :: .cell (w.heap.size + 1) 4 (.bool (c.o 4)) :: .cell (w.heap.size + 1) 5 (.bool (c.o 5)) :: .cell (w.heap.size + 1) 6 (.bool (c.o 6)) :: .cell (w.heap.size + 1) 7 (.slice (some ⟨bR, oR, none⟩) c.nr cR) :: .cell (w.heap.size + 1) 8 (.slice aD c.nd cD) :: .free (w.heap.size + 1) 0 :: .free (w.heap.size + 1) 1 :: .free (w.heap.size + 1) 2 :: .free (w.heap.size + 1) 3 :: .free (w.heap.size + 1) 4 :: .free (w.heap.size + 1) 5 :: .free (w.heap.size + 1) 6 :: .free (w.heap.size + 1) 7 :: .free (w.heap.size + 1) 8 :: .cell (w.heap.size) 0 (.bool (c.o 0)) :: .cell (w.heap.size) 1 (.bool (c.o 1)) :: .cell (w.heap.size) 2 (.bool (c.o 2)) :: .cell (w.heap.size) 3 (.bool (c.o 3)) :: .cell (w.heap.size) 4 (.bool (c.o 4)) :: .cell (w.heap.size) 5 (.bool (c.o 5)) :: .cell (w.heap.size) 6 (.bool (c.o 6)) :: .cell (w.heap.size) 7 (.slice (some ⟨bR, oR, none⟩) c.nr cR) :: .cell (w.heap.size) 8 (.slice aD c.nd cD) :: .cell (w.heap.size) 9 (.int .u8 i) :: .cell (w.heap.size) 10 (.int .u8 j) :: .cell (w.heap.size) 11 (.int .i64 n) :: .free (w.heap.size) 0 :: .free (w.heap.size) 1 :: .free (w.heap.size) 2 :: .free (w.heap.size) 3 :: .free (w.heap.size) 4 :: .free (w.heap.size) 5 :: .free (w.heap.size) 6 :: .free (w.heap.size) 7 :: .free (w.heap.size) 8 :: .free (w.heap.size) 9 :: .free (w.heap.size) 10 :: .free (w.heap.size) 11 :: .cell (bR) (oR + x * 8 + 7) (.int .i64 (c.R x).t) :: .cell (bR) (oR + x * 8 + 6) (.int .i64 (c.R x).f) :: .cell (bR) (oR + x * 8 + 5) (.int .i64 (c.R x).s) :: .cell (bR) (oR + x * 8 + 4) (.int .i64 (c.R x).o) :: .cell (bR) (oR + x * 8 + 3) (.int .i64 (c.R x).q) :: .cell (bR) (oR + x * 8 + 2) (.int .i64 (c.R x).d) :: .cell (bR) (oR + x * 8 + 1) (.int .i64 (c.R x).m) :: .cell (bR) (oR + x * 8) (.int .i64 (c.R x).k) :: calF c (some ⟨bR, oR, none⟩) cR aD cD :: factsVF :: []) W := H0.out.below B
      rw [HG.out, HA.out]
      (try simp only [Act.put, List.setIfInBounds_toArray, List.set_cons_zero, List.set_cons_succ])
      refine wpAnyH_ready (rs := [0, 9]) (by kernel_rfl) (by simp) ?_
      refine AllReadyH.cons (o := ⟨some 74, _, _, _, _, _⟩) rfl (fun KK hK => ?_) ?_
      · skip
        have z := Lib.hid (Z100.out (W.alloc (.cells #[] 51)) W.heap.size (B.alloc B.size _) (World.ownsRow_made W #[] 0 B.size (Nat.zero_le _) rfl))
        go_wp2_with fail
        refine hK.out _ _ (KS.out _ (H.alloc _)) (fun _ => ?_)
        clear hK KK
        replace z := z.out
        (try simp only [Act.put, List.setIfInBounds_toArray, List.set_cons_zero, List.set_cons_succ])
        rw [HG.out, HA.out] at z
        (try simp only [Act.put, List.setIfInBounds_toArray, List.set_cons_zero, List.set_cons_succ] at z)
        exact z
      refine AllReadyH.cons (o := ⟨some 83, _, _, _, _, _⟩) rfl (fun KK hK => ?_) AllReadyH.nil
      have z := Lib.hid (Z001.out (W.alloc (.cells #[.int .i64 (c.R x).k, .int .i64 (c.R x).m, .int .i64 (c.R x).d, .int .i64 (c.R x).q, .int .i64 (c.R x).o, .int .i64 (c.R x).s, .int .i64 (c.R x).f, .int .i64 (c.R x).t] 51)) W.heap.size (B.alloc B.size _) (row_new W (c.R x)) (by simp))
      go_wp2_with fail
      refine hK.out _ _ (KS.out _ (H.alloc _)) (fun _ => ?_)
      clear hK KK
      replace z := z.out
      (try simp only [Act.put, List.setIfInBounds_toArray, List.set_cons_zero, List.set_cons_succ])
      rw [HG.out, HA.out] at z
      (try simp only [Act.put, List.setIfInBounds_toArray, List.set_cons_zero, List.set_cons_succ] at z)
      exact z)
    exact Z000.out W0 (Below.refl _ _))
  have Z10 : Hid (G 5 #[true, true, true, true, true, true, true, true, true, true, true, true, true, true, true, false, false, false, false, false] (Act.put A (some 65) (.agg (rc (c.R y)).toArray)) W0) := Lib.hid (by
    rw [HG.out, HA.out]
    (try simp only [Act.put, List.setIfInBounds_toArray, List.set_cons_zero, List.set_cons_succ])
    refine wpAnyH_ready (rs := [15]) (by kernel_rfl) (by simp) ?_
    refine AllReadyH.cons (o := ⟨some 70, _, _, _, _, _⟩) rfl (fun KK hK => ?_) AllReadyH.nil
    refine wanted_if (by rfl) ?_
    refine wp_load_mid 51 (.tmp 69) rfl gN (x * 8) rfl (rc (c.R x)) _ (rc_range HN29.out xl) Tryd.underlying51 rfl HSZ9.out ?_
    refine hK.out _ _ hHeld (fun _ => ?_)
    clear hK KK
    have z := Z11.out
    (try simp only [Act.put, List.setIfInBounds_toArray, List.set_cons_zero, List.set_cons_succ])
    rw [HG.out, HA.out] at z
    (try simp only [Act.put, List.setIfInBounds_toArray, List.set_cons_zero, List.set_cons_succ] at z)
    exact z)
  have Z01 : Hid (G 5 #[true, true, true, true, true, true, true, true, true, true, false, true, true, true, true, true, false, false, false, false] (Act.put A (some 70) (.agg (rc (c.R x)).toArray)) W0) := Lib.hid (by
    rw [HG.out, HA.out]
    (try simp only [Act.put, List.setIfInBounds_toArray, List.set_cons_zero, List.set_cons_succ])
    refine wpAnyH_ready (rs := [10]) (by kernel_rfl) (by simp) ?_
    refine AllReadyH.cons (o := ⟨some 65, _, _, _, _, _⟩) rfl (fun KK hK => ?_) AllReadyH.nil
    refine wanted_if (by rfl) ?_
    refine wp_load_mid 51 (.tmp 64) rfl gN (y * 8) rfl (rc (c.R y)) _ (rc_range HN29.out yl) Tryd.underlying51 rfl HSZ9.out ?_
    refine hK.out _ _ hHeld (fun _ => ?_)
    clear hK KK
    have z := Z11.out
    (try simp only [Act.put, List.setIfInBounds_toArray, List.set_cons_zero, List.set_cons_succ])
    rw [HG.out, HA.out] at z
    (try simp only [Act.put, List.setIfInBounds_toArray, List.set_cons_zero, List.set_cons_succ] at z)
    exact z)
  rw [HG.out, HA.out]
  refine wpAnyH_ready (rs := [10, 15]) (by kernel_rfl) (by simp) ?_
  refine AllReadyH.cons (o := ⟨some 65, _, _, _, _, _⟩) rfl (fun KK hK => ?_) ?_
  · skip
    refine wanted_if (by rfl) ?_
    refine wp_load_mid 51 (.tmp 64) rfl gN (y * 8) rfl (rc (c.R y)) _ (rc_range HN29.out yl) Tryd.underlying51 rfl HSZ9.out ?_
    refine hK.out _ _ hHeld (fun _ => ?_)
    clear hK KK
    have z := Z10.out
    (try simp only [Act.put, List.setIfInBounds_toArray, List.set_cons_zero, List.set_cons_succ])
    rw [HG.out, HA.out] at z
    (try simp only [Act.put, List.setIfInBounds_toArray, List.set_cons_zero, List.set_cons_succ] at z)
    exact z
  refine AllReadyH.cons (o := ⟨some 70, _, _, _, _, _⟩) rfl (fun KK hK => ?_) AllReadyH.nil
  refine wanted_if (by rfl) ?_
  refine wp_load_mid 51 (.tmp 69) rfl gN (x * 8) rfl (rc (c.R x)) _ (rc_range HN29.out xl) Tryd.underlying51 rfl HSZ9.out ?_
  refine hK.out _ _ hHeld (fun _ => ?_)
  clear hK KK
  have z := Z01.out
  (try simp only [Act.put, List.setIfInBounds_toArray, List.set_cons_zero, List.set_cons_succ])
  rw [HG.out, HA.out] at z
  (try simp only [Act.put, List.setIfInBounds_toArray, List.set_cons_zero, List.set_cons_succ] at z)
  exact z
end Go.Proofs.YtkadodkdbopgnaaDoor
