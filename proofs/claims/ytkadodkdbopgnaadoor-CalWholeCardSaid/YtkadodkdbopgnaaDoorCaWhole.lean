/- CalWhole: the walk. -/
import Derived.Test.YtkadodkdbopgnaaDoorCaShown
import Derived.Test.YtkadodkdbopgnaaDoorCaBox
import Derived.Test.YtkadodkdbopgnaaDoorCaCnt
import Derived.Test.YtkadodkdbopgnaaDoorCaArr
namespace Go.Proofs.YtkadodkdbopgnaaDoor
open Go.RowKit
set_option linter.unusedVariables false
set_option linter.unusedSimpArgs false


set_option maxHeartbeats 8000000 in
set_option maxRecDepth 100000 in
theorem cawhole_n (K : CalWay) (o : Nat → Bool) (n i j k : Int) (w : World) (hL : FactsV w) (bi : 0 ≤ i ∧ i < 256) (bj : 0 ≤ j ∧ j < 256) (bn : -9223372036854775808 ≤ n ∧ n < 9223372036854775808) (hk : i % 15 = k) (kb : 0 ≤ k ∧ k < 15) (hn : decide (1 ≤ n ∧ n ≤ 3652059) = false) :
    Calls Tryd.prog 10 #[.agg #[.bool (o 0), .bool (o 1), .bool (o 2), .bool (o 3), .bool (o 4), .bool (o 5), .bool (o 6), .int .i64 n, .int .u8 i, .int .u8 j]] w fun e w' => e = .returned (.bool true) ∧ Below w.heap.size w w' := by
  have H := (Held.start w).add (f := factsVF) hL
  clear hL
  have QR : Hid (∀ b v, (b = true ↔ (wcal o).May) → Calls Tryd.prog 13 #[.agg #[.bool (o 0), .bool (o 1), .bool (o 2), .bool (o 3), .bool (o 4), .bool (o 5), .bool (o 6), .slice none 0 0, .slice none 0 0]] v fun e w' => e = .returned (.bool b) ∧ Below v.heap.size v w') :=
    Lib.hid (fun b v hb => rcmay_any (wcal o) none 0 none 0 b v (wcal_few o).small (cal_none v _ _ _) hb)
  have HK := Lib.hid hk
  have HN := Lib.hid hn
  clear hk hn
  go_enter Tryd.func10, Tryd.ntmps10
  go_wp2_with fail
  replace H := ((H.box_10 (w.heap.size) (.bool (o 0)) (.bool (o 1)) (.bool (o 2)) (.bool (o 3)) (.bool (o 4)) (.bool (o 5)) (.bool (o 6)) (.int .i64 n) (.int .u8 i) (.int .u8 j) 61 rfl).box_7 (w.heap.size + 1) (.bool (o 0)) (.bool (o 1)) (.bool (o 2)) (.bool (o 3)) (.bool (o 4)) (.bool (o 5)) (.bool (o 6)) 22 (by simp))
  (with_reducible refine (cashown_any K _ (H.factsV (mt32 (mt1 (mt1 mh))))).mono ?_)
  rintro e w1 ⟨rfl, hb⟩
  replace H := H.below hb
  clear hb
  have co0 := H.cell (w.heap.size + 1) 0 (.bool (o 0)) mh
  have co1 := H.cell (w.heap.size + 1) 1 (.bool (o 1)) (mt1 mh)
  have co2 := H.cell (w.heap.size + 1) 2 (.bool (o 2)) (mt1 (mt1 mh))
  have co3 := H.cell (w.heap.size + 1) 3 (.bool (o 3)) (mt1 (mt1 (mt1 mh)))
  have co4 := H.cell (w.heap.size + 1) 4 (.bool (o 4)) (mt1 (mt1 (mt1 (mt1 mh))))
  have co5 := H.cell (w.heap.size + 1) 5 (.bool (o 5)) (mt1 (mt1 (mt1 (mt1 (mt1 mh)))))
  have co6 := H.cell (w.heap.size + 1) 6 (.bool (o 6)) (mt1 (mt1 (mt1 (mt1 (mt1 (mt1 mh))))))
  have lo := H.lt (w.heap.size + 1) 0 (.bool (o 0)) mh
  go_wp2_with fail
  clear co0 co1 co2 co3 co4 co5 co6 lo
  rw [HK.out]
  replace H := (H.box_9 (w1.heap.size) (.bool (o 0)) (.bool (o 1)) (.bool (o 2)) (.bool (o 3)) (.bool (o 4)) (.bool (o 5)) (.bool (o 6)) (.slice none 0 0) (.slice none 0 0) 26 rfl)
  (with_reducible refine (Calls.same (rday13_is n false _ HN.out)).mono ?_)
  rintro e w2 ⟨rfl, hb⟩
  replace H := H.below hb
  clear hb
  go_wp2_with fail
  go_ret
  exact ⟨rfl, H.old⟩

set_option maxHeartbeats 8000000 in
set_option maxRecDepth 100000 in
theorem cawhole_o (K : CalWay) (o : Nat → Bool) (n i j k : Int) (w : World) (hL : FactsV w) (bi : 0 ≤ i ∧ i < 256) (bj : 0 ≤ j ∧ j < 256) (bn : -9223372036854775808 ≤ n ∧ n < 9223372036854775808) (hk : i % 15 = k) (kb : 0 ≤ k ∧ k < 15) (hn : decide (1 ≤ n ∧ n ≤ 3652059) = true) (hM : ¬ (wcal o).May) :
    Calls Tryd.prog 10 #[.agg #[.bool (o 0), .bool (o 1), .bool (o 2), .bool (o 3), .bool (o 4), .bool (o 5), .bool (o 6), .int .i64 n, .int .u8 i, .int .u8 j]] w fun e w' => e = .returned (.bool true) ∧ Below w.heap.size w w' := by
  have H := (Held.start w).add (f := factsVF) hL
  clear hL
  have QR : Hid (∀ b v, (b = true ↔ (wcal o).May) → Calls Tryd.prog 13 #[.agg #[.bool (o 0), .bool (o 1), .bool (o 2), .bool (o 3), .bool (o 4), .bool (o 5), .bool (o 6), .slice none 0 0, .slice none 0 0]] v fun e w' => e = .returned (.bool b) ∧ Below v.heap.size v w') :=
    Lib.hid (fun b v hb => rcmay_any (wcal o) none 0 none 0 b v (wcal_few o).small (cal_none v _ _ _) hb)
  have HK := Lib.hid hk
  have HN := Lib.hid hn
  have NM := Lib.hid hM
  clear hk hn hM
  go_enter Tryd.func10, Tryd.ntmps10
  go_wp2_with fail
  replace H := ((H.box_10 (w.heap.size) (.bool (o 0)) (.bool (o 1)) (.bool (o 2)) (.bool (o 3)) (.bool (o 4)) (.bool (o 5)) (.bool (o 6)) (.int .i64 n) (.int .u8 i) (.int .u8 j) 61 rfl).box_7 (w.heap.size + 1) (.bool (o 0)) (.bool (o 1)) (.bool (o 2)) (.bool (o 3)) (.bool (o 4)) (.bool (o 5)) (.bool (o 6)) 22 (by simp))
  (with_reducible refine (cashown_any K _ (H.factsV (mt32 (mt1 (mt1 mh))))).mono ?_)
  rintro e w1 ⟨rfl, hb⟩
  replace H := H.below hb
  clear hb
  have co0 := H.cell (w.heap.size + 1) 0 (.bool (o 0)) mh
  have co1 := H.cell (w.heap.size + 1) 1 (.bool (o 1)) (mt1 mh)
  have co2 := H.cell (w.heap.size + 1) 2 (.bool (o 2)) (mt1 (mt1 mh))
  have co3 := H.cell (w.heap.size + 1) 3 (.bool (o 3)) (mt1 (mt1 (mt1 mh)))
  have co4 := H.cell (w.heap.size + 1) 4 (.bool (o 4)) (mt1 (mt1 (mt1 (mt1 mh))))
  have co5 := H.cell (w.heap.size + 1) 5 (.bool (o 5)) (mt1 (mt1 (mt1 (mt1 (mt1 mh)))))
  have co6 := H.cell (w.heap.size + 1) 6 (.bool (o 6)) (mt1 (mt1 (mt1 (mt1 (mt1 (mt1 mh))))))
  have lo := H.lt (w.heap.size + 1) 0 (.bool (o 0)) mh
  go_wp2_with fail
  clear co0 co1 co2 co3 co4 co5 co6 lo
  rw [HK.out]
  replace H := (H.box_9 (w1.heap.size) (.bool (o 0)) (.bool (o 1)) (.bool (o 2)) (.bool (o 3)) (.bool (o 4)) (.bool (o 5)) (.bool (o 6)) (.slice none 0 0) (.slice none 0 0) 26 rfl)
  (with_reducible refine (Calls.same (rday13_is n true _ HN.out)).mono ?_)
  rintro e w2 ⟨rfl, hb⟩
  replace H := H.below hb
  clear hb
  have cc0 := H.cell (w1.heap.size) 0 (.bool (o 0)) mh
  have cc1 := H.cell (w1.heap.size) 1 (.bool (o 1)) (mt1 mh)
  have cc2 := H.cell (w1.heap.size) 2 (.bool (o 2)) (mt1 (mt1 mh))
  have cc3 := H.cell (w1.heap.size) 3 (.bool (o 3)) (mt1 (mt1 (mt1 mh)))
  have cc4 := H.cell (w1.heap.size) 4 (.bool (o 4)) (mt1 (mt1 (mt1 (mt1 mh))))
  have cc5 := H.cell (w1.heap.size) 5 (.bool (o 5)) (mt1 (mt1 (mt1 (mt1 (mt1 mh)))))
  have cc6 := H.cell (w1.heap.size) 6 (.bool (o 6)) (mt1 (mt1 (mt1 (mt1 (mt1 (mt1 mh))))))
  have cc7 := H.cell (w1.heap.size) 7 (.slice none 0 0) (mt1 (mt1 (mt1 (mt1 (mt1 (mt1 (mt1 mh)))))))
  have cc8 := H.cell (w1.heap.size) 8 (.slice none 0 0) (mt8 mh)
  have lc := H.lt (w1.heap.size) 0 (.bool (o 0)) mh
  go_wp2_with fail
  clear cc0 cc1 cc2 cc3 cc4 cc5 cc6 cc7 cc8 lc
  (with_reducible refine (QR.out false _ ⟨fun g => absurd g (by decide), fun g => absurd g NM.out⟩).mono ?_)
  rintro e w3 ⟨rfl, hb⟩
  replace H := H.below hb
  clear hb
  go_wp2_with fail
  go_ret
  exact ⟨rfl, H.old⟩

set_option maxHeartbeats 8000000 in
set_option maxRecDepth 100000 in
theorem cawhole_far (K : CalWay) (o : Nat → Bool) (n i j k : Int) (w : World) (hL : FactsV w) (bi : 0 ≤ i ∧ i < 256) (bj : 0 ≤ j ∧ j < 256) (bn : -9223372036854775808 ≤ n ∧ n < 9223372036854775808) (hk : i % 15 = k) (kb : 0 ≤ k ∧ k < 15) (hn : decide (1 ≤ n ∧ n ≤ 3652059) = true) (hM : (wcal o).May) (nb : 1 ≤ n ∧ n ≤ 3652059) (far : 3652059 < n + 7 * k) :
    Calls Tryd.prog 10 #[.agg #[.bool (o 0), .bool (o 1), .bool (o 2), .bool (o 3), .bool (o 4), .bool (o 5), .bool (o 6), .int .i64 n, .int .u8 i, .int .u8 j]] w fun e w' => e = .returned (.bool true) ∧ Below w.heap.size w w' := by
  have H := (Held.start w).add (f := factsVF) hL
  clear hL
  have QR : Hid (∀ b v, (b = true ↔ (wcal o).May) → Calls Tryd.prog 13 #[.agg #[.bool (o 0), .bool (o 1), .bool (o 2), .bool (o 3), .bool (o 4), .bool (o 5), .bool (o 6), .slice none 0 0, .slice none 0 0]] v fun e w' => e = .returned (.bool b) ∧ Below v.heap.size v w') :=
    Lib.hid (fun b v hb => rcmay_any (wcal o) none 0 none 0 b v (wcal_few o).small (cal_none v _ _ _) hb)
  have HK := Lib.hid hk
  have HN := Lib.hid hn
  have MM := Lib.hid hM
  clear hk hn hM
  go_enter Tryd.func10, Tryd.ntmps10
  go_wp2_with fail
  replace H := ((H.box_10 (w.heap.size) (.bool (o 0)) (.bool (o 1)) (.bool (o 2)) (.bool (o 3)) (.bool (o 4)) (.bool (o 5)) (.bool (o 6)) (.int .i64 n) (.int .u8 i) (.int .u8 j) 61 rfl).box_7 (w.heap.size + 1) (.bool (o 0)) (.bool (o 1)) (.bool (o 2)) (.bool (o 3)) (.bool (o 4)) (.bool (o 5)) (.bool (o 6)) 22 (by simp))
  (with_reducible refine (cashown_any K _ (H.factsV (mt32 (mt1 (mt1 mh))))).mono ?_)
  rintro e w1 ⟨rfl, hb⟩
  replace H := H.below hb
  clear hb
  have co0 := H.cell (w.heap.size + 1) 0 (.bool (o 0)) mh
  have co1 := H.cell (w.heap.size + 1) 1 (.bool (o 1)) (mt1 mh)
  have co2 := H.cell (w.heap.size + 1) 2 (.bool (o 2)) (mt1 (mt1 mh))
  have co3 := H.cell (w.heap.size + 1) 3 (.bool (o 3)) (mt1 (mt1 (mt1 mh)))
  have co4 := H.cell (w.heap.size + 1) 4 (.bool (o 4)) (mt1 (mt1 (mt1 (mt1 mh))))
  have co5 := H.cell (w.heap.size + 1) 5 (.bool (o 5)) (mt1 (mt1 (mt1 (mt1 (mt1 mh)))))
  have co6 := H.cell (w.heap.size + 1) 6 (.bool (o 6)) (mt1 (mt1 (mt1 (mt1 (mt1 (mt1 mh))))))
  have lo := H.lt (w.heap.size + 1) 0 (.bool (o 0)) mh
  go_wp2_with fail
  clear co0 co1 co2 co3 co4 co5 co6 lo
  rw [HK.out]
  replace H := (H.box_9 (w1.heap.size) (.bool (o 0)) (.bool (o 1)) (.bool (o 2)) (.bool (o 3)) (.bool (o 4)) (.bool (o 5)) (.bool (o 6)) (.slice none 0 0) (.slice none 0 0) 26 rfl)
  (with_reducible refine (Calls.same (rday13_is n true _ HN.out)).mono ?_)
  rintro e w2 ⟨rfl, hb⟩
  replace H := H.below hb
  clear hb
  have cc0 := H.cell (w1.heap.size) 0 (.bool (o 0)) mh
  have cc1 := H.cell (w1.heap.size) 1 (.bool (o 1)) (mt1 mh)
  have cc2 := H.cell (w1.heap.size) 2 (.bool (o 2)) (mt1 (mt1 mh))
  have cc3 := H.cell (w1.heap.size) 3 (.bool (o 3)) (mt1 (mt1 (mt1 mh)))
  have cc4 := H.cell (w1.heap.size) 4 (.bool (o 4)) (mt1 (mt1 (mt1 (mt1 mh))))
  have cc5 := H.cell (w1.heap.size) 5 (.bool (o 5)) (mt1 (mt1 (mt1 (mt1 (mt1 mh)))))
  have cc6 := H.cell (w1.heap.size) 6 (.bool (o 6)) (mt1 (mt1 (mt1 (mt1 (mt1 (mt1 mh))))))
  have cc7 := H.cell (w1.heap.size) 7 (.slice none 0 0) (mt1 (mt1 (mt1 (mt1 (mt1 (mt1 (mt1 mh)))))))
  have cc8 := H.cell (w1.heap.size) 8 (.slice none 0 0) (mt8 mh)
  have lc := H.lt (w1.heap.size) 0 (.bool (o 0)) mh
  go_wp2_with fail
  clear cc0 cc1 cc2 cc3 cc4 cc5 cc6 cc7 cc8 lc
  (with_reducible refine (QR.out true _ ⟨fun _ => MM.out, fun _ => rfl⟩).mono ?_)
  rintro e w3 ⟨rfl, hb⟩
  replace H := H.below hb
  clear hb
  go_wp2_with fail
  go_ret
  exact ⟨rfl, H.old⟩
theorem Held.erase13 {w W : World} {fs : List Fact} (h : Held w fs W) (k : Nat) : Held w (fs.eraseIdx k) W := h.sub (fun f hf => (List.eraseIdx_sublist fs k).subset hf)
def offc (B o : Nat) : Fact → Prop
  | .cell b i _ => b ≠ B ∨ i ≠ o
  | .free _ _ => True
  | .is _ _ => True
  | .that P _ => False
theorem Held.setc {w W : World} {fs : List Fact} (h : Held w fs W) (B o : Nat) (u : Value) (hB : w.heap.size ≤ B) (hoff : ∀ f ∈ fs, offc B o f ∨ f.at w) : Held w fs (W.setCell ⟨B, o, none⟩ u) := by
  have hb := h.old.setCell (p := ⟨B, o, none⟩) hB u
  refine ⟨hb, fun f hf => ?_⟩
  rcases hoff f hf with k | k
  · have a := h.all f hf
    cases f with
    | cell b i v =>
      exact (World.cell?_setCell_other W ⟨B, o, none⟩ ⟨b, i, none⟩ u (fun g => by
        injection g with g1 g2 _
        rcases k with k | k
        · exact k g1.symm
        · exact k g2.symm)).trans a
    | free b i => exact ⟨by simpa using a.1, by simpa [go_sem] using a.2⟩
    | is b i =>
      obtain ⟨v, hv⟩ := Option.isSome_iff_exists.1 a
      obtain ⟨v', hv'⟩ := cell?_setCell_some (p := ⟨B, o, none⟩) (x := u) hv
      exact Option.isSome_iff_exists.2 ⟨v', hv'⟩
    | that P _ => exact k.elim
  · exact Fact.below hb k

set_option maxHeartbeats 8000000 in
set_option maxRecDepth 100000 in
theorem cawhole_z (K : CalWay) (o : Nat → Bool) (n i j k : Int) (w : World) (hL : FactsV w) (bi : 0 ≤ i ∧ i < 256) (bj : 0 ≤ j ∧ j < 256) (bn : -9223372036854775808 ≤ n ∧ n < 9223372036854775808) (hk : i % 15 = k) (kb : 0 ≤ k ∧ k < 15) (hn : decide (1 ≤ n ∧ n ≤ 3652059) = true) (hM : (wcal o).May) (nb : 1 ≤ n ∧ n ≤ 3652059) (far : n + 7 * k ≤ 3652059) (p : Int) (hp : opn o 7 = p) (pb : 0 ≤ p ∧ p ≤ 7) (q0 : 0 ≤ k * p) (q1 : k * p ≤ 98) (hx : ManyIs (wcal o) n (n + 7 * k) (k * p) 0) (kz : k = 0) :
    Calls Tryd.prog 10 #[.agg #[.bool (o 0), .bool (o 1), .bool (o 2), .bool (o 3), .bool (o 4), .bool (o 5), .bool (o 6), .int .i64 n, .int .u8 i, .int .u8 j]] w fun e w' => e = .returned (.bool true) ∧ Below w.heap.size w w' := by
  have H := (Held.start w).add (f := factsVF) hL
  clear hL
  have QR : Hid (∀ b v, (b = true ↔ (wcal o).May) → Calls Tryd.prog 13 #[.agg #[.bool (o 0), .bool (o 1), .bool (o 2), .bool (o 3), .bool (o 4), .bool (o 5), .bool (o 6), .slice none 0 0, .slice none 0 0]] v fun e w' => e = .returned (.bool b) ∧ Below v.heap.size v w') :=
    Lib.hid (fun b v hb => rcmay_any (wcal o) none 0 none 0 b v (wcal_few o).small (cal_none v _ _ _) hb)
  have QM : Hid (∀ q e v, FactsV v → (wcal o).May → ManyIs (wcal o) n (n + 7 * k) q e → Calls Tryd.prog 19 #[.agg #[.bool (o 0), .bool (o 1), .bool (o 2), .bool (o 3), .bool (o 4), .bool (o 5), .bool (o 6), .slice none 0 0, .slice none 0 0], .int .i64 n, .int .i64 (n + 7 * k)] v fun e' w' => e' = .returned (.tuple #[.int .i64 q, .int .i64 e]) ∧ Below v.heap.size v w') :=
    Lib.hid (fun q e v h hM hm => K.many (wcal o) none 0 none 0 n (n + 7 * k) q e v h hM (cal_none v _ _ _) hm)
  have HK := Lib.hid hk
  have HN := Lib.hid hn
  have MM := Lib.hid hM
  have HP := Lib.hid hp
  have HX := Lib.hid hx
  have KZ := Lib.hid kz
  clear hk hn hM hp hx kz
  have QS := Lib.hid (fun v h => cashown_any K v h)
  have HL0 : Hid (FactsV w) := Lib.hid (H.factsV (List.Mem.head _))
  clear K
  go_enter Tryd.func10, Tryd.ntmps10
  go_wp2_with fail
  replace H := ((H.box_10 (w.heap.size) (.bool (o 0)) (.bool (o 1)) (.bool (o 2)) (.bool (o 3)) (.bool (o 4)) (.bool (o 5)) (.bool (o 6)) (.int .i64 n) (.int .u8 i) (.int .u8 j) 61 rfl).box_7 (w.heap.size + 1) (.bool (o 0)) (.bool (o 1)) (.bool (o 2)) (.bool (o 3)) (.bool (o 4)) (.bool (o 5)) (.bool (o 6)) 22 (by simp))
  (with_reducible refine (QS.out _ (H.factsV (mt32 (mt1 (mt1 mh))))).mono ?_)
  rintro e w1 ⟨rfl, hb⟩
  replace H := H.below hb
  clear hb
  have so := H.lt (w.heap.size + 1) 0 (.bool (o 0)) mh
  have co0 := H.cell (w.heap.size + 1) 0 (.bool (o 0)) mh
  have co1 := H.cell (w.heap.size + 1) 1 (.bool (o 1)) (mt1 mh)
  have co2 := H.cell (w.heap.size + 1) 2 (.bool (o 2)) (mt1 (mt1 mh))
  have co3 := H.cell (w.heap.size + 1) 3 (.bool (o 3)) (mt1 (mt1 (mt1 mh)))
  have co4 := H.cell (w.heap.size + 1) 4 (.bool (o 4)) (mt1 (mt1 (mt1 (mt1 mh))))
  have co5 := H.cell (w.heap.size + 1) 5 (.bool (o 5)) (mt1 (mt1 (mt1 (mt1 (mt1 mh)))))
  have co6 := H.cell (w.heap.size + 1) 6 (.bool (o 6)) (mt1 (mt1 (mt1 (mt1 (mt1 (mt1 mh))))))
  have lo := H.lt (w.heap.size + 1) 0 (.bool (o 0)) mh
  go_wp2_with fail
  clear co0 co1 co2 co3 co4 co5 co6 lo
  rw [HK.out]
  replace H := (H.box_9 (w1.heap.size) (.bool (o 0)) (.bool (o 1)) (.bool (o 2)) (.bool (o 3)) (.bool (o 4)) (.bool (o 5)) (.bool (o 6)) (.slice none 0 0) (.slice none 0 0) 26 rfl)
  (with_reducible refine (Calls.same (rday13_is n true _ HN.out)).mono ?_)
  rintro e w2 ⟨rfl, hb⟩
  replace H := H.below hb
  clear hb
  have cc0 := H.cell (w1.heap.size) 0 (.bool (o 0)) mh
  have cc1 := H.cell (w1.heap.size) 1 (.bool (o 1)) (mt1 mh)
  have cc2 := H.cell (w1.heap.size) 2 (.bool (o 2)) (mt1 (mt1 mh))
  have cc3 := H.cell (w1.heap.size) 3 (.bool (o 3)) (mt1 (mt1 (mt1 mh)))
  have cc4 := H.cell (w1.heap.size) 4 (.bool (o 4)) (mt1 (mt1 (mt1 (mt1 mh))))
  have cc5 := H.cell (w1.heap.size) 5 (.bool (o 5)) (mt1 (mt1 (mt1 (mt1 (mt1 mh)))))
  have cc6 := H.cell (w1.heap.size) 6 (.bool (o 6)) (mt1 (mt1 (mt1 (mt1 (mt1 (mt1 mh))))))
  have cc7 := H.cell (w1.heap.size) 7 (.slice none 0 0) (mt1 (mt1 (mt1 (mt1 (mt1 (mt1 (mt1 mh)))))))
  have cc8 := H.cell (w1.heap.size) 8 (.slice none 0 0) (mt8 mh)
  have lc := H.lt (w1.heap.size) 0 (.bool (o 0)) mh
  go_wp2_with fail
  clear cc0 cc1 cc2 cc3 cc4 cc5 cc6 cc7 cc8 lc
  (with_reducible refine (QR.out true _ ⟨fun _ => MM.out, fun _ => rfl⟩).mono ?_)
  rintro e w3 ⟨rfl, hb⟩
  replace H := H.below hb
  clear hb
  go_wp2_with fail
  go_loop [12, 11] (fun i u => ∃ l : Nat, l ≤ 7 ∧ i = .int .i64 l ∧ u = .int .i64 (opn o l)) (fun i _ => 7 - (intOf i).toNat)
  case atStart => exact ⟨0, by omega, rfl, rfl⟩
  case round =>
    obtain ⟨l, l7, rfl, rfl⟩ := hrel
    have lb := opn_bd o l
    by_cases hl : l < 7
    · have st := Lib.hid (opn_succ o l)
      have co0 := H.cell (w.heap.size + 1) 0 (.bool (o 0)) (mt8 (mt8 (mt1 (mt1 mh))))
      have co1 := H.cell (w.heap.size + 1) 1 (.bool (o 1)) (mt8 (mt8 (mt1 (mt1 (mt1 mh)))))
      have co2 := H.cell (w.heap.size + 1) 2 (.bool (o 2)) (mt8 (mt8 (mt1 (mt1 (mt1 (mt1 mh))))))
      have co3 := H.cell (w.heap.size + 1) 3 (.bool (o 3)) (mt8 (mt8 (mt1 (mt1 (mt1 (mt1 (mt1 mh)))))))
      have co4 := H.cell (w.heap.size + 1) 4 (.bool (o 4)) (mt8 (mt8 (mt1 (mt1 (mt1 (mt1 (mt1 (mt1 mh))))))))
      have co5 := H.cell (w.heap.size + 1) 5 (.bool (o 5)) (mt8 (mt8 (mt1 (mt1 (mt1 (mt1 (mt1 (mt1 (mt1 mh)))))))))
      have co6 := H.cell (w.heap.size + 1) 6 (.bool (o 6)) (mt8 (mt8 (mt8 mh)))
      have lo := H.lt (w.heap.size + 1) 0 (.bool (o 0)) (mt8 (mt8 (mt1 (mt1 mh))))
      have kv := off_at hl co0 co1 co2 co3 co4 co5 co6
      clear co0 co1 co2 co3 co4 co5 co6
      obtain ⟨y, hy⟩ : ∃ y, o l = y := ⟨_, rfl⟩
      rw [hy] at kv st
      clear hy
      cases y
      · go_wp2
        go_round
        case rel => exact ⟨l + 1, by omega, by go_num, by rw [st.out]; simp⟩
        case measure => simp [intOf]; omega
      · go_wp2
        go_round
        case rel => exact ⟨l + 1, by omega, by go_num, by rw [st.out]; simp⟩
        case measure => simp [intOf]; omega
    · obtain rfl : l = 7 := by omega
      rw [HP.out] at lb ⊢
      have cc0 := H.cell (w1.heap.size) 0 (.bool (o 0)) mh
      have cc1 := H.cell (w1.heap.size) 1 (.bool (o 1)) (mt1 mh)
      have cc2 := H.cell (w1.heap.size) 2 (.bool (o 2)) (mt1 (mt1 mh))
      have cc3 := H.cell (w1.heap.size) 3 (.bool (o 3)) (mt1 (mt1 (mt1 mh)))
      have cc4 := H.cell (w1.heap.size) 4 (.bool (o 4)) (mt1 (mt1 (mt1 (mt1 mh))))
      have cc5 := H.cell (w1.heap.size) 5 (.bool (o 5)) (mt1 (mt1 (mt1 (mt1 (mt1 mh)))))
      have cc6 := H.cell (w1.heap.size) 6 (.bool (o 6)) (mt1 (mt1 (mt1 (mt1 (mt1 (mt1 mh))))))
      have cc7 := H.cell (w1.heap.size) 7 (.slice none 0 0) (mt1 (mt1 (mt1 (mt1 (mt1 (mt1 (mt1 mh)))))))
      have cc8 := H.cell (w1.heap.size) 8 (.slice none 0 0) (mt8 mh)
      have lc := H.lt (w1.heap.size) 0 (.bool (o 0)) mh
      go_wp2_with fail
      clear cc0 cc1 cc2 cc3 cc4 cc5 cc6 cc7 cc8 lc
      (with_reducible refine (QM.out _ _ _ (H.factsV (mt32 (mt8 (mt8 (mt1 (mt1 (mt1 (mt1 mh)))))))) MM.out HX.out).mono ?_)
      rintro e w4 ⟨rfl, hb⟩
      replace H := H.below hb
      clear hb
      obtain rfl := KZ.out
      go_wp2_with fail
      go_ret
      exact ⟨rfl, H.old⟩

set_option maxHeartbeats 8000000 in
set_option maxRecDepth 100000 in
theorem cawhole_t (K : CalWay) (o : Nat → Bool) (n i j k m : Int) (v : Nat) (w : World) (hL : FactsV w) (bi : 0 ≤ i ∧ i < 256) (bj : 0 ≤ j ∧ j < 256) (bn : -9223372036854775808 ≤ n ∧ n < 9223372036854775808) (hk : i % 15 = k) (kb : 0 ≤ k ∧ k < 15) (hn : decide (1 ≤ n ∧ n ≤ 3652059) = true) (hM : (wcal o).May) (nb : 1 ≤ n ∧ n ≤ 3652059) (far : n + 7 * k ≤ 3652059) (p : Int) (hp : opn o 7 = p) (pb : 0 ≤ p ∧ p ≤ 7) (q0 : 0 ≤ k * p) (q1 : k * p ≤ 98) (hx : ManyIs (wcal o) n (n + 7 * k) (k * p) 0) (kp : 0 < k) (jb : 0 ≤ j % (7 * k)) (jc : j % (7 * k) < 7 * k) (hm : n + j % (7 * k) = m) (mb : 1 ≤ m ∧ m ≤ 3652059) (hv : wk m = v) (v7 : v < 7) (hN : (dcal o m).May) (hz : o v = true) (hy : ManyIs (dcal o m) n (n + 7 * k) (k * p) 0) :
    Calls Tryd.prog 10 #[.agg #[.bool (o 0), .bool (o 1), .bool (o 2), .bool (o 3), .bool (o 4), .bool (o 5), .bool (o 6), .int .i64 n, .int .u8 i, .int .u8 j]] w fun e w' => e = .returned (.bool true) ∧ Below w.heap.size w w' := by
  have H := (Held.start w).add (f := factsVF) hL
  clear hL
  have QR : Hid (∀ b v, (b = true ↔ (wcal o).May) → Calls Tryd.prog 13 #[.agg #[.bool (o 0), .bool (o 1), .bool (o 2), .bool (o 3), .bool (o 4), .bool (o 5), .bool (o 6), .slice none 0 0, .slice none 0 0]] v fun e w' => e = .returned (.bool b) ∧ Below v.heap.size v w') :=
    Lib.hid (fun b v hb => rcmay_any (wcal o) none 0 none 0 b v (wcal_few o).small (cal_none v _ _ _) hb)
  have QM : Hid (∀ q e v, FactsV v → (wcal o).May → ManyIs (wcal o) n (n + 7 * k) q e → Calls Tryd.prog 19 #[.agg #[.bool (o 0), .bool (o 1), .bool (o 2), .bool (o 3), .bool (o 4), .bool (o 5), .bool (o 6), .slice none 0 0, .slice none 0 0], .int .i64 n, .int .i64 (n + 7 * k)] v fun e' w' => e' = .returned (.tuple #[.int .i64 q, .int .i64 e]) ∧ Below v.heap.size v w') :=
    Lib.hid (fun q e v h hM hm => K.many (wcal o) none 0 none 0 n (n + 7 * k) q e v h hM (cal_none v _ _ _) hm)
  have QDM : Hid (∀ q e v B, FactsV v → (dcal o m).May → v.cell? ⟨B, 0, none⟩ = some (.int .i64 m) → ManyIs (dcal o m) n (n + 7 * k) q e → Calls Tryd.prog 19 #[.agg #[.bool (o 0), .bool (o 1), .bool (o 2), .bool (o 3), .bool (o 4), .bool (o 5), .bool (o 6), .slice none 0 0, .slice (some ⟨B, 0, none⟩) 1 1], .int .i64 n, .int .i64 (n + 7 * k)] v fun e' w' => e' = .returned (.tuple #[.int .i64 q, .int .i64 e]) ∧ Below v.heap.size v w') :=
    Lib.hid (fun q e v B h hM hc hm => K.many (dcal o m) none 0 (some ⟨B, 0, none⟩) 1 n (n + 7 * k) q e v h hM (cal_one o _ hc) hm)
  have HK := Lib.hid hk
  have HN := Lib.hid hn
  have MM := Lib.hid hM
  have HP := Lib.hid hp
  have HX := Lib.hid hx
  have HM := Lib.hid hm
  have HV := Lib.hid hv
  have MN := Lib.hid hN
  have HZ := Lib.hid hz
  have HY := Lib.hid hy
  clear hk hn hM hp hx hm hv hN hz hy
  have QS := Lib.hid (fun v h => cashown_any K v h)
  have HL0 : Hid (FactsV w) := Lib.hid (H.factsV (List.Mem.head _))
  clear K
  go_enter Tryd.func10, Tryd.ntmps10
  go_wp2_with fail
  replace H := ((H.box_10 (w.heap.size) (.bool (o 0)) (.bool (o 1)) (.bool (o 2)) (.bool (o 3)) (.bool (o 4)) (.bool (o 5)) (.bool (o 6)) (.int .i64 n) (.int .u8 i) (.int .u8 j) 61 rfl).box_7 (w.heap.size + 1) (.bool (o 0)) (.bool (o 1)) (.bool (o 2)) (.bool (o 3)) (.bool (o 4)) (.bool (o 5)) (.bool (o 6)) 22 (by simp))
  (with_reducible refine (QS.out _ (H.factsV (mt32 (mt1 (mt1 mh))))).mono ?_)
  rintro e w1 ⟨rfl, hb⟩
  replace H := H.below hb
  clear hb
  have so := H.lt (w.heap.size + 1) 0 (.bool (o 0)) mh
  have co0 := H.cell (w.heap.size + 1) 0 (.bool (o 0)) mh
  have co1 := H.cell (w.heap.size + 1) 1 (.bool (o 1)) (mt1 mh)
  have co2 := H.cell (w.heap.size + 1) 2 (.bool (o 2)) (mt1 (mt1 mh))
  have co3 := H.cell (w.heap.size + 1) 3 (.bool (o 3)) (mt1 (mt1 (mt1 mh)))
  have co4 := H.cell (w.heap.size + 1) 4 (.bool (o 4)) (mt1 (mt1 (mt1 (mt1 mh))))
  have co5 := H.cell (w.heap.size + 1) 5 (.bool (o 5)) (mt1 (mt1 (mt1 (mt1 (mt1 mh)))))
  have co6 := H.cell (w.heap.size + 1) 6 (.bool (o 6)) (mt1 (mt1 (mt1 (mt1 (mt1 (mt1 mh))))))
  have lo := H.lt (w.heap.size + 1) 0 (.bool (o 0)) mh
  go_wp2_with fail
  clear co0 co1 co2 co3 co4 co5 co6 lo
  rw [HK.out]
  replace H := (H.box_9 (w1.heap.size) (.bool (o 0)) (.bool (o 1)) (.bool (o 2)) (.bool (o 3)) (.bool (o 4)) (.bool (o 5)) (.bool (o 6)) (.slice none 0 0) (.slice none 0 0) 26 rfl)
  (with_reducible refine (Calls.same (rday13_is n true _ HN.out)).mono ?_)
  rintro e w2 ⟨rfl, hb⟩
  replace H := H.below hb
  clear hb
  have cc0 := H.cell (w1.heap.size) 0 (.bool (o 0)) mh
  have cc1 := H.cell (w1.heap.size) 1 (.bool (o 1)) (mt1 mh)
  have cc2 := H.cell (w1.heap.size) 2 (.bool (o 2)) (mt1 (mt1 mh))
  have cc3 := H.cell (w1.heap.size) 3 (.bool (o 3)) (mt1 (mt1 (mt1 mh)))
  have cc4 := H.cell (w1.heap.size) 4 (.bool (o 4)) (mt1 (mt1 (mt1 (mt1 mh))))
  have cc5 := H.cell (w1.heap.size) 5 (.bool (o 5)) (mt1 (mt1 (mt1 (mt1 (mt1 mh)))))
  have cc6 := H.cell (w1.heap.size) 6 (.bool (o 6)) (mt1 (mt1 (mt1 (mt1 (mt1 (mt1 mh))))))
  have cc7 := H.cell (w1.heap.size) 7 (.slice none 0 0) (mt1 (mt1 (mt1 (mt1 (mt1 (mt1 (mt1 mh)))))))
  have cc8 := H.cell (w1.heap.size) 8 (.slice none 0 0) (mt8 mh)
  have lc := H.lt (w1.heap.size) 0 (.bool (o 0)) mh
  go_wp2_with fail
  clear cc0 cc1 cc2 cc3 cc4 cc5 cc6 cc7 cc8 lc
  (with_reducible refine (QR.out true _ ⟨fun _ => MM.out, fun _ => rfl⟩).mono ?_)
  rintro e w3 ⟨rfl, hb⟩
  replace H := H.below hb
  clear hb
  go_wp2_with fail
  go_loop [12, 11] (fun i u => ∃ l : Nat, l ≤ 7 ∧ i = .int .i64 l ∧ u = .int .i64 (opn o l)) (fun i _ => 7 - (intOf i).toNat)
  case atStart => exact ⟨0, by omega, rfl, rfl⟩
  case round =>
    obtain ⟨l, l7, rfl, rfl⟩ := hrel
    have lb := opn_bd o l
    by_cases hl : l < 7
    · have st := Lib.hid (opn_succ o l)
      have co0 := H.cell (w.heap.size + 1) 0 (.bool (o 0)) (mt8 (mt8 (mt1 (mt1 mh))))
      have co1 := H.cell (w.heap.size + 1) 1 (.bool (o 1)) (mt8 (mt8 (mt1 (mt1 (mt1 mh)))))
      have co2 := H.cell (w.heap.size + 1) 2 (.bool (o 2)) (mt8 (mt8 (mt1 (mt1 (mt1 (mt1 mh))))))
      have co3 := H.cell (w.heap.size + 1) 3 (.bool (o 3)) (mt8 (mt8 (mt1 (mt1 (mt1 (mt1 (mt1 mh)))))))
      have co4 := H.cell (w.heap.size + 1) 4 (.bool (o 4)) (mt8 (mt8 (mt1 (mt1 (mt1 (mt1 (mt1 (mt1 mh))))))))
      have co5 := H.cell (w.heap.size + 1) 5 (.bool (o 5)) (mt8 (mt8 (mt1 (mt1 (mt1 (mt1 (mt1 (mt1 (mt1 mh)))))))))
      have co6 := H.cell (w.heap.size + 1) 6 (.bool (o 6)) (mt8 (mt8 (mt8 mh)))
      have lo := H.lt (w.heap.size + 1) 0 (.bool (o 0)) (mt8 (mt8 (mt1 (mt1 mh))))
      have kv := off_at hl co0 co1 co2 co3 co4 co5 co6
      clear co0 co1 co2 co3 co4 co5 co6
      obtain ⟨y, hy⟩ : ∃ y, o l = y := ⟨_, rfl⟩
      rw [hy] at kv st
      clear hy
      cases y
      · go_wp2
        go_round
        case rel => exact ⟨l + 1, by omega, by go_num, by rw [st.out]; simp⟩
        case measure => simp [intOf]; omega
      · go_wp2
        go_round
        case rel => exact ⟨l + 1, by omega, by go_num, by rw [st.out]; simp⟩
        case measure => simp [intOf]; omega
    · obtain rfl : l = 7 := by omega
      rw [HP.out] at lb ⊢
      have cc0 := H.cell (w1.heap.size) 0 (.bool (o 0)) mh
      have cc1 := H.cell (w1.heap.size) 1 (.bool (o 1)) (mt1 mh)
      have cc2 := H.cell (w1.heap.size) 2 (.bool (o 2)) (mt1 (mt1 mh))
      have cc3 := H.cell (w1.heap.size) 3 (.bool (o 3)) (mt1 (mt1 (mt1 mh)))
      have cc4 := H.cell (w1.heap.size) 4 (.bool (o 4)) (mt1 (mt1 (mt1 (mt1 mh))))
      have cc5 := H.cell (w1.heap.size) 5 (.bool (o 5)) (mt1 (mt1 (mt1 (mt1 (mt1 mh)))))
      have cc6 := H.cell (w1.heap.size) 6 (.bool (o 6)) (mt1 (mt1 (mt1 (mt1 (mt1 (mt1 mh))))))
      have cc7 := H.cell (w1.heap.size) 7 (.slice none 0 0) (mt1 (mt1 (mt1 (mt1 (mt1 (mt1 (mt1 mh)))))))
      have cc8 := H.cell (w1.heap.size) 8 (.slice none 0 0) (mt8 mh)
      have lc := H.lt (w1.heap.size) 0 (.bool (o 0)) mh
      go_wp2_with fail
      clear cc0 cc1 cc2 cc3 cc4 cc5 cc6 cc7 cc8 lc
      (with_reducible refine (QM.out _ _ _ (H.factsV (mt32 (mt8 (mt8 (mt1 (mt1 (mt1 (mt1 mh)))))))) MM.out HX.out).mono ?_)
      rintro e w4 ⟨rfl, hb⟩
      replace H := H.below hb
      clear hb
      have k0 : (k == 0) = false := by rw [beq_eq_false_iff_ne]; omega
      have k7 : (0 : Int) < 7 * k := by omega
      have co0 := H.cell (w.heap.size + 1) 0 (.bool (o 0)) (mt8 (mt8 (mt1 (mt1 mh))))
      have co1 := H.cell (w.heap.size + 1) 1 (.bool (o 1)) (mt8 (mt8 (mt1 (mt1 (mt1 mh)))))
      have co2 := H.cell (w.heap.size + 1) 2 (.bool (o 2)) (mt8 (mt8 (mt1 (mt1 (mt1 (mt1 mh))))))
      have co3 := H.cell (w.heap.size + 1) 3 (.bool (o 3)) (mt8 (mt8 (mt1 (mt1 (mt1 (mt1 (mt1 mh)))))))
      have co4 := H.cell (w.heap.size + 1) 4 (.bool (o 4)) (mt8 (mt8 (mt1 (mt1 (mt1 (mt1 (mt1 (mt1 mh))))))))
      have co5 := H.cell (w.heap.size + 1) 5 (.bool (o 5)) (mt8 (mt8 (mt1 (mt1 (mt1 (mt1 (mt1 (mt1 (mt1 mh)))))))))
      have co6 := H.cell (w.heap.size + 1) 6 (.bool (o 6)) (mt8 (mt8 (mt8 mh)))
      have lo := H.lt (w.heap.size + 1) 0 (.bool (o 0)) (mt8 (mt8 (mt1 (mt1 mh))))
      have cc0 := H.cell (w1.heap.size) 0 (.bool (o 0)) mh
      have cc1 := H.cell (w1.heap.size) 1 (.bool (o 1)) (mt1 mh)
      have cc2 := H.cell (w1.heap.size) 2 (.bool (o 2)) (mt1 (mt1 mh))
      have cc3 := H.cell (w1.heap.size) 3 (.bool (o 3)) (mt1 (mt1 (mt1 mh)))
      have cc4 := H.cell (w1.heap.size) 4 (.bool (o 4)) (mt1 (mt1 (mt1 (mt1 mh))))
      have cc5 := H.cell (w1.heap.size) 5 (.bool (o 5)) (mt1 (mt1 (mt1 (mt1 (mt1 mh)))))
      have cc6 := H.cell (w1.heap.size) 6 (.bool (o 6)) (mt1 (mt1 (mt1 (mt1 (mt1 (mt1 mh))))))
      have cc7 := H.cell (w1.heap.size) 7 (.slice none 0 0) (mt1 (mt1 (mt1 (mt1 (mt1 (mt1 (mt1 mh)))))))
      have cc8 := H.cell (w1.heap.size) 8 (.slice none 0 0) (mt8 mh)
      have lc := H.lt (w1.heap.size) 0 (.bool (o 0)) mh
      have fc0 := H.frozen (w1.heap.size) 0 (mt8 (mt1 mh))
      have fc1 := H.frozen (w1.heap.size) 1 (mt8 (mt1 (mt1 mh)))
      have fc2 := H.frozen (w1.heap.size) 2 (mt8 (mt1 (mt1 (mt1 mh))))
      have fc3 := H.frozen (w1.heap.size) 3 (mt8 (mt1 (mt1 (mt1 (mt1 mh)))))
      have fc4 := H.frozen (w1.heap.size) 4 (mt8 (mt1 (mt1 (mt1 (mt1 (mt1 mh))))))
      have fc5 := H.frozen (w1.heap.size) 5 (mt8 (mt1 (mt1 (mt1 (mt1 (mt1 (mt1 mh)))))))
      have fc6 := H.frozen (w1.heap.size) 6 (mt8 (mt1 (mt1 (mt1 (mt1 (mt1 (mt1 (mt1 mh))))))))
      have fc7 := H.frozen (w1.heap.size) 7 (mt8 (mt8 mh))
      have fc8 := H.frozen (w1.heap.size) 8 (mt8 (mt8 (mt1 mh)))
      go_wp2_with fail
      clear co0 co1 co2 co3 co4 co5 co6 lo cc0 cc1 cc2 cc3 cc4 cc5 cc6 cc7 cc8 lc fc0 fc1 fc2 fc3 fc4 fc5 fc6 fc7 fc8
      rw [HM.out]
      have H1 : Held w (.cell (w1.heap.size) 0 (.bool (o 0)) :: .cell (w1.heap.size) 1 (.bool (o 1)) :: .cell (w1.heap.size) 2 (.bool (o 2)) :: .cell (w1.heap.size) 3 (.bool (o 3)) :: .cell (w1.heap.size) 4 (.bool (o 4)) :: .cell (w1.heap.size) 5 (.bool (o 5)) :: .cell (w1.heap.size) 6 (.bool (o 6)) :: .cell (w1.heap.size) 7 (.slice none 0 0) :: .free (w1.heap.size) 0 :: .free (w1.heap.size) 1 :: .free (w1.heap.size) 2 :: .free (w1.heap.size) 3 :: .free (w1.heap.size) 4 :: .free (w1.heap.size) 5 :: .free (w1.heap.size) 6 :: .free (w1.heap.size) 7 :: .free (w1.heap.size) 8 :: .cell (w.heap.size + 1) 0 (.bool (o 0)) :: .cell (w.heap.size + 1) 1 (.bool (o 1)) :: .cell (w.heap.size + 1) 2 (.bool (o 2)) :: .cell (w.heap.size + 1) 3 (.bool (o 3)) :: .cell (w.heap.size + 1) 4 (.bool (o 4)) :: .cell (w.heap.size + 1) 5 (.bool (o 5)) :: .cell (w.heap.size + 1) 6 (.bool (o 6)) :: .free (w.heap.size + 1) 0 :: .free (w.heap.size + 1) 1 :: .free (w.heap.size + 1) 2 :: .free (w.heap.size + 1) 3 :: .free (w.heap.size + 1) 4 :: .free (w.heap.size + 1) 5 :: .free (w.heap.size + 1) 6 :: .cell (w.heap.size) 0 (.bool (o 0)) :: .cell (w.heap.size) 1 (.bool (o 1)) :: .cell (w.heap.size) 2 (.bool (o 2)) :: .cell (w.heap.size) 3 (.bool (o 3)) :: .cell (w.heap.size) 4 (.bool (o 4)) :: .cell (w.heap.size) 5 (.bool (o 5)) :: .cell (w.heap.size) 6 (.bool (o 6)) :: .cell (w.heap.size) 7 (.int .i64 n) :: .cell (w.heap.size) 8 (.int .u8 i) :: .cell (w.heap.size) 9 (.int .u8 j) :: .free (w.heap.size) 0 :: .free (w.heap.size) 1 :: .free (w.heap.size) 2 :: .free (w.heap.size) 3 :: .free (w.heap.size) 4 :: .free (w.heap.size) 5 :: .free (w.heap.size) 6 :: .free (w.heap.size) 7 :: .free (w.heap.size) 8 :: .free (w.heap.size) 9 :: factsVF :: []) _ := H.erase13 8
      have sc : w1.heap.size < _ := H.lt (w1.heap.size) 0 (.bool (o 0)) mh
      have c8 := H.cell (w1.heap.size) 8 (.slice none 0 0) (mt8 mh)
      replace H := H1.setc (w1.heap.size) 8 (.slice (some ⟨w4.heap.size, 0, none⟩) 1 1) (by omega) (fun f hf => by
        simp only [List.mem_cons, List.not_mem_nil, or_false] at hf
        rcases hf with rfl | rfl | rfl | rfl | rfl | rfl | rfl | rfl | rfl | rfl | rfl | rfl | rfl | rfl | rfl | rfl | rfl | rfl | rfl | rfl | rfl | rfl | rfl | rfl | rfl | rfl | rfl | rfl | rfl | rfl | rfl | rfl | rfl | rfl | rfl | rfl | rfl | rfl | rfl | rfl | rfl | rfl | rfl | rfl | rfl | rfl | rfl | rfl | rfl | rfl | rfl | rfl
        all_goals first
          | exact Or.inl trivial
          | exact Or.inl (Or.inr (by decide))
          | exact Or.inl (Or.inl (by omega))
          | exact Or.inr HL0.out)
      replace H := H.add (f := .cell (w1.heap.size) 8 (.slice (some ⟨w4.heap.size, 0, none⟩) 1 1)) (World.cell?_setCell_same' _ _ _ (by rw [c8]; rfl))
      clear H1 c8 sc
      replace H := H.lone (w4.heap.size) (.int .i64 m) 3 (by simp)
      (with_reducible refine (QDM.out _ _ _ _ (H.factsV (mt32 (mt8 (mt8 (mt1 (mt1 (mt1 (mt1 (mt1 (mt1 mh)))))))))) MN.out (H.cell (w4.heap.size) 0 (.int .i64 m) mh) HY.out).mono ?_)
      rintro e w5 ⟨rfl, hb⟩
      replace H := H.below hb
      clear hb
      go_wp2_with fail
      (with_reducible refine (rweek_is m v _ HV.out).mono ?_)
      rintro e w6 ⟨rfl, hb⟩
      replace H := H.below hb
      clear hb
      have co0 := H.cell (w.heap.size + 1) 0 (.bool (o 0)) (mt8 (mt8 (mt1 (mt1 (mt1 (mt1 mh))))))
      have co1 := H.cell (w.heap.size + 1) 1 (.bool (o 1)) (mt8 (mt8 (mt1 (mt1 (mt1 (mt1 (mt1 mh)))))))
      have co2 := H.cell (w.heap.size + 1) 2 (.bool (o 2)) (mt8 (mt8 (mt1 (mt1 (mt1 (mt1 (mt1 (mt1 mh))))))))
      have co3 := H.cell (w.heap.size + 1) 3 (.bool (o 3)) (mt8 (mt8 (mt1 (mt1 (mt1 (mt1 (mt1 (mt1 (mt1 mh)))))))))
      have co4 := H.cell (w.heap.size + 1) 4 (.bool (o 4)) (mt8 (mt8 (mt8 mh)))
      have co5 := H.cell (w.heap.size + 1) 5 (.bool (o 5)) (mt8 (mt8 (mt8 (mt1 mh))))
      have co6 := H.cell (w.heap.size + 1) 6 (.bool (o 6)) (mt8 (mt8 (mt8 (mt1 (mt1 mh)))))
      have lo := H.lt (w.heap.size + 1) 0 (.bool (o 0)) (mt8 (mt8 (mt1 (mt1 (mt1 (mt1 mh))))))
      have kv := off_at v7 co0 co1 co2 co3 co4 co5 co6
      rw [HZ.out] at kv
      clear co0 co1 co2 co3 co4 co5 co6
      go_wp2_with fail
      go_ret
      exact ⟨rfl, H.old⟩

set_option maxHeartbeats 8000000 in
set_option maxRecDepth 100000 in
theorem cawhole_f (K : CalWay) (o : Nat → Bool) (n i j k m : Int) (v : Nat) (w : World) (hL : FactsV w) (bi : 0 ≤ i ∧ i < 256) (bj : 0 ≤ j ∧ j < 256) (bn : -9223372036854775808 ≤ n ∧ n < 9223372036854775808) (hk : i % 15 = k) (kb : 0 ≤ k ∧ k < 15) (hn : decide (1 ≤ n ∧ n ≤ 3652059) = true) (hM : (wcal o).May) (nb : 1 ≤ n ∧ n ≤ 3652059) (far : n + 7 * k ≤ 3652059) (p : Int) (hp : opn o 7 = p) (pb : 0 ≤ p ∧ p ≤ 7) (q0 : 0 ≤ k * p) (q1 : k * p ≤ 98) (hx : ManyIs (wcal o) n (n + 7 * k) (k * p) 0) (kp : 0 < k) (jb : 0 ≤ j % (7 * k)) (jc : j % (7 * k) < 7 * k) (hm : n + j % (7 * k) = m) (mb : 1 ≤ m ∧ m ≤ 3652059) (hv : wk m = v) (v7 : v < 7) (hN : (dcal o m).May) (hz : o v = false) (hy : ManyIs (dcal o m) n (n + 7 * k) (k * p - 1) 0) :
    Calls Tryd.prog 10 #[.agg #[.bool (o 0), .bool (o 1), .bool (o 2), .bool (o 3), .bool (o 4), .bool (o 5), .bool (o 6), .int .i64 n, .int .u8 i, .int .u8 j]] w fun e w' => e = .returned (.bool true) ∧ Below w.heap.size w w' := by
  have H := (Held.start w).add (f := factsVF) hL
  clear hL
  have QR : Hid (∀ b v, (b = true ↔ (wcal o).May) → Calls Tryd.prog 13 #[.agg #[.bool (o 0), .bool (o 1), .bool (o 2), .bool (o 3), .bool (o 4), .bool (o 5), .bool (o 6), .slice none 0 0, .slice none 0 0]] v fun e w' => e = .returned (.bool b) ∧ Below v.heap.size v w') :=
    Lib.hid (fun b v hb => rcmay_any (wcal o) none 0 none 0 b v (wcal_few o).small (cal_none v _ _ _) hb)
  have QM : Hid (∀ q e v, FactsV v → (wcal o).May → ManyIs (wcal o) n (n + 7 * k) q e → Calls Tryd.prog 19 #[.agg #[.bool (o 0), .bool (o 1), .bool (o 2), .bool (o 3), .bool (o 4), .bool (o 5), .bool (o 6), .slice none 0 0, .slice none 0 0], .int .i64 n, .int .i64 (n + 7 * k)] v fun e' w' => e' = .returned (.tuple #[.int .i64 q, .int .i64 e]) ∧ Below v.heap.size v w') :=
    Lib.hid (fun q e v h hM hm => K.many (wcal o) none 0 none 0 n (n + 7 * k) q e v h hM (cal_none v _ _ _) hm)
  have QDM : Hid (∀ q e v B, FactsV v → (dcal o m).May → v.cell? ⟨B, 0, none⟩ = some (.int .i64 m) → ManyIs (dcal o m) n (n + 7 * k) q e → Calls Tryd.prog 19 #[.agg #[.bool (o 0), .bool (o 1), .bool (o 2), .bool (o 3), .bool (o 4), .bool (o 5), .bool (o 6), .slice none 0 0, .slice (some ⟨B, 0, none⟩) 1 1], .int .i64 n, .int .i64 (n + 7 * k)] v fun e' w' => e' = .returned (.tuple #[.int .i64 q, .int .i64 e]) ∧ Below v.heap.size v w') :=
    Lib.hid (fun q e v B h hM hc hm => K.many (dcal o m) none 0 (some ⟨B, 0, none⟩) 1 n (n + 7 * k) q e v h hM (cal_one o _ hc) hm)
  have HK := Lib.hid hk
  have HN := Lib.hid hn
  have MM := Lib.hid hM
  have HP := Lib.hid hp
  have HX := Lib.hid hx
  have HM := Lib.hid hm
  have HV := Lib.hid hv
  have MN := Lib.hid hN
  have HZ := Lib.hid hz
  have HY := Lib.hid hy
  clear hk hn hM hp hx hm hv hN hz hy
  have QS := Lib.hid (fun v h => cashown_any K v h)
  have HL0 : Hid (FactsV w) := Lib.hid (H.factsV (List.Mem.head _))
  clear K
  go_enter Tryd.func10, Tryd.ntmps10
  go_wp2_with fail
  replace H := ((H.box_10 (w.heap.size) (.bool (o 0)) (.bool (o 1)) (.bool (o 2)) (.bool (o 3)) (.bool (o 4)) (.bool (o 5)) (.bool (o 6)) (.int .i64 n) (.int .u8 i) (.int .u8 j) 61 rfl).box_7 (w.heap.size + 1) (.bool (o 0)) (.bool (o 1)) (.bool (o 2)) (.bool (o 3)) (.bool (o 4)) (.bool (o 5)) (.bool (o 6)) 22 (by simp))
  (with_reducible refine (QS.out _ (H.factsV (mt32 (mt1 (mt1 mh))))).mono ?_)
  rintro e w1 ⟨rfl, hb⟩
  replace H := H.below hb
  clear hb
  have so := H.lt (w.heap.size + 1) 0 (.bool (o 0)) mh
  have co0 := H.cell (w.heap.size + 1) 0 (.bool (o 0)) mh
  have co1 := H.cell (w.heap.size + 1) 1 (.bool (o 1)) (mt1 mh)
  have co2 := H.cell (w.heap.size + 1) 2 (.bool (o 2)) (mt1 (mt1 mh))
  have co3 := H.cell (w.heap.size + 1) 3 (.bool (o 3)) (mt1 (mt1 (mt1 mh)))
  have co4 := H.cell (w.heap.size + 1) 4 (.bool (o 4)) (mt1 (mt1 (mt1 (mt1 mh))))
  have co5 := H.cell (w.heap.size + 1) 5 (.bool (o 5)) (mt1 (mt1 (mt1 (mt1 (mt1 mh)))))
  have co6 := H.cell (w.heap.size + 1) 6 (.bool (o 6)) (mt1 (mt1 (mt1 (mt1 (mt1 (mt1 mh))))))
  have lo := H.lt (w.heap.size + 1) 0 (.bool (o 0)) mh
  go_wp2_with fail
  clear co0 co1 co2 co3 co4 co5 co6 lo
  rw [HK.out]
  replace H := (H.box_9 (w1.heap.size) (.bool (o 0)) (.bool (o 1)) (.bool (o 2)) (.bool (o 3)) (.bool (o 4)) (.bool (o 5)) (.bool (o 6)) (.slice none 0 0) (.slice none 0 0) 26 rfl)
  (with_reducible refine (Calls.same (rday13_is n true _ HN.out)).mono ?_)
  rintro e w2 ⟨rfl, hb⟩
  replace H := H.below hb
  clear hb
  have cc0 := H.cell (w1.heap.size) 0 (.bool (o 0)) mh
  have cc1 := H.cell (w1.heap.size) 1 (.bool (o 1)) (mt1 mh)
  have cc2 := H.cell (w1.heap.size) 2 (.bool (o 2)) (mt1 (mt1 mh))
  have cc3 := H.cell (w1.heap.size) 3 (.bool (o 3)) (mt1 (mt1 (mt1 mh)))
  have cc4 := H.cell (w1.heap.size) 4 (.bool (o 4)) (mt1 (mt1 (mt1 (mt1 mh))))
  have cc5 := H.cell (w1.heap.size) 5 (.bool (o 5)) (mt1 (mt1 (mt1 (mt1 (mt1 mh)))))
  have cc6 := H.cell (w1.heap.size) 6 (.bool (o 6)) (mt1 (mt1 (mt1 (mt1 (mt1 (mt1 mh))))))
  have cc7 := H.cell (w1.heap.size) 7 (.slice none 0 0) (mt1 (mt1 (mt1 (mt1 (mt1 (mt1 (mt1 mh)))))))
  have cc8 := H.cell (w1.heap.size) 8 (.slice none 0 0) (mt8 mh)
  have lc := H.lt (w1.heap.size) 0 (.bool (o 0)) mh
  go_wp2_with fail
  clear cc0 cc1 cc2 cc3 cc4 cc5 cc6 cc7 cc8 lc
  (with_reducible refine (QR.out true _ ⟨fun _ => MM.out, fun _ => rfl⟩).mono ?_)
  rintro e w3 ⟨rfl, hb⟩
  replace H := H.below hb
  clear hb
  go_wp2_with fail
  go_loop [12, 11] (fun i u => ∃ l : Nat, l ≤ 7 ∧ i = .int .i64 l ∧ u = .int .i64 (opn o l)) (fun i _ => 7 - (intOf i).toNat)
  case atStart => exact ⟨0, by omega, rfl, rfl⟩
  case round =>
    obtain ⟨l, l7, rfl, rfl⟩ := hrel
    have lb := opn_bd o l
    by_cases hl : l < 7
    · have st := Lib.hid (opn_succ o l)
      have co0 := H.cell (w.heap.size + 1) 0 (.bool (o 0)) (mt8 (mt8 (mt1 (mt1 mh))))
      have co1 := H.cell (w.heap.size + 1) 1 (.bool (o 1)) (mt8 (mt8 (mt1 (mt1 (mt1 mh)))))
      have co2 := H.cell (w.heap.size + 1) 2 (.bool (o 2)) (mt8 (mt8 (mt1 (mt1 (mt1 (mt1 mh))))))
      have co3 := H.cell (w.heap.size + 1) 3 (.bool (o 3)) (mt8 (mt8 (mt1 (mt1 (mt1 (mt1 (mt1 mh)))))))
      have co4 := H.cell (w.heap.size + 1) 4 (.bool (o 4)) (mt8 (mt8 (mt1 (mt1 (mt1 (mt1 (mt1 (mt1 mh))))))))
      have co5 := H.cell (w.heap.size + 1) 5 (.bool (o 5)) (mt8 (mt8 (mt1 (mt1 (mt1 (mt1 (mt1 (mt1 (mt1 mh)))))))))
      have co6 := H.cell (w.heap.size + 1) 6 (.bool (o 6)) (mt8 (mt8 (mt8 mh)))
      have lo := H.lt (w.heap.size + 1) 0 (.bool (o 0)) (mt8 (mt8 (mt1 (mt1 mh))))
      have kv := off_at hl co0 co1 co2 co3 co4 co5 co6
      clear co0 co1 co2 co3 co4 co5 co6
      obtain ⟨y, hy⟩ : ∃ y, o l = y := ⟨_, rfl⟩
      rw [hy] at kv st
      clear hy
      cases y
      · go_wp2
        go_round
        case rel => exact ⟨l + 1, by omega, by go_num, by rw [st.out]; simp⟩
        case measure => simp [intOf]; omega
      · go_wp2
        go_round
        case rel => exact ⟨l + 1, by omega, by go_num, by rw [st.out]; simp⟩
        case measure => simp [intOf]; omega
    · obtain rfl : l = 7 := by omega
      rw [HP.out] at lb ⊢
      have cc0 := H.cell (w1.heap.size) 0 (.bool (o 0)) mh
      have cc1 := H.cell (w1.heap.size) 1 (.bool (o 1)) (mt1 mh)
      have cc2 := H.cell (w1.heap.size) 2 (.bool (o 2)) (mt1 (mt1 mh))
      have cc3 := H.cell (w1.heap.size) 3 (.bool (o 3)) (mt1 (mt1 (mt1 mh)))
      have cc4 := H.cell (w1.heap.size) 4 (.bool (o 4)) (mt1 (mt1 (mt1 (mt1 mh))))
      have cc5 := H.cell (w1.heap.size) 5 (.bool (o 5)) (mt1 (mt1 (mt1 (mt1 (mt1 mh)))))
      have cc6 := H.cell (w1.heap.size) 6 (.bool (o 6)) (mt1 (mt1 (mt1 (mt1 (mt1 (mt1 mh))))))
      have cc7 := H.cell (w1.heap.size) 7 (.slice none 0 0) (mt1 (mt1 (mt1 (mt1 (mt1 (mt1 (mt1 mh)))))))
      have cc8 := H.cell (w1.heap.size) 8 (.slice none 0 0) (mt8 mh)
      have lc := H.lt (w1.heap.size) 0 (.bool (o 0)) mh
      go_wp2_with fail
      clear cc0 cc1 cc2 cc3 cc4 cc5 cc6 cc7 cc8 lc
      (with_reducible refine (QM.out _ _ _ (H.factsV (mt32 (mt8 (mt8 (mt1 (mt1 (mt1 (mt1 mh)))))))) MM.out HX.out).mono ?_)
      rintro e w4 ⟨rfl, hb⟩
      replace H := H.below hb
      clear hb
      have k0 : (k == 0) = false := by rw [beq_eq_false_iff_ne]; omega
      have k7 : (0 : Int) < 7 * k := by omega
      have co0 := H.cell (w.heap.size + 1) 0 (.bool (o 0)) (mt8 (mt8 (mt1 (mt1 mh))))
      have co1 := H.cell (w.heap.size + 1) 1 (.bool (o 1)) (mt8 (mt8 (mt1 (mt1 (mt1 mh)))))
      have co2 := H.cell (w.heap.size + 1) 2 (.bool (o 2)) (mt8 (mt8 (mt1 (mt1 (mt1 (mt1 mh))))))
      have co3 := H.cell (w.heap.size + 1) 3 (.bool (o 3)) (mt8 (mt8 (mt1 (mt1 (mt1 (mt1 (mt1 mh)))))))
      have co4 := H.cell (w.heap.size + 1) 4 (.bool (o 4)) (mt8 (mt8 (mt1 (mt1 (mt1 (mt1 (mt1 (mt1 mh))))))))
      have co5 := H.cell (w.heap.size + 1) 5 (.bool (o 5)) (mt8 (mt8 (mt1 (mt1 (mt1 (mt1 (mt1 (mt1 (mt1 mh)))))))))
      have co6 := H.cell (w.heap.size + 1) 6 (.bool (o 6)) (mt8 (mt8 (mt8 mh)))
      have lo := H.lt (w.heap.size + 1) 0 (.bool (o 0)) (mt8 (mt8 (mt1 (mt1 mh))))
      have cc0 := H.cell (w1.heap.size) 0 (.bool (o 0)) mh
      have cc1 := H.cell (w1.heap.size) 1 (.bool (o 1)) (mt1 mh)
      have cc2 := H.cell (w1.heap.size) 2 (.bool (o 2)) (mt1 (mt1 mh))
      have cc3 := H.cell (w1.heap.size) 3 (.bool (o 3)) (mt1 (mt1 (mt1 mh)))
      have cc4 := H.cell (w1.heap.size) 4 (.bool (o 4)) (mt1 (mt1 (mt1 (mt1 mh))))
      have cc5 := H.cell (w1.heap.size) 5 (.bool (o 5)) (mt1 (mt1 (mt1 (mt1 (mt1 mh)))))
      have cc6 := H.cell (w1.heap.size) 6 (.bool (o 6)) (mt1 (mt1 (mt1 (mt1 (mt1 (mt1 mh))))))
      have cc7 := H.cell (w1.heap.size) 7 (.slice none 0 0) (mt1 (mt1 (mt1 (mt1 (mt1 (mt1 (mt1 mh)))))))
      have cc8 := H.cell (w1.heap.size) 8 (.slice none 0 0) (mt8 mh)
      have lc := H.lt (w1.heap.size) 0 (.bool (o 0)) mh
      have fc0 := H.frozen (w1.heap.size) 0 (mt8 (mt1 mh))
      have fc1 := H.frozen (w1.heap.size) 1 (mt8 (mt1 (mt1 mh)))
      have fc2 := H.frozen (w1.heap.size) 2 (mt8 (mt1 (mt1 (mt1 mh))))
      have fc3 := H.frozen (w1.heap.size) 3 (mt8 (mt1 (mt1 (mt1 (mt1 mh)))))
      have fc4 := H.frozen (w1.heap.size) 4 (mt8 (mt1 (mt1 (mt1 (mt1 (mt1 mh))))))
      have fc5 := H.frozen (w1.heap.size) 5 (mt8 (mt1 (mt1 (mt1 (mt1 (mt1 (mt1 mh)))))))
      have fc6 := H.frozen (w1.heap.size) 6 (mt8 (mt1 (mt1 (mt1 (mt1 (mt1 (mt1 (mt1 mh))))))))
      have fc7 := H.frozen (w1.heap.size) 7 (mt8 (mt8 mh))
      have fc8 := H.frozen (w1.heap.size) 8 (mt8 (mt8 (mt1 mh)))
      go_wp2_with fail
      clear co0 co1 co2 co3 co4 co5 co6 lo cc0 cc1 cc2 cc3 cc4 cc5 cc6 cc7 cc8 lc fc0 fc1 fc2 fc3 fc4 fc5 fc6 fc7 fc8
      rw [HM.out]
      have H1 : Held w (.cell (w1.heap.size) 0 (.bool (o 0)) :: .cell (w1.heap.size) 1 (.bool (o 1)) :: .cell (w1.heap.size) 2 (.bool (o 2)) :: .cell (w1.heap.size) 3 (.bool (o 3)) :: .cell (w1.heap.size) 4 (.bool (o 4)) :: .cell (w1.heap.size) 5 (.bool (o 5)) :: .cell (w1.heap.size) 6 (.bool (o 6)) :: .cell (w1.heap.size) 7 (.slice none 0 0) :: .free (w1.heap.size) 0 :: .free (w1.heap.size) 1 :: .free (w1.heap.size) 2 :: .free (w1.heap.size) 3 :: .free (w1.heap.size) 4 :: .free (w1.heap.size) 5 :: .free (w1.heap.size) 6 :: .free (w1.heap.size) 7 :: .free (w1.heap.size) 8 :: .cell (w.heap.size + 1) 0 (.bool (o 0)) :: .cell (w.heap.size + 1) 1 (.bool (o 1)) :: .cell (w.heap.size + 1) 2 (.bool (o 2)) :: .cell (w.heap.size + 1) 3 (.bool (o 3)) :: .cell (w.heap.size + 1) 4 (.bool (o 4)) :: .cell (w.heap.size + 1) 5 (.bool (o 5)) :: .cell (w.heap.size + 1) 6 (.bool (o 6)) :: .free (w.heap.size + 1) 0 :: .free (w.heap.size + 1) 1 :: .free (w.heap.size + 1) 2 :: .free (w.heap.size + 1) 3 :: .free (w.heap.size + 1) 4 :: .free (w.heap.size + 1) 5 :: .free (w.heap.size + 1) 6 :: .cell (w.heap.size) 0 (.bool (o 0)) :: .cell (w.heap.size) 1 (.bool (o 1)) :: .cell (w.heap.size) 2 (.bool (o 2)) :: .cell (w.heap.size) 3 (.bool (o 3)) :: .cell (w.heap.size) 4 (.bool (o 4)) :: .cell (w.heap.size) 5 (.bool (o 5)) :: .cell (w.heap.size) 6 (.bool (o 6)) :: .cell (w.heap.size) 7 (.int .i64 n) :: .cell (w.heap.size) 8 (.int .u8 i) :: .cell (w.heap.size) 9 (.int .u8 j) :: .free (w.heap.size) 0 :: .free (w.heap.size) 1 :: .free (w.heap.size) 2 :: .free (w.heap.size) 3 :: .free (w.heap.size) 4 :: .free (w.heap.size) 5 :: .free (w.heap.size) 6 :: .free (w.heap.size) 7 :: .free (w.heap.size) 8 :: .free (w.heap.size) 9 :: factsVF :: []) _ := H.erase13 8
      have sc : w1.heap.size < _ := H.lt (w1.heap.size) 0 (.bool (o 0)) mh
      have c8 := H.cell (w1.heap.size) 8 (.slice none 0 0) (mt8 mh)
      replace H := H1.setc (w1.heap.size) 8 (.slice (some ⟨w4.heap.size, 0, none⟩) 1 1) (by omega) (fun f hf => by
        simp only [List.mem_cons, List.not_mem_nil, or_false] at hf
        rcases hf with rfl | rfl | rfl | rfl | rfl | rfl | rfl | rfl | rfl | rfl | rfl | rfl | rfl | rfl | rfl | rfl | rfl | rfl | rfl | rfl | rfl | rfl | rfl | rfl | rfl | rfl | rfl | rfl | rfl | rfl | rfl | rfl | rfl | rfl | rfl | rfl | rfl | rfl | rfl | rfl | rfl | rfl | rfl | rfl | rfl | rfl | rfl | rfl | rfl | rfl | rfl | rfl
        all_goals first
          | exact Or.inl trivial
          | exact Or.inl (Or.inr (by decide))
          | exact Or.inl (Or.inl (by omega))
          | exact Or.inr HL0.out)
      replace H := H.add (f := .cell (w1.heap.size) 8 (.slice (some ⟨w4.heap.size, 0, none⟩) 1 1)) (World.cell?_setCell_same' _ _ _ (by rw [c8]; rfl))
      clear H1 c8 sc
      replace H := H.lone (w4.heap.size) (.int .i64 m) 3 (by simp)
      (with_reducible refine (QDM.out _ _ _ _ (H.factsV (mt32 (mt8 (mt8 (mt1 (mt1 (mt1 (mt1 (mt1 (mt1 mh)))))))))) MN.out (H.cell (w4.heap.size) 0 (.int .i64 m) mh) HY.out).mono ?_)
      rintro e w5 ⟨rfl, hb⟩
      replace H := H.below hb
      clear hb
      go_wp2_with fail
      (with_reducible refine (rweek_is m v _ HV.out).mono ?_)
      rintro e w6 ⟨rfl, hb⟩
      replace H := H.below hb
      clear hb
      have co0 := H.cell (w.heap.size + 1) 0 (.bool (o 0)) (mt8 (mt8 (mt1 (mt1 (mt1 (mt1 mh))))))
      have co1 := H.cell (w.heap.size + 1) 1 (.bool (o 1)) (mt8 (mt8 (mt1 (mt1 (mt1 (mt1 (mt1 mh)))))))
      have co2 := H.cell (w.heap.size + 1) 2 (.bool (o 2)) (mt8 (mt8 (mt1 (mt1 (mt1 (mt1 (mt1 (mt1 mh))))))))
      have co3 := H.cell (w.heap.size + 1) 3 (.bool (o 3)) (mt8 (mt8 (mt1 (mt1 (mt1 (mt1 (mt1 (mt1 (mt1 mh)))))))))
      have co4 := H.cell (w.heap.size + 1) 4 (.bool (o 4)) (mt8 (mt8 (mt8 mh)))
      have co5 := H.cell (w.heap.size + 1) 5 (.bool (o 5)) (mt8 (mt8 (mt8 (mt1 mh))))
      have co6 := H.cell (w.heap.size + 1) 6 (.bool (o 6)) (mt8 (mt8 (mt8 (mt1 (mt1 mh)))))
      have lo := H.lt (w.heap.size + 1) 0 (.bool (o 0)) (mt8 (mt8 (mt1 (mt1 (mt1 (mt1 mh))))))
      have kv := off_at v7 co0 co1 co2 co3 co4 co5 co6
      rw [HZ.out] at kv
      clear co0 co1 co2 co3 co4 co5 co6
      go_wp2_with fail
      go_ret
      exact ⟨rfl, H.old⟩

theorem cawhole_walk (K : CalWay) (o : Nat → Bool) (n i j : Int) (w : World) (hL : FactsV w) (bn : -9223372036854775808 ≤ n ∧ n < 9223372036854775808) (bi : 0 ≤ i ∧ i < 256) (bj : 0 ≤ j ∧ j < 256) :
    Calls Tryd.prog 10 #[.agg #[.bool (o 0), .bool (o 1), .bool (o 2), .bool (o 3), .bool (o 4), .bool (o 5), .bool (o 6), .int .i64 n, .int .u8 i, .int .u8 j]] w fun e w' => e = .returned (.bool true) ∧ Below w.heap.size w w' := by
  obtain ⟨k, hk⟩ : ∃ k, i % 15 = k := ⟨_, rfl⟩
  have kb : 0 ≤ k ∧ k < 15 := by omega
  by_cases hn : 1 ≤ n ∧ n ≤ 3652059
  · by_cases hM : (wcal o).May
    · by_cases far : n + 7 * k ≤ 3652059
      · have pb := opn_bd o 7
        obtain ⟨p, hp⟩ : ∃ p, opn o 7 = p := ⟨_, rfl⟩
        rw [hp] at pb
        have pb2 : 0 ≤ p ∧ p ≤ 7 := by omega
        have q0 : 0 ≤ k * p := Int.mul_nonneg kb.1 pb2.1
        have q1 : k * p ≤ 98 := by
          have := Int.mul_le_mul (show k ≤ 14 by omega) pb2.2 pb2.1 (by decide)
          omega
        have e7 : (n + 7 * k - n).toNat = 7 * k.toNat := by omega
        have wx : (wcal o).cnt n (7 * k.toNat) = k * p := by
          rw [weeks o n hn.1 k.toNat (by omega), hp, Int.toNat_of_nonneg kb.1]
        have hx : ManyIs (wcal o) n (n + 7 * k) (k * p) 0 := Or.inl ⟨hn, ⟨by omega, far⟩, by omega, by omega, by rw [e7, wx], rfl⟩
        by_cases kz : k = 0
        · exact cawhole_z K o n i j k w hL bi bj bn hk kb (decide_eq_true hn) hM hn far p hp pb2 q0 q1 hx kz
        · obtain ⟨m, hm⟩ : ∃ m, n + j % (7 * k) = m := ⟨_, rfl⟩
          have jb := Int.emod_nonneg j (show (7 * k) ≠ 0 by omega)
          have jc := Int.emod_lt_of_pos j (show 0 < 7 * k by omega)
          have mb : 1 ≤ m ∧ m ≤ 3652059 := by omega
          obtain ⟨v, hv, v7⟩ := wk_nat m
          have hN := dcal_may ((wcal_may o).1 hM) (m := m) mb
          have ev : (wk m).toNat = v := by rw [hv]; exact Int.toNat_natCast v
          have dx := dcnt o m n mb (7 * k.toNat)
          rw [wx] at dx
          cases hz : o v with
          | true =>
            rw [if_neg (by rintro ⟨_, g⟩; rw [ev, hz] at g; cases g)] at dx
            exact cawhole_t K o n i j k m v w hL bi bj bn hk kb (decide_eq_true hn) hM hn far p hp pb2 q0 q1 hx (by omega) jb jc hm mb hv v7 hN hz (Or.inl ⟨hn, ⟨by omega, far⟩, by omega, by omega, by rw [e7, dx]; omega, rfl⟩)
          | false =>
            rw [if_pos ⟨⟨by omega, by omega⟩, by rw [ev, hz]⟩] at dx
            exact cawhole_f K o n i j k m v w hL bi bj bn hk kb (decide_eq_true hn) hM hn far p hp pb2 q0 q1 hx (by omega) jb jc hm mb hv v7 hN hz (Or.inl ⟨hn, ⟨by omega, far⟩, by omega, by omega, by rw [e7, dx], rfl⟩)
      · exact cawhole_far K o n i j k w hL bi bj bn hk kb (decide_eq_true hn) hM hn (by omega)
    · exact cawhole_o K o n i j k w hL bi bj bn hk kb (decide_eq_true hn) hM
  · exact cawhole_n K o n i j k w hL bi bj bn hk kb (decide_eq_false hn)
end Go.Proofs.YtkadodkdbopgnaaDoor
