/- CalRules: the ends ahead; what the last part leans on. -/
import Derived.Test.YtkadodkdbopgnaaDoorCaShown
import Derived.Test.YtkadodkdbopgnaaDoorCaBox
import Derived.Test.YtkadodkdbopgnaaDoorCaRows
import Derived.Test.YtkadodkdbopgnaaDoorCaWayC
import Derived.Lib.AppendZeros
namespace Go.Proofs.YtkadodkdbopgnaaDoor
open Go.RowKit
set_option linter.unusedVariables false
set_option linter.unusedSimpArgs false

theorem capA {P : Program} {md : Region.Mode} {ops : Array Oper} {Q : Exit → Act → World → Prop} {S : World → Prop} {n : Nat} {l : Array Bool} {a : Act} {W : World}
    (h : ∀ (G : Nat → Array Bool → Act → World → Prop) (A : Act) (W0 : World), (∀ n l a W, G n l a W = wpAnyH P md ops Q S n l a W) → A = a → W0 = W → G n l A W0) : wpAnyH P md ops Q S n l a W := h _ _ _ (fun _ _ _ _ => rfl) rfl rfl
theorem Row13.grown {W W' : World} {size n : Nat} {g : Nat} {l : List Value} {row : Option Nat} (h : Row13 W size (some ⟨g, 0, none⟩) n l) (hg : W.grownBy W' row) (hn : some g ≠ row) : Row13 W' size (some ⟨g, 0, none⟩) n l :=
  ⟨h.1, h.2.1, fun hp => by
    obtain ⟨b, off, e, hc⟩ := h.2.2 hp
    injection e with e
    injection e with e1 e2 _
    subst e1 e2
    refine ⟨g, 0, rfl, fun j u hu => ?_⟩
    have := hc j u hu
    rw [add_plain13] at this ⊢
    exact hg.cell this hn⟩
theorem row_new (W : World) (r : Ru) : Row13 (W.alloc (.cells #[.int .i64 r.k, .int .i64 r.m, .int .i64 r.d, .int .i64 r.q, .int .i64 r.o, .int .i64 r.s, .int .i64 r.f, .int .i64 r.t] 51)) 8 (some ⟨W.heap.size, 0, none⟩) 1 (rc r) :=
  ⟨rfl, fun u hu => by simp [rc] at hu; rcases hu with rfl | rfl | rfl | rfl | rfl | rfl | rfl | rfl <;> rfl, fun _ => ⟨W.heap.size, 0, rfl, fun j u hu => by
    rw [add_plain13, Nat.zero_add]
    match j, hu with
    | 0, hu => obtain rfl := Option.some.inj hu; simp [World.cell?_alloc_new]
    | 1, hu => obtain rfl := Option.some.inj hu; simp [World.cell?_alloc_new]
    | 2, hu => obtain rfl := Option.some.inj hu; simp [World.cell?_alloc_new]
    | 3, hu => obtain rfl := Option.some.inj hu; simp [World.cell?_alloc_new]
    | 4, hu => obtain rfl := Option.some.inj hu; simp [World.cell?_alloc_new]
    | 5, hu => obtain rfl := Option.some.inj hu; simp [World.cell?_alloc_new]
    | 6, hu => obtain rfl := Option.some.inj hu; simp [World.cell?_alloc_new]
    | 7, hu => obtain rfl := Option.some.inj hu; simp [World.cell?_alloc_new]
    | j + 8, hu => simp [rc] at hu⟩⟩
theorem Row13.alloc {W : World} {size n : Nat} {ao : Option Addr} {l : List Value} (h : Row13 W size ao n l) (o : Obj) : Row13 (W.alloc o) size ao n l := h.below ((Below.refl _ _).alloc (Nat.le_refl _) o)
/-- Rules with one more behind. -/
def more (R : Nat → Ru) (n : Nat) (r : Ru) : Nat → Ru := fun j => if j < n then R j else r
theorem rl_more (R : Nat → Ru) (n : Nat) (r : Ru) : rl R n ++ rc r = rl (more R n r) (n + 1) := by
  show _ = rl (more R n r) n ++ rc (more R n r n)
  rw [show more R n r n = r from if_neg (Nat.lt_irrefl n), rl_ext (R := R) (S := more R n r) (fun j hj => (if_pos hj).symm)]
def Ca.plus (c : Ca) (r : Ru) : Ca := ⟨c.o, c.nr + 1, more c.R c.nr r, c.nd, c.X⟩
theorem plus_is (c : Ca) (r : Ru) (n : Int) : (c.plus r).Is n ↔ c.Is n ∧ ¬ r.Is n := by
  unfold Ca.Is Ca.plus more
  constructor
  · rintro ⟨d, o, x, h⟩
    refine ⟨⟨d, o, x, fun j hj => ?_⟩, ?_⟩
    · have q : ¬ (if j < c.nr then c.R j else r).Is n := h j (Nat.lt_succ_of_lt hj)
      rwa [if_pos hj] at q
    · have q : ¬ (if c.nr < c.nr then c.R c.nr else r).Is n := h c.nr (Nat.lt_succ_self _)
      rwa [if_neg (Nat.lt_irrefl _)] at q
  · rintro ⟨⟨d, o, x, h⟩, g⟩
    refine ⟨d, o, x, fun j hj => ?_⟩
    show ¬ (if j < c.nr then c.R j else r).Is n
    by_cases k : j < c.nr
    · rw [if_pos k]; exact h j k
    · rw [if_neg k]; exact g
theorem plus_may {c : Ca} {r : Ru} (h : c.May) (hn : c.nr ≤ 99) (hr : r.May) : (c.plus r).May := by
  obtain ⟨h1, h2, h3, h4, h5⟩ := h
  refine ⟨h1, Nat.succ_le_succ hn, h3, fun j hj => ?_, h5⟩
  show (more c.R c.nr r j).May
  unfold more
  by_cases k : j < c.nr
  · rw [if_pos k]; exact h4 j k
  · rw [if_neg k]; exact hr
theorem cal_d13 {W : World} {c : Ca} {aR : Option Addr} {cR : Nat} {aD : Option Addr} {cD : Nat} (h : CalAt W c aR cR aD cD) : DaysAt W aD c.X c.nd cD := h.2
theorem Held.erase13 {w W : World} {fs : List Fact} (h : Held w fs W) (k : Nat) : Held w (fs.eraseIdx k) W := h.sub (fun f hf => (List.eraseIdx_sublist fs k).subset hf)
def offc (B o : Nat) : Fact → Prop
  | .cell b i _ => b ≠ B ∨ i ≠ o
  | .free _ _ => True
  | .is _ _ => True
  | .that P _ => False
theorem Held.setc {w W : World} {fs : List Fact} (h : Held w fs W) (B o : Nat) (u : Value) (hB : w.heap.size ≤ B) (hoff : ∀ f ∈ fs, offc B o f ∨ f.at w) : Held w fs (W.setCell ⟨B, o, none⟩ u) := by
  have hb := h.old.setCell (p := ⟨B, o, none⟩) hB u
  refine ⟨hb, fun f hf => ?_⟩
  rcases hoff f hf with k | k
  · have a := h.all f hf
    cases f with
    | cell b i v =>
      exact (World.cell?_setCell_other W ⟨B, o, none⟩ ⟨b, i, none⟩ u (fun g => by
        injection g with g1 g2 _
        rcases k with k | k
        · exact k g1.symm
        · exact k g2.symm)).trans a
    | free b i => exact ⟨by simpa using a.1, by simpa [go_sem] using a.2⟩
    | is b i =>
      obtain ⟨v, hv⟩ := Option.isSome_iff_exists.1 a
      obtain ⟨v', hv'⟩ := cell?_setCell_some (p := ⟨B, o, none⟩) (x := u) hv
      exact Option.isSome_iff_exists.2 ⟨v', hv'⟩
    | that P _ => exact k.elim
  · exact Fact.below hb k
theorem RulesAt.set1 {W : World} {ao : Option Addr} {R : Nat → Ru} {n cap : Nat} (h : RulesAt W ao R n cap) (B o : Nat) (u : Value) (hn : ∀ p, ao = some p → p.block ≠ B) : RulesAt (W.setCell ⟨B, o, none⟩ u) ao R n cap :=
  ⟨h.1, fun hp => by
    obtain ⟨b, off, e, hc⟩ := h.2 hp
    have hb : B ≠ b := fun g => hn _ e g.symm
    have far : ∀ k, (W.setCell ⟨B, o, none⟩ u).cell? ⟨b, k, none⟩ = W.cell? ⟨b, k, none⟩ := fun k => World.cell?_setCell_far W ⟨B, o, none⟩ ⟨b, k, none⟩ u hb
    refine ⟨b, off, e, fun j hj => ?_⟩
    obtain ⟨q0, q1, q2, q3, q4, q5, q6, q7⟩ := hc j hj
    exact ⟨(far _).trans q0, (far _).trans q1, (far _).trans q2, (far _).trans q3, (far _).trans q4, (far _).trans q5, (far _).trans q6, (far _).trans q7⟩⟩
/-- A calendar with one more day of the week off. -/
def Ca.offed (c : Ca) (k : Nat) : Ca := ⟨fun i => if i = k then true else c.o i, c.nr, c.R, c.nd, c.X⟩
theorem offed_is (c : Ca) (k v : Nat) (n : Int) (hv : wk n = v) : (c.offed k).Is n ↔ c.Is n ∧ v ≠ k := by
  unfold Ca.Is Ca.offed
  have e : (wk n).toNat = v := by rw [hv]; exact Int.toNat_natCast v
  rw [e]
  constructor
  · rintro ⟨d, o, x, h⟩
    have o2 : (if v = k then true else c.o v) = false := o
    by_cases g : v = k
    · rw [if_pos g] at o2; cases o2
    · rw [if_neg g] at o2; exact ⟨⟨d, o2, x, h⟩, g⟩
  · rintro ⟨⟨d, o, x, h⟩, g⟩
    exact ⟨d, show (if v = k then true else c.o v) = false by rw [if_neg g]; exact o, x, h⟩

set_option maxHeartbeats 8000000 in
set_option maxRecDepth 100000 in
theorem carules_1 (K : CalWay) (c : Ca) (aR : Option Addr) (cR : Nat) (aD : Option Addr) (cD : Nat) (r : Ru) (z n : Int) (w : World) (hL : FactsV w) (hCc : CalAt w c aR cR aD cD) (bz : 0 ≤ z ∧ z < 256) (hf : decide (c.nr ≤ 12 ∧ c.nd ≤ 60) = false) :
    Calls Tryd.prog 8 #[.agg #[.bool (c.o 0), .bool (c.o 1), .bool (c.o 2), .bool (c.o 3), .bool (c.o 4), .bool (c.o 5), .bool (c.o 6), .slice aR c.nr cR, .slice aD c.nd cD, .int .i64 r.k, .int .i64 r.m, .int .i64 r.d, .int .i64 r.q, .int .i64 r.o, .int .i64 r.s, .int .i64 r.f, .int .i64 r.t, .int .u8 z, .int .i64 n]] w fun e w' => e = .returned (.bool true) ∧ Below w.heap.size w w' := by
  have H := ((Held.start w).add (f := factsVF) hL).add (f := calF c aR cR aD cD) hCc
  clear hL hCc
  have HF := Lib.hid hf
  clear hf
  go_enter Tryd.func8, Tryd.ntmps8
  go_wp2_with fail
  replace H := (((H.box_19 (w.heap.size) (.bool (c.o 0)) (.bool (c.o 1)) (.bool (c.o 2)) (.bool (c.o 3)) (.bool (c.o 4)) (.bool (c.o 5)) (.bool (c.o 6)) (.slice aR c.nr cR) (.slice aD c.nd cD) (.int .i64 r.k) (.int .i64 r.m) (.int .i64 r.d) (.int .i64 r.q) (.int .i64 r.o) (.int .i64 r.s) (.int .i64 r.f) (.int .i64 r.t) (.int .u8 z) (.int .i64 n) 53 rfl).box_9 (w.heap.size + 1) (.bool (c.o 0)) (.bool (c.o 1)) (.bool (c.o 2)) (.bool (c.o 3)) (.bool (c.o 4)) (.bool (c.o 5)) (.bool (c.o 6)) (.slice aR c.nr cR) (.slice aD c.nd cD) 26 (by simp)).oct (w.heap.size + 2) (.int .i64 r.k) (.int .i64 r.m) (.int .i64 r.d) (.int .i64 r.q) (.int .i64 r.o) (.int .i64 r.s) (.int .i64 r.f) (.int .i64 r.t) 51 (by simp))
  (with_reducible refine (cashown_any K _ (H.factsV (mt32 (mt32 (mt8 (mt1 mh)))))).mono ?_)
  rintro e w1 ⟨rfl, hb⟩
  replace H := H.below hb
  clear hb
  have cc0 := H.cell (w.heap.size + 1) 0 (.bool (c.o 0)) (mt8 (mt8 mh))
  have cc1 := H.cell (w.heap.size + 1) 1 (.bool (c.o 1)) (mt8 (mt8 (mt1 mh)))
  have cc2 := H.cell (w.heap.size + 1) 2 (.bool (c.o 2)) (mt8 (mt8 (mt1 (mt1 mh))))
  have cc3 := H.cell (w.heap.size + 1) 3 (.bool (c.o 3)) (mt8 (mt8 (mt1 (mt1 (mt1 mh)))))
  have cc4 := H.cell (w.heap.size + 1) 4 (.bool (c.o 4)) (mt8 (mt8 (mt1 (mt1 (mt1 (mt1 mh))))))
  have cc5 := H.cell (w.heap.size + 1) 5 (.bool (c.o 5)) (mt8 (mt8 (mt1 (mt1 (mt1 (mt1 (mt1 mh)))))))
  have cc6 := H.cell (w.heap.size + 1) 6 (.bool (c.o 6)) (mt8 (mt8 (mt1 (mt1 (mt1 (mt1 (mt1 (mt1 mh))))))))
  have cc7 := H.cell (w.heap.size + 1) 7 (.slice aR c.nr cR) (mt8 (mt8 (mt1 (mt1 (mt1 (mt1 (mt1 (mt1 (mt1 mh)))))))))
  have cc8 := H.cell (w.heap.size + 1) 8 (.slice aD c.nd cD) (mt8 (mt8 (mt8 mh)))
  have lc := H.lt (w.heap.size + 1) 0 (.bool (c.o 0)) (mt8 (mt8 mh))
  go_wp2_with fail
  clear cc0 cc1 cc2 cc3 cc4 cc5 cc6 cc7 cc8 lc
  (with_reducible refine (few_any c aR cR aD cD false _ HF.out).mono ?_)
  rintro e w2 ⟨rfl, hb⟩
  replace H := H.below hb
  clear hb
  go_wp2_with fail
  go_ret
  exact ⟨rfl, H.old⟩

set_option maxHeartbeats 8000000 in
set_option maxRecDepth 100000 in
theorem carules_2 (K : CalWay) (c : Ca) (aR : Option Addr) (cR : Nat) (aD : Option Addr) (cD : Nat) (r : Ru) (z n : Int) (w : World) (hL : FactsV w) (hCc : CalAt w c aR cR aD cD) (bz : 0 ≤ z ∧ z < 256) (hf : decide (c.nr ≤ 12 ∧ c.nd ≤ 60) = true) (hz : c.Small) (ma : ¬ c.May) :
    Calls Tryd.prog 8 #[.agg #[.bool (c.o 0), .bool (c.o 1), .bool (c.o 2), .bool (c.o 3), .bool (c.o 4), .bool (c.o 5), .bool (c.o 6), .slice aR c.nr cR, .slice aD c.nd cD, .int .i64 r.k, .int .i64 r.m, .int .i64 r.d, .int .i64 r.q, .int .i64 r.o, .int .i64 r.s, .int .i64 r.f, .int .i64 r.t, .int .u8 z, .int .i64 n]] w fun e w' => e = .returned (.bool true) ∧ Below w.heap.size w w' := by
  have H := ((Held.start w).add (f := factsVF) hL).add (f := calF c aR cR aD cD) hCc
  clear hL hCc
  have HF := Lib.hid hf
  have HZ := Lib.hid hz
  have MA := Lib.hid ma
  clear hf hz ma
  go_enter Tryd.func8, Tryd.ntmps8
  go_wp2_with fail
  replace H := (((H.box_19 (w.heap.size) (.bool (c.o 0)) (.bool (c.o 1)) (.bool (c.o 2)) (.bool (c.o 3)) (.bool (c.o 4)) (.bool (c.o 5)) (.bool (c.o 6)) (.slice aR c.nr cR) (.slice aD c.nd cD) (.int .i64 r.k) (.int .i64 r.m) (.int .i64 r.d) (.int .i64 r.q) (.int .i64 r.o) (.int .i64 r.s) (.int .i64 r.f) (.int .i64 r.t) (.int .u8 z) (.int .i64 n) 53 rfl).box_9 (w.heap.size + 1) (.bool (c.o 0)) (.bool (c.o 1)) (.bool (c.o 2)) (.bool (c.o 3)) (.bool (c.o 4)) (.bool (c.o 5)) (.bool (c.o 6)) (.slice aR c.nr cR) (.slice aD c.nd cD) 26 (by simp)).oct (w.heap.size + 2) (.int .i64 r.k) (.int .i64 r.m) (.int .i64 r.d) (.int .i64 r.q) (.int .i64 r.o) (.int .i64 r.s) (.int .i64 r.f) (.int .i64 r.t) 51 (by simp))
  (with_reducible refine (cashown_any K _ (H.factsV (mt32 (mt32 (mt8 (mt1 mh)))))).mono ?_)
  rintro e w1 ⟨rfl, hb⟩
  replace H := H.below hb
  clear hb
  have cc0 := H.cell (w.heap.size + 1) 0 (.bool (c.o 0)) (mt8 (mt8 mh))
  have cc1 := H.cell (w.heap.size + 1) 1 (.bool (c.o 1)) (mt8 (mt8 (mt1 mh)))
  have cc2 := H.cell (w.heap.size + 1) 2 (.bool (c.o 2)) (mt8 (mt8 (mt1 (mt1 mh))))
  have cc3 := H.cell (w.heap.size + 1) 3 (.bool (c.o 3)) (mt8 (mt8 (mt1 (mt1 (mt1 mh)))))
  have cc4 := H.cell (w.heap.size + 1) 4 (.bool (c.o 4)) (mt8 (mt8 (mt1 (mt1 (mt1 (mt1 mh))))))
  have cc5 := H.cell (w.heap.size + 1) 5 (.bool (c.o 5)) (mt8 (mt8 (mt1 (mt1 (mt1 (mt1 (mt1 mh)))))))
  have cc6 := H.cell (w.heap.size + 1) 6 (.bool (c.o 6)) (mt8 (mt8 (mt1 (mt1 (mt1 (mt1 (mt1 (mt1 mh))))))))
  have cc7 := H.cell (w.heap.size + 1) 7 (.slice aR c.nr cR) (mt8 (mt8 (mt1 (mt1 (mt1 (mt1 (mt1 (mt1 (mt1 mh)))))))))
  have cc8 := H.cell (w.heap.size + 1) 8 (.slice aD c.nd cD) (mt8 (mt8 (mt8 mh)))
  have lc := H.lt (w.heap.size + 1) 0 (.bool (c.o 0)) (mt8 (mt8 mh))
  go_wp2_with fail
  clear cc0 cc1 cc2 cc3 cc4 cc5 cc6 cc7 cc8 lc
  (with_reducible refine (few_any c aR cR aD cD true _ HF.out).mono ?_)
  rintro e w2 ⟨rfl, hb⟩
  replace H := H.below hb
  clear hb
  have cc0 := H.cell (w.heap.size + 1) 0 (.bool (c.o 0)) (mt8 (mt8 mh))
  have cc1 := H.cell (w.heap.size + 1) 1 (.bool (c.o 1)) (mt8 (mt8 (mt1 mh)))
  have cc2 := H.cell (w.heap.size + 1) 2 (.bool (c.o 2)) (mt8 (mt8 (mt1 (mt1 mh))))
  have cc3 := H.cell (w.heap.size + 1) 3 (.bool (c.o 3)) (mt8 (mt8 (mt1 (mt1 (mt1 mh)))))
  have cc4 := H.cell (w.heap.size + 1) 4 (.bool (c.o 4)) (mt8 (mt8 (mt1 (mt1 (mt1 (mt1 mh))))))
  have cc5 := H.cell (w.heap.size + 1) 5 (.bool (c.o 5)) (mt8 (mt8 (mt1 (mt1 (mt1 (mt1 (mt1 mh)))))))
  have cc6 := H.cell (w.heap.size + 1) 6 (.bool (c.o 6)) (mt8 (mt8 (mt1 (mt1 (mt1 (mt1 (mt1 (mt1 mh))))))))
  have cc7 := H.cell (w.heap.size + 1) 7 (.slice aR c.nr cR) (mt8 (mt8 (mt1 (mt1 (mt1 (mt1 (mt1 (mt1 (mt1 mh)))))))))
  have cc8 := H.cell (w.heap.size + 1) 8 (.slice aD c.nd cD) (mt8 (mt8 (mt8 mh)))
  have lc := H.lt (w.heap.size + 1) 0 (.bool (c.o 0)) (mt8 (mt8 mh))
  go_wp2_with fail
  clear cc0 cc1 cc2 cc3 cc4 cc5 cc6 cc7 cc8 lc
  (with_reducible refine (rcmay_any c aR cR aD cD false _ HZ.out (H.cal (mt32 (mt32 (mt8 mh)))) ⟨fun g => absurd g (by decide), fun g => absurd g MA.out⟩).mono ?_)
  rintro e w3 ⟨rfl, hb⟩
  replace H := H.below hb
  clear hb
  go_wp2_with fail
  go_ret
  exact ⟨rfl, H.old⟩

set_option maxHeartbeats 8000000 in
set_option maxRecDepth 100000 in
theorem carules_3 (K : CalWay) (c : Ca) (aR : Option Addr) (cR : Nat) (aD : Option Addr) (cD : Nat) (r : Ru) (z n : Int) (w : World) (hL : FactsV w) (hCc : CalAt w c aR cR aD cD) (bz : 0 ≤ z ∧ z < 256) (hf : decide (c.nr ≤ 12 ∧ c.nd ≤ 60) = true) (hz : c.Small) (ma : c.May) (hr : Ru.mb r = false) :
    Calls Tryd.prog 8 #[.agg #[.bool (c.o 0), .bool (c.o 1), .bool (c.o 2), .bool (c.o 3), .bool (c.o 4), .bool (c.o 5), .bool (c.o 6), .slice aR c.nr cR, .slice aD c.nd cD, .int .i64 r.k, .int .i64 r.m, .int .i64 r.d, .int .i64 r.q, .int .i64 r.o, .int .i64 r.s, .int .i64 r.f, .int .i64 r.t, .int .u8 z, .int .i64 n]] w fun e w' => e = .returned (.bool true) ∧ Below w.heap.size w w' := by
  have H := ((Held.start w).add (f := factsVF) hL).add (f := calF c aR cR aD cD) hCc
  clear hL hCc
  have HF := Lib.hid hf
  have HZ := Lib.hid hz
  have MA := Lib.hid ma
  have HR := Lib.hid hr
  clear hf hz ma hr
  go_enter Tryd.func8, Tryd.ntmps8
  go_wp2_with fail
  replace H := (((H.box_19 (w.heap.size) (.bool (c.o 0)) (.bool (c.o 1)) (.bool (c.o 2)) (.bool (c.o 3)) (.bool (c.o 4)) (.bool (c.o 5)) (.bool (c.o 6)) (.slice aR c.nr cR) (.slice aD c.nd cD) (.int .i64 r.k) (.int .i64 r.m) (.int .i64 r.d) (.int .i64 r.q) (.int .i64 r.o) (.int .i64 r.s) (.int .i64 r.f) (.int .i64 r.t) (.int .u8 z) (.int .i64 n) 53 rfl).box_9 (w.heap.size + 1) (.bool (c.o 0)) (.bool (c.o 1)) (.bool (c.o 2)) (.bool (c.o 3)) (.bool (c.o 4)) (.bool (c.o 5)) (.bool (c.o 6)) (.slice aR c.nr cR) (.slice aD c.nd cD) 26 (by simp)).oct (w.heap.size + 2) (.int .i64 r.k) (.int .i64 r.m) (.int .i64 r.d) (.int .i64 r.q) (.int .i64 r.o) (.int .i64 r.s) (.int .i64 r.f) (.int .i64 r.t) 51 (by simp))
  (with_reducible refine (cashown_any K _ (H.factsV (mt32 (mt32 (mt8 (mt1 mh)))))).mono ?_)
  rintro e w1 ⟨rfl, hb⟩
  replace H := H.below hb
  clear hb
  have cc0 := H.cell (w.heap.size + 1) 0 (.bool (c.o 0)) (mt8 (mt8 mh))
  have cc1 := H.cell (w.heap.size + 1) 1 (.bool (c.o 1)) (mt8 (mt8 (mt1 mh)))
  have cc2 := H.cell (w.heap.size + 1) 2 (.bool (c.o 2)) (mt8 (mt8 (mt1 (mt1 mh))))
  have cc3 := H.cell (w.heap.size + 1) 3 (.bool (c.o 3)) (mt8 (mt8 (mt1 (mt1 (mt1 mh)))))
  have cc4 := H.cell (w.heap.size + 1) 4 (.bool (c.o 4)) (mt8 (mt8 (mt1 (mt1 (mt1 (mt1 mh))))))
  have cc5 := H.cell (w.heap.size + 1) 5 (.bool (c.o 5)) (mt8 (mt8 (mt1 (mt1 (mt1 (mt1 (mt1 mh)))))))
  have cc6 := H.cell (w.heap.size + 1) 6 (.bool (c.o 6)) (mt8 (mt8 (mt1 (mt1 (mt1 (mt1 (mt1 (mt1 mh))))))))
  have cc7 := H.cell (w.heap.size + 1) 7 (.slice aR c.nr cR) (mt8 (mt8 (mt1 (mt1 (mt1 (mt1 (mt1 (mt1 (mt1 mh)))))))))
  have cc8 := H.cell (w.heap.size + 1) 8 (.slice aD c.nd cD) (mt8 (mt8 (mt8 mh)))
  have lc := H.lt (w.heap.size + 1) 0 (.bool (c.o 0)) (mt8 (mt8 mh))
  go_wp2_with fail
  clear cc0 cc1 cc2 cc3 cc4 cc5 cc6 cc7 cc8 lc
  (with_reducible refine (few_any c aR cR aD cD true _ HF.out).mono ?_)
  rintro e w2 ⟨rfl, hb⟩
  replace H := H.below hb
  clear hb
  have cc0 := H.cell (w.heap.size + 1) 0 (.bool (c.o 0)) (mt8 (mt8 mh))
  have cc1 := H.cell (w.heap.size + 1) 1 (.bool (c.o 1)) (mt8 (mt8 (mt1 mh)))
  have cc2 := H.cell (w.heap.size + 1) 2 (.bool (c.o 2)) (mt8 (mt8 (mt1 (mt1 mh))))
  have cc3 := H.cell (w.heap.size + 1) 3 (.bool (c.o 3)) (mt8 (mt8 (mt1 (mt1 (mt1 mh)))))
  have cc4 := H.cell (w.heap.size + 1) 4 (.bool (c.o 4)) (mt8 (mt8 (mt1 (mt1 (mt1 (mt1 mh))))))
  have cc5 := H.cell (w.heap.size + 1) 5 (.bool (c.o 5)) (mt8 (mt8 (mt1 (mt1 (mt1 (mt1 (mt1 mh)))))))
  have cc6 := H.cell (w.heap.size + 1) 6 (.bool (c.o 6)) (mt8 (mt8 (mt1 (mt1 (mt1 (mt1 (mt1 (mt1 mh))))))))
  have cc7 := H.cell (w.heap.size + 1) 7 (.slice aR c.nr cR) (mt8 (mt8 (mt1 (mt1 (mt1 (mt1 (mt1 (mt1 (mt1 mh)))))))))
  have cc8 := H.cell (w.heap.size + 1) 8 (.slice aD c.nd cD) (mt8 (mt8 (mt8 mh)))
  have lc := H.lt (w.heap.size + 1) 0 (.bool (c.o 0)) (mt8 (mt8 mh))
  go_wp2_with fail
  clear cc0 cc1 cc2 cc3 cc4 cc5 cc6 cc7 cc8 lc
  (with_reducible refine (rcmay_any c aR cR aD cD true _ HZ.out (H.cal (mt32 (mt32 (mt8 mh)))) ⟨fun _ => MA.out, fun _ => rfl⟩).mono ?_)
  rintro e w3 ⟨rfl, hb⟩
  replace H := H.below hb
  clear hb
  have cr0 := H.cell (w.heap.size + 2) 0 (.int .i64 r.k) mh
  have cr1 := H.cell (w.heap.size + 2) 1 (.int .i64 r.m) (mt1 mh)
  have cr2 := H.cell (w.heap.size + 2) 2 (.int .i64 r.d) (mt1 (mt1 mh))
  have cr3 := H.cell (w.heap.size + 2) 3 (.int .i64 r.q) (mt1 (mt1 (mt1 mh)))
  have cr4 := H.cell (w.heap.size + 2) 4 (.int .i64 r.o) (mt1 (mt1 (mt1 (mt1 mh))))
  have cr5 := H.cell (w.heap.size + 2) 5 (.int .i64 r.s) (mt1 (mt1 (mt1 (mt1 (mt1 mh)))))
  have cr6 := H.cell (w.heap.size + 2) 6 (.int .i64 r.f) (mt1 (mt1 (mt1 (mt1 (mt1 (mt1 mh))))))
  have cr7 := H.cell (w.heap.size + 2) 7 (.int .i64 r.t) (mt1 (mt1 (mt1 (mt1 (mt1 (mt1 (mt1 mh)))))))
  have lr := H.lt (w.heap.size + 2) 0 (.int .i64 r.k) mh
  go_wp2_with fail
  clear cr0 cr1 cr2 cr3 cr4 cr5 cr6 cr7 lr
  (with_reducible refine (rumay_any r.k r.m r.d r.q r.o r.s r.f r.t false _ HR.out).mono ?_)
  rintro e w4 ⟨rfl, hb⟩
  replace H := H.below hb
  clear hb
  go_wp2_with fail
  go_ret
  exact ⟨rfl, H.old⟩

set_option maxHeartbeats 8000000 in
set_option maxRecDepth 100000 in
theorem carules_4 (K : CalWay) (c : Ca) (aR : Option Addr) (cR : Nat) (aD : Option Addr) (cD : Nat) (r : Ru) (z n : Int) (w : World) (hL : FactsV w) (hCc : CalAt w c aR cR aD cD) (bz : 0 ≤ z ∧ z < 256) (hf : decide (c.nr ≤ 12 ∧ c.nd ≤ 60) = true) (hz : c.Small) (ma : c.May) (hr : Ru.mb r = true) (hn : decide (1 ≤ n ∧ n ≤ 3652059) = false) :
    Calls Tryd.prog 8 #[.agg #[.bool (c.o 0), .bool (c.o 1), .bool (c.o 2), .bool (c.o 3), .bool (c.o 4), .bool (c.o 5), .bool (c.o 6), .slice aR c.nr cR, .slice aD c.nd cD, .int .i64 r.k, .int .i64 r.m, .int .i64 r.d, .int .i64 r.q, .int .i64 r.o, .int .i64 r.s, .int .i64 r.f, .int .i64 r.t, .int .u8 z, .int .i64 n]] w fun e w' => e = .returned (.bool true) ∧ Below w.heap.size w w' := by
  have H := ((Held.start w).add (f := factsVF) hL).add (f := calF c aR cR aD cD) hCc
  clear hL hCc
  have HF := Lib.hid hf
  have HZ := Lib.hid hz
  have MA := Lib.hid ma
  have HR := Lib.hid hr
  have HN := Lib.hid hn
  clear hf hz ma hr hn
  go_enter Tryd.func8, Tryd.ntmps8
  go_wp2_with fail
  replace H := (((H.box_19 (w.heap.size) (.bool (c.o 0)) (.bool (c.o 1)) (.bool (c.o 2)) (.bool (c.o 3)) (.bool (c.o 4)) (.bool (c.o 5)) (.bool (c.o 6)) (.slice aR c.nr cR) (.slice aD c.nd cD) (.int .i64 r.k) (.int .i64 r.m) (.int .i64 r.d) (.int .i64 r.q) (.int .i64 r.o) (.int .i64 r.s) (.int .i64 r.f) (.int .i64 r.t) (.int .u8 z) (.int .i64 n) 53 rfl).box_9 (w.heap.size + 1) (.bool (c.o 0)) (.bool (c.o 1)) (.bool (c.o 2)) (.bool (c.o 3)) (.bool (c.o 4)) (.bool (c.o 5)) (.bool (c.o 6)) (.slice aR c.nr cR) (.slice aD c.nd cD) 26 (by simp)).oct (w.heap.size + 2) (.int .i64 r.k) (.int .i64 r.m) (.int .i64 r.d) (.int .i64 r.q) (.int .i64 r.o) (.int .i64 r.s) (.int .i64 r.f) (.int .i64 r.t) 51 (by simp))
  (with_reducible refine (cashown_any K _ (H.factsV (mt32 (mt32 (mt8 (mt1 mh)))))).mono ?_)
  rintro e w1 ⟨rfl, hb⟩
  replace H := H.below hb
  clear hb
  have cc0 := H.cell (w.heap.size + 1) 0 (.bool (c.o 0)) (mt8 (mt8 mh))
  have cc1 := H.cell (w.heap.size + 1) 1 (.bool (c.o 1)) (mt8 (mt8 (mt1 mh)))
  have cc2 := H.cell (w.heap.size + 1) 2 (.bool (c.o 2)) (mt8 (mt8 (mt1 (mt1 mh))))
  have cc3 := H.cell (w.heap.size + 1) 3 (.bool (c.o 3)) (mt8 (mt8 (mt1 (mt1 (mt1 mh)))))
  have cc4 := H.cell (w.heap.size + 1) 4 (.bool (c.o 4)) (mt8 (mt8 (mt1 (mt1 (mt1 (mt1 mh))))))
  have cc5 := H.cell (w.heap.size + 1) 5 (.bool (c.o 5)) (mt8 (mt8 (mt1 (mt1 (mt1 (mt1 (mt1 mh)))))))
  have cc6 := H.cell (w.heap.size + 1) 6 (.bool (c.o 6)) (mt8 (mt8 (mt1 (mt1 (mt1 (mt1 (mt1 (mt1 mh))))))))
  have cc7 := H.cell (w.heap.size + 1) 7 (.slice aR c.nr cR) (mt8 (mt8 (mt1 (mt1 (mt1 (mt1 (mt1 (mt1 (mt1 mh)))))))))
  have cc8 := H.cell (w.heap.size + 1) 8 (.slice aD c.nd cD) (mt8 (mt8 (mt8 mh)))
  have lc := H.lt (w.heap.size + 1) 0 (.bool (c.o 0)) (mt8 (mt8 mh))
  go_wp2_with fail
  clear cc0 cc1 cc2 cc3 cc4 cc5 cc6 cc7 cc8 lc
  (with_reducible refine (few_any c aR cR aD cD true _ HF.out).mono ?_)
  rintro e w2 ⟨rfl, hb⟩
  replace H := H.below hb
  clear hb
  have cc0 := H.cell (w.heap.size + 1) 0 (.bool (c.o 0)) (mt8 (mt8 mh))
  have cc1 := H.cell (w.heap.size + 1) 1 (.bool (c.o 1)) (mt8 (mt8 (mt1 mh)))
  have cc2 := H.cell (w.heap.size + 1) 2 (.bool (c.o 2)) (mt8 (mt8 (mt1 (mt1 mh))))
  have cc3 := H.cell (w.heap.size + 1) 3 (.bool (c.o 3)) (mt8 (mt8 (mt1 (mt1 (mt1 mh)))))
  have cc4 := H.cell (w.heap.size + 1) 4 (.bool (c.o 4)) (mt8 (mt8 (mt1 (mt1 (mt1 (mt1 mh))))))
  have cc5 := H.cell (w.heap.size + 1) 5 (.bool (c.o 5)) (mt8 (mt8 (mt1 (mt1 (mt1 (mt1 (mt1 mh)))))))
  have cc6 := H.cell (w.heap.size + 1) 6 (.bool (c.o 6)) (mt8 (mt8 (mt1 (mt1 (mt1 (mt1 (mt1 (mt1 mh))))))))
  have cc7 := H.cell (w.heap.size + 1) 7 (.slice aR c.nr cR) (mt8 (mt8 (mt1 (mt1 (mt1 (mt1 (mt1 (mt1 (mt1 mh)))))))))
  have cc8 := H.cell (w.heap.size + 1) 8 (.slice aD c.nd cD) (mt8 (mt8 (mt8 mh)))
  have lc := H.lt (w.heap.size + 1) 0 (.bool (c.o 0)) (mt8 (mt8 mh))
  go_wp2_with fail
  clear cc0 cc1 cc2 cc3 cc4 cc5 cc6 cc7 cc8 lc
  (with_reducible refine (rcmay_any c aR cR aD cD true _ HZ.out (H.cal (mt32 (mt32 (mt8 mh)))) ⟨fun _ => MA.out, fun _ => rfl⟩).mono ?_)
  rintro e w3 ⟨rfl, hb⟩
  replace H := H.below hb
  clear hb
  have cr0 := H.cell (w.heap.size + 2) 0 (.int .i64 r.k) mh
  have cr1 := H.cell (w.heap.size + 2) 1 (.int .i64 r.m) (mt1 mh)
  have cr2 := H.cell (w.heap.size + 2) 2 (.int .i64 r.d) (mt1 (mt1 mh))
  have cr3 := H.cell (w.heap.size + 2) 3 (.int .i64 r.q) (mt1 (mt1 (mt1 mh)))
  have cr4 := H.cell (w.heap.size + 2) 4 (.int .i64 r.o) (mt1 (mt1 (mt1 (mt1 mh))))
  have cr5 := H.cell (w.heap.size + 2) 5 (.int .i64 r.s) (mt1 (mt1 (mt1 (mt1 (mt1 mh)))))
  have cr6 := H.cell (w.heap.size + 2) 6 (.int .i64 r.f) (mt1 (mt1 (mt1 (mt1 (mt1 (mt1 mh))))))
  have cr7 := H.cell (w.heap.size + 2) 7 (.int .i64 r.t) (mt1 (mt1 (mt1 (mt1 (mt1 (mt1 (mt1 mh)))))))
  have lr := H.lt (w.heap.size + 2) 0 (.int .i64 r.k) mh
  go_wp2_with fail
  clear cr0 cr1 cr2 cr3 cr4 cr5 cr6 cr7 lr
  (with_reducible refine (rumay_any r.k r.m r.d r.q r.o r.s r.f r.t true _ HR.out).mono ?_)
  rintro e w4 ⟨rfl, hb⟩
  replace H := H.below hb
  clear hb
  go_wp2_with fail
  (with_reducible refine (Calls.same (rday13_is n false _ HN.out)).mono ?_)
  rintro e w5 ⟨rfl, hb⟩
  replace H := H.below hb
  clear hb
  go_wp2_with fail
  go_ret
  exact ⟨rfl, H.old⟩
end Go.Proofs.YtkadodkdbopgnaaDoor
