/- CalOrder: the ends ahead; rules in another order. -/
import Derived.Test.YtkadodkdbopgnaaDoorCaShown
import Derived.Test.YtkadodkdbopgnaaDoorCaBox
import Derived.Test.YtkadodkdbopgnaaDoorCaRuleB
import Derived.Deep.MidRow
namespace Go.Proofs.YtkadodkdbopgnaaDoor
open Go.RowKit
set_option linter.unusedVariables false
set_option linter.unusedSimpArgs false

/-- Two rules change places. -/
def swp (R : Nat → Ru) (x y : Nat) : Nat → Ru := fun j => if j = y then R x else if j = x then R y else R j
def Ca.swap (c : Ca) (x y : Nat) : Ca := ⟨c.o, c.nr, swp c.R x y, c.nd, c.X⟩
theorem swp_all {R : Nat → Ru} {x y n : Nat} (hx : x < n) (hy : y < n) (P : Ru → Prop) : (∀ j, j < n → P (swp R x y j)) ↔ ∀ j, j < n → P (R j) := by
  unfold swp
  constructor
  · intro h j hj
    by_cases e : j = x
    · subst e
      have := h y hy
      rwa [if_pos rfl] at this
    · by_cases e2 : j = y
      · subst e2
        have := h x hx
        by_cases e3 : x = j
        · subst e3; exact absurd rfl e
        · rwa [if_neg e3, if_pos rfl] at this
      · have := h j hj
        rwa [if_neg e2, if_neg e] at this
  · intro h j hj
    by_cases e : j = y
    · rw [if_pos e]; exact h x hx
    · rw [if_neg e]
      by_cases e2 : j = x
      · rw [if_pos e2]; exact h y hy
      · rw [if_neg e2]; exact h j hj
theorem swap_is (c : Ca) {x y : Nat} (hx : x < c.nr) (hy : y < c.nr) (n : Int) : (c.swap x y).Is n ↔ c.Is n := by
  unfold Ca.Is
  have e : (∀ j, j < (c.swap x y).nr → ¬ ((c.swap x y).R j).Is n) ↔ ∀ j, j < c.nr → ¬ (c.R j).Is n := swp_all hx hy (fun r => ¬ r.Is n)
  rw [e]
  exact Iff.rfl
theorem swap_may {c : Ca} {x y : Nat} (hx : x < c.nr) (hy : y < c.nr) (h : c.May) : (c.swap x y).May := by
  obtain ⟨h1, h2, h3, h4, h5⟩ := h
  exact ⟨h1, h2, h3, (swp_all hx hy Ru.May).2 h4, h5⟩
theorem rc_at (r : Ru) (i : Nat) (hi : i < 8) : ∃ u, (rc r)[i]? = some u := ⟨(rc r)[i]'(by rw [rc_len]; exact hi), List.getElem?_eq_getElem _⟩
/-- Two rules of a row of the call's own are written, one behind the other. -/
theorem swap_row {W : World} {g cap n x y : Nat} {R : Nat → Ru} (h : RulesAt W (some ⟨g, 0, none⟩) R n cap) (hx : x < n) (hy : y < n) :
    RulesAt ((W.setCells g (x * 8) (rc (R y))).setCells g (y * 8) (rc (R x))) (some ⟨g, 0, none⟩) (swp R x y) n cap := by
  refine ⟨h.1, fun hp => ⟨g, 0, rfl, fun j hj => ?_⟩⟩
  obtain ⟨b, off, e, hc⟩ := h.2 hp
  injection e with e
  injection e with e1 e2 _
  subst e1 e2
  have hs : ∀ k i, k < n → i < 8 → (W.cell? ⟨g, k * 8 + i, none⟩).isSome = true := fun k i hk hi => by
    obtain ⟨u, hu⟩ := rc_at (R k) i hi
    have := rc_cell (hc k hk) hu
    rw [Nat.zero_add] at this
    rw [this]; rfl
  have key : ∀ i, i < 8 → ∀ u, (rc (swp R x y j))[i]? = some u → ((W.setCells g (x * 8) (rc (R y))).setCells g (y * 8) (rc (R x))).cell? ⟨g, j * 8 + i, none⟩ = some u := fun i hi u hu => by
    have s1 : ∀ k, k < (rc (R x)).length → ((W.setCells g (x * 8) (rc (R y))).cell? ⟨g, y * 8 + k, none⟩).isSome = true := fun k hk => by
      rw [rc_len] at hk
      by_cases e : y = x
      · subst e
        rw [World.cell?_setCells_in g (rc (R y)) (y * 8) W (fun q hq => hs y q hy (by rw [rc_len] at hq; exact hq)) k (by rw [rc_len]; exact hk)]
        rfl
      · rw [World.cell?_setCells_out g (rc (R y)) (x * 8) W ⟨g, y * 8 + k, none⟩ (fun _ _ => by rw [rc_len]; show y * 8 + k < x * 8 ∨ x * 8 + 8 ≤ y * 8 + k; omega)]
        exact hs y k hy hk
    unfold swp at hu
    by_cases e : j = y
    · subst e
      rw [if_pos rfl] at hu
      rw [World.cell?_setCells_in g (rc (R x)) (j * 8) _ s1 i (by rw [rc_len]; exact hi)]
      exact (List.getElem?_eq_getElem _).symm.trans hu
    · rw [if_neg e] at hu
      rw [World.cell?_setCells_out g (rc (R x)) (y * 8) _ ⟨g, j * 8 + i, none⟩ (fun _ _ => by rw [rc_len]; show j * 8 + i < y * 8 ∨ y * 8 + 8 ≤ j * 8 + i; omega)]
      by_cases e2 : j = x
      · subst e2
        rw [if_pos rfl] at hu
        rw [World.cell?_setCells_in g (rc (R y)) (j * 8) W (fun q hq => hs j q hj (by rw [rc_len] at hq; exact hq)) i (by rw [rc_len]; exact hi)]
        exact (List.getElem?_eq_getElem _).symm.trans hu
      · rw [if_neg e2] at hu
        rw [World.cell?_setCells_out g (rc (R y)) (x * 8) W ⟨g, j * 8 + i, none⟩ (fun _ _ => by rw [rc_len]; show j * 8 + i < x * 8 ∨ x * 8 + 8 ≤ j * 8 + i; omega)]
        have := rc_cell (hc j hj) hu
        rwa [Nat.zero_add] at this
  rw [Nat.zero_add]
  exact ⟨key 0 (by decide) _ rfl, key 1 (by decide) _ rfl, key 2 (by decide) _ rfl, key 3 (by decide) _ rfl, key 4 (by decide) _ rfl, key 5 (by decide) _ rfl, key 6 (by decide) _ rfl, key 7 (by decide) _ rfl⟩
theorem setCells_below {w W : World} {B g : Nat} (h : Below B w W) (hg : B ≤ g) : ∀ (vs : List Value) (o : Nat) (W2 : World), Below B w W2 → Below B w (W2.setCells g o vs)
  | [], _, _, h2 => h2
  | v :: r, o, W2, h2 => setCells_below h hg r (o + 1) _ (h2.setCell (p := ⟨g, o, none⟩) hg v)
def offb (B : Nat) : Fact → Prop
  | .cell b _ _ => b ≠ B
  | .free _ _ => True
  | .is _ _ => True
  | .that _ _ => False
theorem offb_c {B o : Nat} {f : Fact} (h : offb B f) : offc B o f := by
  cases f with
  | cell b i v => exact Or.inl h
  | free b i => trivial
  | is b i => trivial
  | that P _ => exact h.elim
theorem Held.setcs {w : World} {fs : List Fact} {B : Nat} (hB : w.heap.size ≤ B) (hoff : ∀ f ∈ fs, offb B f ∨ f.at w) : ∀ (us : List Value) (o : Nat) (W : World), Held w fs W → Held w fs (W.setCells B o us)
  | [], _, _, h => h
  | u :: us, o, W, h => Held.setcs hB hoff us (o + 1) (W.setCell ⟨B, o, none⟩ u) (h.setc B o u hB (fun f hf => (hoff f hf).imp offb_c id))
/-- A cell is written: what a fact says elsewhere stays. -/
theorem Held.setc2 {w W : World} {fs : List Fact} (h : Held w fs W) (B o : Nat) (u : Value) (hB : w.heap.size ≤ B) (hoff : ∀ f ∈ fs, offc B o f ∨ f.at w ∨ ∀ V, f.at V → f.at (V.setCell ⟨B, o, none⟩ u)) : Held w fs (W.setCell ⟨B, o, none⟩ u) := by
  have hb := h.old.setCell (p := ⟨B, o, none⟩) hB u
  refine ⟨hb, fun f hf => ?_⟩
  rcases hoff f hf with k | k | k
  · have h1 : Held w [f] W := h.sub (fun g hg => by
      rcases List.mem_singleton.1 hg with rfl
      exact hf)
    exact (h1.setc B o u hB (fun g hg => by
      rcases List.mem_singleton.1 hg with rfl
      exact Or.inl k)).all f (List.Mem.head _)
  · exact Fact.below hb k
  · exact k _ (h.all f hf)
theorem rc_range {W : World} {g cap n x : Nat} {R : Nat → Ru} (h : RulesAt W (some ⟨g, 0, none⟩) R n cap) (hx : x < n) : W.rangeAt g (x * 8) (rc (R x)) := by
  obtain ⟨b, off, e, hc⟩ := h.2 (by omega)
  injection e with e
  injection e with e1 e2 _
  subst e1 e2
  intro j v hv
  have := rc_cell (hc x hx) hv
  rwa [Nat.zero_add] at this
theorem rc_there {W : World} {g cap n x : Nat} {R : Nat → Ru} (h : RulesAt W (some ⟨g, 0, none⟩) R n cap) (hx : x < n) (hf : ∀ k, W.frozen? ⟨g, k, none⟩ = false) : W.there g (x * 8) 8 := fun j hj =>
  ⟨(rc_range h hx).isSome j hj, hf _⟩
theorem rc_one (r : Ru) : (rc r).toArray.all (·.oneCell') = true := all_oneCell_toArray (fun v hv => by
  simp only [rc, List.mem_cons, List.not_mem_nil, or_false] at hv
  rcases hv with rfl | rfl | rfl | rfl | rfl | rfl | rfl | rfl <;> rfl)
theorem wanted_if {b : Bool} {p q : Prop} (hb : b = true) (h : p) : if b = true then p else q := by
  rw [if_pos hb]; exact h
theorem far_setCells {W : World} {b i g : Nat} {u : Value} (hg : b ≠ g) (h : W.cell? ⟨b, i, none⟩ = some u) (o : Nat) (us : List Value) : (W.setCells g o us).cell? ⟨b, i, none⟩ = some u :=
  (World.cell?_setCells_out g us o W ⟨b, i, none⟩ (fun e _ => absurd e hg)).trans h
theorem sis (K : CalWay) (c : Ca) (x y : Nat) (gN cN : Nat) (aD : Option Addr) (cD : Nat) (n : Int) (b : Bool) (v : World) (h : FactsV v) (ms : (c.swap x y).May) (hN : RulesAt v (some ⟨gN, 0, none⟩) (swp c.R x y) c.nr cN) (hD : DaysAt v aD c.X c.nd cD) (hb : b = true ↔ (c.swap x y).Is n) :
    Calls Tryd.prog 15 #[.agg #[.bool (c.o 0), .bool (c.o 1), .bool (c.o 2), .bool (c.o 3), .bool (c.o 4), .bool (c.o 5), .bool (c.o 6), .slice (some ⟨gN, 0, none⟩) c.nr cN, .slice aD c.nd cD], .int .i64 n] v fun e w' => e = .returned (.bool b) ∧ Below v.heap.size v w' := K.is (c.swap x y) (some ⟨gN, 0, none⟩) cN aD cD n b v h ms ⟨hN, hD⟩ hb
theorem smay (K : CalWay) (c : Ca) (x y : Nat) (gN cN : Nat) (aD : Option Addr) (cD : Nat) (v : World) (h : FactsV v) (hz : c.Small) (ms : (c.swap x y).May) (hN : RulesAt v (some ⟨gN, 0, none⟩) (swp c.R x y) c.nr cN) (hD : DaysAt v aD c.X c.nd cD) :
    Calls Tryd.prog 14 #[.agg #[.bool (c.o 0), .bool (c.o 1), .bool (c.o 2), .bool (c.o 3), .bool (c.o 4), .bool (c.o 5), .bool (c.o 6), .slice (some ⟨gN, 0, none⟩) c.nr cN, .slice aD c.nd cD]] v fun e w' => e = .returned (.bool true) ∧ Below v.heap.size v w' := K.may (c.swap x y) (some ⟨gN, 0, none⟩) cN aD cD true v h hz ⟨hN, hD⟩ ⟨fun _ => ms, fun _ => rfl⟩
theorem pmay (K : CalWay) (c : Ca) (r : Ru) (aN : Option Addr) (cN : Nat) (aD : Option Addr) (cD : Nat) (v : World) (h : FactsV v) (hz : (c.plus r).Small) (mp : (c.plus r).May) (hN : RulesAt v aN (more c.R c.nr r) (c.nr + 1) cN) (hD : DaysAt v aD c.X c.nd cD) :
    Calls Tryd.prog 14 #[.agg #[.bool (c.o 0), .bool (c.o 1), .bool (c.o 2), .bool (c.o 3), .bool (c.o 4), .bool (c.o 5), .bool (c.o 6), .slice aN (c.nr + 1) cN, .slice aD c.nd cD]] v fun e w' => e = .returned (.bool true) ∧ Below v.heap.size v w' := K.may (c.plus r) aN cN aD cD true v h hz ⟨hN, hD⟩ ⟨fun _ => mp, fun _ => rfl⟩

set_option maxHeartbeats 8000000 in
set_option maxRecDepth 100000 in
theorem caorder_1 (K : CalWay) (c : Ca) (aR : Option Addr) (cR : Nat) (aD : Option Addr) (cD : Nat) (i j n : Int) (w : World) (hL : FactsV w) (hCc : CalAt w c aR cR aD cD) (bi : 0 ≤ i ∧ i < 256) (bj : 0 ≤ j ∧ j < 256) (hf : decide (c.nr ≤ 12 ∧ c.nd ≤ 60) = false) :
    Calls Tryd.prog 9 #[.agg #[.bool (c.o 0), .bool (c.o 1), .bool (c.o 2), .bool (c.o 3), .bool (c.o 4), .bool (c.o 5), .bool (c.o 6), .slice aR c.nr cR, .slice aD c.nd cD, .int .u8 i, .int .u8 j, .int .i64 n]] w fun e w' => e = .returned (.bool true) ∧ Below w.heap.size w w' := by
  have H := ((Held.start w).add (f := factsVF) hL).add (f := calF c aR cR aD cD) hCc
  clear hL hCc
  have HF := Lib.hid hf
  clear hf
  go_enter Tryd.func9, Tryd.ntmps9
  go_wp2_with fail
  replace H := ((H.box_12 (w.heap.size) (.bool (c.o 0)) (.bool (c.o 1)) (.bool (c.o 2)) (.bool (c.o 3)) (.bool (c.o 4)) (.bool (c.o 5)) (.bool (c.o 6)) (.slice aR c.nr cR) (.slice aD c.nd cD) (.int .u8 i) (.int .u8 j) (.int .i64 n) 58 rfl).box_9 (w.heap.size + 1) (.bool (c.o 0)) (.bool (c.o 1)) (.bool (c.o 2)) (.bool (c.o 3)) (.bool (c.o 4)) (.bool (c.o 5)) (.bool (c.o 6)) (.slice aR c.nr cR) (.slice aD c.nd cD) 26 (by simp))
  (with_reducible refine (cashown_any K _ (H.factsV (mt32 (mt8 (mt1 (mt1 (mt1 mh))))))).mono ?_)
  rintro e w1 ⟨rfl, hb⟩
  replace H := H.below hb
  clear hb
  have cc0 := H.cell (w.heap.size + 1) 0 (.bool (c.o 0)) mh
  have cc1 := H.cell (w.heap.size + 1) 1 (.bool (c.o 1)) (mt1 mh)
  have cc2 := H.cell (w.heap.size + 1) 2 (.bool (c.o 2)) (mt1 (mt1 mh))
  have cc3 := H.cell (w.heap.size + 1) 3 (.bool (c.o 3)) (mt1 (mt1 (mt1 mh)))
  have cc4 := H.cell (w.heap.size + 1) 4 (.bool (c.o 4)) (mt1 (mt1 (mt1 (mt1 mh))))
  have cc5 := H.cell (w.heap.size + 1) 5 (.bool (c.o 5)) (mt1 (mt1 (mt1 (mt1 (mt1 mh)))))
  have cc6 := H.cell (w.heap.size + 1) 6 (.bool (c.o 6)) (mt1 (mt1 (mt1 (mt1 (mt1 (mt1 mh))))))
  have cc7 := H.cell (w.heap.size + 1) 7 (.slice aR c.nr cR) (mt1 (mt1 (mt1 (mt1 (mt1 (mt1 (mt1 mh)))))))
  have cc8 := H.cell (w.heap.size + 1) 8 (.slice aD c.nd cD) (mt8 mh)
  have lc := H.lt (w.heap.size + 1) 0 (.bool (c.o 0)) mh
  go_wp2_with fail
  clear cc0 cc1 cc2 cc3 cc4 cc5 cc6 cc7 cc8 lc
  (with_reducible refine (few_any c aR cR aD cD false _ HF.out).mono ?_)
  rintro e w2 ⟨rfl, hb⟩
  replace H := H.below hb
  clear hb
  go_wp2_with fail
  go_ret
  exact ⟨rfl, H.old⟩

set_option maxHeartbeats 8000000 in
set_option maxRecDepth 100000 in
theorem caorder_2 (K : CalWay) (c : Ca) (aR : Option Addr) (cR : Nat) (aD : Option Addr) (cD : Nat) (i j n : Int) (w : World) (hL : FactsV w) (hCc : CalAt w c aR cR aD cD) (bi : 0 ≤ i ∧ i < 256) (bj : 0 ≤ j ∧ j < 256) (hf : decide (c.nr ≤ 12 ∧ c.nd ≤ 60) = true) (hz : c.Small) (ma : ¬ c.May) :
    Calls Tryd.prog 9 #[.agg #[.bool (c.o 0), .bool (c.o 1), .bool (c.o 2), .bool (c.o 3), .bool (c.o 4), .bool (c.o 5), .bool (c.o 6), .slice aR c.nr cR, .slice aD c.nd cD, .int .u8 i, .int .u8 j, .int .i64 n]] w fun e w' => e = .returned (.bool true) ∧ Below w.heap.size w w' := by
  have H := ((Held.start w).add (f := factsVF) hL).add (f := calF c aR cR aD cD) hCc
  clear hL hCc
  have HF := Lib.hid hf
  have HZ := Lib.hid hz
  have MA := Lib.hid ma
  clear hf hz ma
  go_enter Tryd.func9, Tryd.ntmps9
  go_wp2_with fail
  replace H := ((H.box_12 (w.heap.size) (.bool (c.o 0)) (.bool (c.o 1)) (.bool (c.o 2)) (.bool (c.o 3)) (.bool (c.o 4)) (.bool (c.o 5)) (.bool (c.o 6)) (.slice aR c.nr cR) (.slice aD c.nd cD) (.int .u8 i) (.int .u8 j) (.int .i64 n) 58 rfl).box_9 (w.heap.size + 1) (.bool (c.o 0)) (.bool (c.o 1)) (.bool (c.o 2)) (.bool (c.o 3)) (.bool (c.o 4)) (.bool (c.o 5)) (.bool (c.o 6)) (.slice aR c.nr cR) (.slice aD c.nd cD) 26 (by simp))
  (with_reducible refine (cashown_any K _ (H.factsV (mt32 (mt8 (mt1 (mt1 (mt1 mh))))))).mono ?_)
  rintro e w1 ⟨rfl, hb⟩
  replace H := H.below hb
  clear hb
  have cc0 := H.cell (w.heap.size + 1) 0 (.bool (c.o 0)) mh
  have cc1 := H.cell (w.heap.size + 1) 1 (.bool (c.o 1)) (mt1 mh)
  have cc2 := H.cell (w.heap.size + 1) 2 (.bool (c.o 2)) (mt1 (mt1 mh))
  have cc3 := H.cell (w.heap.size + 1) 3 (.bool (c.o 3)) (mt1 (mt1 (mt1 mh)))
  have cc4 := H.cell (w.heap.size + 1) 4 (.bool (c.o 4)) (mt1 (mt1 (mt1 (mt1 mh))))
  have cc5 := H.cell (w.heap.size + 1) 5 (.bool (c.o 5)) (mt1 (mt1 (mt1 (mt1 (mt1 mh)))))
  have cc6 := H.cell (w.heap.size + 1) 6 (.bool (c.o 6)) (mt1 (mt1 (mt1 (mt1 (mt1 (mt1 mh))))))
  have cc7 := H.cell (w.heap.size + 1) 7 (.slice aR c.nr cR) (mt1 (mt1 (mt1 (mt1 (mt1 (mt1 (mt1 mh)))))))
  have cc8 := H.cell (w.heap.size + 1) 8 (.slice aD c.nd cD) (mt8 mh)
  have lc := H.lt (w.heap.size + 1) 0 (.bool (c.o 0)) mh
  go_wp2_with fail
  clear cc0 cc1 cc2 cc3 cc4 cc5 cc6 cc7 cc8 lc
  (with_reducible refine (few_any c aR cR aD cD true _ HF.out).mono ?_)
  rintro e w2 ⟨rfl, hb⟩
  replace H := H.below hb
  clear hb
  have cc0 := H.cell (w.heap.size + 1) 0 (.bool (c.o 0)) mh
  have cc1 := H.cell (w.heap.size + 1) 1 (.bool (c.o 1)) (mt1 mh)
  have cc2 := H.cell (w.heap.size + 1) 2 (.bool (c.o 2)) (mt1 (mt1 mh))
  have cc3 := H.cell (w.heap.size + 1) 3 (.bool (c.o 3)) (mt1 (mt1 (mt1 mh)))
  have cc4 := H.cell (w.heap.size + 1) 4 (.bool (c.o 4)) (mt1 (mt1 (mt1 (mt1 mh))))
  have cc5 := H.cell (w.heap.size + 1) 5 (.bool (c.o 5)) (mt1 (mt1 (mt1 (mt1 (mt1 mh)))))
  have cc6 := H.cell (w.heap.size + 1) 6 (.bool (c.o 6)) (mt1 (mt1 (mt1 (mt1 (mt1 (mt1 mh))))))
  have cc7 := H.cell (w.heap.size + 1) 7 (.slice aR c.nr cR) (mt1 (mt1 (mt1 (mt1 (mt1 (mt1 (mt1 mh)))))))
  have cc8 := H.cell (w.heap.size + 1) 8 (.slice aD c.nd cD) (mt8 mh)
  have lc := H.lt (w.heap.size + 1) 0 (.bool (c.o 0)) mh
  go_wp2_with fail
  clear cc0 cc1 cc2 cc3 cc4 cc5 cc6 cc7 cc8 lc
  (with_reducible refine (rcmay_any c aR cR aD cD false _ HZ.out (H.cal (mt32 (mt8 (mt1 (mt1 mh))))) ⟨fun g => absurd g (by decide), fun g => absurd g MA.out⟩).mono ?_)
  rintro e w3 ⟨rfl, hb⟩
  replace H := H.below hb
  clear hb
  go_wp2_with fail
  go_ret
  exact ⟨rfl, H.old⟩

set_option maxHeartbeats 8000000 in
set_option maxRecDepth 100000 in
theorem caorder_3 (K : CalWay) (c : Ca) (aR : Option Addr) (cR : Nat) (aD : Option Addr) (cD : Nat) (i j n : Int) (w : World) (hL : FactsV w) (hCc : CalAt w c aR cR aD cD) (bi : 0 ≤ i ∧ i < 256) (bj : 0 ≤ j ∧ j < 256) (hf : decide (c.nr ≤ 12 ∧ c.nd ≤ 60) = true) (hz : c.Small) (ma : c.May) (h0 : c.nr < 1) :
    Calls Tryd.prog 9 #[.agg #[.bool (c.o 0), .bool (c.o 1), .bool (c.o 2), .bool (c.o 3), .bool (c.o 4), .bool (c.o 5), .bool (c.o 6), .slice aR c.nr cR, .slice aD c.nd cD, .int .u8 i, .int .u8 j, .int .i64 n]] w fun e w' => e = .returned (.bool true) ∧ Below w.heap.size w w' := by
  have H := ((Held.start w).add (f := factsVF) hL).add (f := calF c aR cR aD cD) hCc
  clear hL hCc
  have HF := Lib.hid hf
  have HZ := Lib.hid hz
  have MA := Lib.hid ma
  clear hf hz ma
  go_enter Tryd.func9, Tryd.ntmps9
  go_wp2_with fail
  replace H := ((H.box_12 (w.heap.size) (.bool (c.o 0)) (.bool (c.o 1)) (.bool (c.o 2)) (.bool (c.o 3)) (.bool (c.o 4)) (.bool (c.o 5)) (.bool (c.o 6)) (.slice aR c.nr cR) (.slice aD c.nd cD) (.int .u8 i) (.int .u8 j) (.int .i64 n) 58 rfl).box_9 (w.heap.size + 1) (.bool (c.o 0)) (.bool (c.o 1)) (.bool (c.o 2)) (.bool (c.o 3)) (.bool (c.o 4)) (.bool (c.o 5)) (.bool (c.o 6)) (.slice aR c.nr cR) (.slice aD c.nd cD) 26 (by simp))
  (with_reducible refine (cashown_any K _ (H.factsV (mt32 (mt8 (mt1 (mt1 (mt1 mh))))))).mono ?_)
  rintro e w1 ⟨rfl, hb⟩
  replace H := H.below hb
  clear hb
  have cc0 := H.cell (w.heap.size + 1) 0 (.bool (c.o 0)) mh
  have cc1 := H.cell (w.heap.size + 1) 1 (.bool (c.o 1)) (mt1 mh)
  have cc2 := H.cell (w.heap.size + 1) 2 (.bool (c.o 2)) (mt1 (mt1 mh))
  have cc3 := H.cell (w.heap.size + 1) 3 (.bool (c.o 3)) (mt1 (mt1 (mt1 mh)))
  have cc4 := H.cell (w.heap.size + 1) 4 (.bool (c.o 4)) (mt1 (mt1 (mt1 (mt1 mh))))
  have cc5 := H.cell (w.heap.size + 1) 5 (.bool (c.o 5)) (mt1 (mt1 (mt1 (mt1 (mt1 mh)))))
  have cc6 := H.cell (w.heap.size + 1) 6 (.bool (c.o 6)) (mt1 (mt1 (mt1 (mt1 (mt1 (mt1 mh))))))
  have cc7 := H.cell (w.heap.size + 1) 7 (.slice aR c.nr cR) (mt1 (mt1 (mt1 (mt1 (mt1 (mt1 (mt1 mh)))))))
  have cc8 := H.cell (w.heap.size + 1) 8 (.slice aD c.nd cD) (mt8 mh)
  have lc := H.lt (w.heap.size + 1) 0 (.bool (c.o 0)) mh
  go_wp2_with fail
  clear cc0 cc1 cc2 cc3 cc4 cc5 cc6 cc7 cc8 lc
  (with_reducible refine (few_any c aR cR aD cD true _ HF.out).mono ?_)
  rintro e w2 ⟨rfl, hb⟩
  replace H := H.below hb
  clear hb
  have cc0 := H.cell (w.heap.size + 1) 0 (.bool (c.o 0)) mh
  have cc1 := H.cell (w.heap.size + 1) 1 (.bool (c.o 1)) (mt1 mh)
  have cc2 := H.cell (w.heap.size + 1) 2 (.bool (c.o 2)) (mt1 (mt1 mh))
  have cc3 := H.cell (w.heap.size + 1) 3 (.bool (c.o 3)) (mt1 (mt1 (mt1 mh)))
  have cc4 := H.cell (w.heap.size + 1) 4 (.bool (c.o 4)) (mt1 (mt1 (mt1 (mt1 mh))))
  have cc5 := H.cell (w.heap.size + 1) 5 (.bool (c.o 5)) (mt1 (mt1 (mt1 (mt1 (mt1 mh)))))
  have cc6 := H.cell (w.heap.size + 1) 6 (.bool (c.o 6)) (mt1 (mt1 (mt1 (mt1 (mt1 (mt1 mh))))))
  have cc7 := H.cell (w.heap.size + 1) 7 (.slice aR c.nr cR) (mt1 (mt1 (mt1 (mt1 (mt1 (mt1 (mt1 mh)))))))
  have cc8 := H.cell (w.heap.size + 1) 8 (.slice aD c.nd cD) (mt8 mh)
  have lc := H.lt (w.heap.size + 1) 0 (.bool (c.o 0)) mh
  go_wp2_with fail
  clear cc0 cc1 cc2 cc3 cc4 cc5 cc6 cc7 cc8 lc
  (with_reducible refine (rcmay_any c aR cR aD cD true _ HZ.out (H.cal (mt32 (mt8 (mt1 (mt1 mh))))) ⟨fun _ => MA.out, fun _ => rfl⟩).mono ?_)
  rintro e w3 ⟨rfl, hb⟩
  replace H := H.below hb
  clear hb
  have cc0 := H.cell (w.heap.size + 1) 0 (.bool (c.o 0)) mh
  have cc1 := H.cell (w.heap.size + 1) 1 (.bool (c.o 1)) (mt1 mh)
  have cc2 := H.cell (w.heap.size + 1) 2 (.bool (c.o 2)) (mt1 (mt1 mh))
  have cc3 := H.cell (w.heap.size + 1) 3 (.bool (c.o 3)) (mt1 (mt1 (mt1 mh)))
  have cc4 := H.cell (w.heap.size + 1) 4 (.bool (c.o 4)) (mt1 (mt1 (mt1 (mt1 mh))))
  have cc5 := H.cell (w.heap.size + 1) 5 (.bool (c.o 5)) (mt1 (mt1 (mt1 (mt1 (mt1 mh)))))
  have cc6 := H.cell (w.heap.size + 1) 6 (.bool (c.o 6)) (mt1 (mt1 (mt1 (mt1 (mt1 (mt1 mh))))))
  have cc7 := H.cell (w.heap.size + 1) 7 (.slice aR c.nr cR) (mt1 (mt1 (mt1 (mt1 (mt1 (mt1 (mt1 mh)))))))
  have cc8 := H.cell (w.heap.size + 1) 8 (.slice aD c.nd cD) (mt8 mh)
  have lc := H.lt (w.heap.size + 1) 0 (.bool (c.o 0)) mh
  go_wp2_with fail
  clear cc0 cc1 cc2 cc3 cc4 cc5 cc6 cc7 cc8 lc
  go_ret
  exact ⟨rfl, H.old⟩
end Go.Proofs.YtkadodkdbopgnaaDoor
