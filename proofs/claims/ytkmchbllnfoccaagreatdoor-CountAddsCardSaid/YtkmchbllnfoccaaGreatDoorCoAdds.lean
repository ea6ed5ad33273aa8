/- CountAdds: the walk. -/
import Derived.Test.YtkmchbllnfoccaaGreatDoorCoShown
import Derived.Test.YtkmchbllnfoccaaGreatDoorRefArith
namespace Go.Proofs.YtkmchbllnfoccaaGreatDoor
open Go.RowKit
set_option linter.unusedVariables false
set_option linter.unusedSimpArgs false

theorem refadd10_is (an ad bn bd p q c : Int) (w : World) (ha : rightB an ad = true) (hb : rightB bn bd = true) (h : rN (an * bd + bn * ad) (ad * bd) = p ∧ rD (an * bd + bn * ad) (ad * bd) = q ∧ rE (an * bd + bn * ad) (ad * bd) = c) :
    Calls Tryz.prog 18 #[.agg #[.int .i64 an, .int .i64 ad], .agg #[.int .i64 bn, .int .i64 bd]] w fun e w' => e = .returned (.tuple #[.agg #[.int .i64 p, .int .i64 q], .int .i64 c]) ∧ Below w.heap.size w w' := by
  obtain ⟨rfl, rfl, rfl⟩ := h; exact refadd_any an ad bn bd w ha hb
/-- The periods' days: one each 365 days. -/
def rX (a : Int) (i : Nat) : Int := a + 365 * (i : Int)
def rowl (a : Int) (n : Nat) : List Value := (List.range n).map fun i => .int .i64 (rX a i)
theorem rowl_snoc (a : Int) (k : Nat) : rowl a k ++ [.int .i64 (rX a k)] = rowl a (k + 1) := by
  unfold rowl
  rw [List.range_succ, List.map_append]; rfl
theorem row_own {W : World} {base n : Nat} {v : Value} {a : Int} (h : W.ownsRow base 3 1 v n (rowl a n)) : ∃ ao cap, v = .slice ao n cap ∧ RowAt W ao (rX a) n cap := by
  have h0 := h
  rcases h.2 with ⟨rfl, rfl⟩ | ⟨g, cap, cur, rfl, _, _, hc, _⟩
  · exact ⟨_, _, rfl, Nat.le_refl _, fun k => absurd k (by omega)⟩
  · refine ⟨_, _, rfl, hc, fun _ => ⟨g, 0, rfl, fun j hj => ?_⟩⟩
    have := World.ownsRow.cellAt h0 j (by omega)
    rw [Nat.zero_add, this]
    simp [rowl, hj]
/-- After j rounds: the side in its box S; its periods are a row of the call's own. -/
structure SideRow (S : Nat) (fr a : Int) (j m : Nat) (v : Value) (W : World) : Prop where
  c0 : W.cell? ⟨S, 0, none⟩ = some (.bool false)
  c1 : W.cell? ⟨S, 1, none⟩ = some (.int .i64 0)
  c2 : W.cell? ⟨S, 2, none⟩ = some (.int .i64 fr)
  c3 : W.cell? ⟨S, 3, none⟩ = some v
  fz : W.frozen? ⟨S, 3, none⟩ = false
  own : W.ownsRow (S + 1) 3 1 v m (rowl a m)
  le : m ≤ j
  day : ∀ i, i < m → rX a i ≤ 3652059
  all : m = j ∨ 3652059 < rX a m
theorem SideRow.start (W : World) (fr a : Int) : SideRow W.heap.size fr a 0 0 (.slice none 0 0) (W.alloc (.cells #[.bool false, .int .i64 0, .int .i64 fr, .slice none 0 0] 24)) :=
  ⟨by simp [World.cell?_alloc_new], by simp [World.cell?_alloc_new], by simp [World.cell?_alloc_new], by simp [World.cell?_alloc_new], by simp [go_sem], World.ownsRow_nil _ _ _ _, Nat.le_refl _, fun i h => absurd h (by omega), Or.inl rfl⟩
theorem SideRow.now {S : Nat} {fr a : Int} {j m : Nat} {v : Value} {W : World} (h : SideRow S fr a j m v W) (hd : rX a j ≤ 3652059) : m = j := by
  rcases h.all with e | e
  · exact e
  · have := h.le
    unfold rX at *
    omega
theorem SideRow.skip {S : Nat} {fr a : Int} {j m : Nat} {v : Value} {W : World} (h : SideRow S fr a j m v W) (hd : ¬ rX a j ≤ 3652059) : SideRow S fr a (j + 1) m v W :=
  ⟨h.c0, h.c1, h.c2, h.c3, h.fz, h.own, Nat.le_succ_of_le h.le, h.day, Or.inr (by
    rcases h.all with e | e
    · subst e; omega
    · exact e)⟩
section
variable {S : Nat} {fr a y : Int} {j : Nat} {v v' : Value} {W w1 : World} {cs : Array Value} {T : TypeId}
theorem SideRow.grown (h : SideRow S fr a j j v W) (hg : (W.alloc (.cells cs T)).grownBy w1 v.ownBlock) :
    w1.cell? ⟨S, 0, none⟩ = some (.bool false) ∧ w1.cell? ⟨S, 1, none⟩ = some (.int .i64 0) ∧ w1.cell? ⟨S, 2, none⟩ = some (.int .i64 fr) ∧ w1.cell? ⟨S, 3, none⟩ = some v ∧ w1.frozen? ⟨S, 3, none⟩ = false := by
  have ne : ∀ o, some (⟨S, o, none⟩ : Addr).block ≠ v.ownBlock := fun o e => by have := (h.own.lt S e.symm).1; omega
  have up : ∀ {o x}, W.cell? ⟨S, o, none⟩ = some x → w1.cell? ⟨S, o, none⟩ = some x := fun {o x} hc => hg.cell (keep ((Below.refl _ W).alloc (Nat.le_refl _) _) (cell_lt hc) hc) (ne o)
  refine ⟨up h.c0, up h.c1, up h.c2, up h.c3, ?_⟩
  have l3 := cell_lt h.c3
  rw [World.frozen?_of_block (hg.block S (by simp; omega) (ne 3))]
  exact frozen_below ((Below.refl _ W).alloc (Nat.le_refl _) _) l3 h.fz
theorem SideRow.put (h : SideRow S fr a j j v W) (hd : rX a j ≤ 3652059) (hg : (W.alloc (.cells cs T)).grownBy w1 v.ownBlock) (ho : w1.ownsRow (S + 1) 3 1 v' (j + 1) (rowl a j ++ [.int .i64 y])) (hy : rX a j = y) :
    SideRow S fr a (j + 1) (j + 1) v' (w1.setCell ⟨S, 3, none⟩ v') := by
  obtain ⟨c0, c1, c2, c3, fz⟩ := h.grown hg
  subst hy
  rw [rowl_snoc] at ho
  have ot : ∀ {o : Nat} {x}, o ≠ 3 → w1.cell? ⟨S, o, none⟩ = some x → (w1.setCell ⟨S, 3, none⟩ v').cell? ⟨S, o, none⟩ = some x := fun {o x} ho hc => (World.cell?_setCell_other w1 ⟨S, 3, none⟩ ⟨S, o, none⟩ v' (by intro e; cases e; exact ho rfl)).trans hc
  refine ⟨ot (by decide) c0, ot (by decide) c1, ot (by decide) c2, World.cell?_setCell_same' w1 ⟨S, 3, none⟩ v' (by rw [c3]; rfl), by simpa using fz, ownsRow_setCell_below ho (Nat.lt_succ_self S) _, Nat.le_refl _, fun i hi => ?_, Or.inl rfl⟩
  by_cases e : i = j
  · subst e; exact hd
  · exact h.day i (by omega)
theorem SideRow.below {W0 : World} (h : SideRow S fr a j j v W) (hB : Below S W0 W) (hg : (W.alloc (.cells cs T)).grownBy w1 v.ownBlock) : Below S W0 (w1.setCell ⟨S, 3, none⟩ v') :=
  have l3 := cell_lt h.c3
  (hB.trans (((Below.refl S W).alloc (Nat.le_of_lt l3) _).grown hg (by simp; omega) (fun k hk => by have := (h.own.lt k hk).1; omega))).setCell (Nat.le_refl S) _
end
theorem one_news10 {W : World} {T : Nat} {x : Value} (h : W.cell? ⟨T, 0, none⟩ = some x) : ∀ j u, [x][j]? = some u → W.cell? ((⟨T, 0, none⟩ : Addr).add j) = some u := by
  intro j u hu
  match j, hu with
  | 0, hu => simp at hu; subst hu; exact h
theorem adds_may {a fr : Int} {m : Nat} (ha : 1 ≤ a) (hm : 2 ≤ m) (hm2 : m ≤ 100) (hf : 1 ≤ fr ∧ fr ≤ 12) (day : ∀ i, i < m → rX a i ≤ 3652059) : MayX (rX a) m fr := by
  refine ⟨hm, by omega, hf, ⟨fun i hi => ⟨by unfold rX; omega, day i hi⟩, fun i hi => by unfold rX; omega⟩, by unfold rX; omega⟩

set_option maxHeartbeats 8000000 in
set_option maxRecDepth 100000 in
theorem cadds_out_0 (K : CWay) (kd0 a b c fq : Int) (w : World) (hL : FactsC w) (bk : 0 ≤ kd0 ∧ kd0 < 256) (bf : 0 ≤ fq ∧ fq < 256) (hk : kd0 % 5 = 0) (h : ¬ ((1 ≤ a ∧ a ≤ 3652059) ∧ (1 ≤ b ∧ b ≤ 3652059) ∧ (1 ≤ c ∧ c ≤ 3652059) ∧ a ≤ b ∧ b ≤ c ∧ c - a ≤ 3000)) :
    Calls Tryz.prog 7 #[.agg #[.int .u8 kd0, .int .i64 a, .int .i64 b, .int .i64 c, .int .u8 fq]] w fun e w' => e = .returned (.bool true) ∧ Below w.heap.size w w' := by
  have H := (Held.start w).add (f := factsCF) hL
  clear hL
  go_enter Tryz.func7, Tryz.ntmps7
  go_wp2_with fail
  replace H := H.alloc (.cells #[.int .u8 kd0, .int .i64 a, .int .i64 b, .int .i64 c, .int .u8 fq] 51)
  (with_reducible refine (coshown_any K _ (H.factsC (by repeat (first | with_reducible exact List.mem_cons_self | with_reducible apply List.mem_cons_of_mem)))).mono ?_)
  rintro e w1 ⟨rfl, hb⟩
  replace H := H.below hb
  clear hb
  go_wp2_with fail
  replace H := H.alloc (.cells #[.int .i64 1, .int .i64 3, .int .i64 4, .int .i64 5, .int .i64 6] 3)
  by_cases ha : 1 ≤ a ∧ a ≤ 3652059
  rotate_left
  · have Da : Hid (decide (1 ≤ a ∧ a ≤ 3652059) = false) := Lib.hid (by rw [decide_eq_false_iff_not]; omega)
    (with_reducible refine (rday_is a false _ Da.out).mono ?_)
    rintro e va ⟨rfl, rfl⟩
    go_wp2_with fail
    go_ret
    exact ⟨rfl, H.old⟩
  have Da : Hid (decide (1 ≤ a ∧ a ≤ 3652059) = true) := Lib.hid (by rw [decide_eq_true_eq]; exact ha)
  (with_reducible refine (rday_is a true _ Da.out).mono ?_)
  rintro e va ⟨rfl, rfl⟩
  go_wp2_with fail
  by_cases hb : 1 ≤ b ∧ b ≤ 3652059
  rotate_left
  · have Db : Hid (decide (1 ≤ b ∧ b ≤ 3652059) = false) := Lib.hid (by rw [decide_eq_false_iff_not]; omega)
    (with_reducible refine (rday_is b false _ Db.out).mono ?_)
    rintro e vb ⟨rfl, rfl⟩
    go_wp2_with fail
    go_ret
    exact ⟨rfl, H.old⟩
  have Db : Hid (decide (1 ≤ b ∧ b ≤ 3652059) = true) := Lib.hid (by rw [decide_eq_true_eq]; exact hb)
  (with_reducible refine (rday_is b true _ Db.out).mono ?_)
  rintro e vb ⟨rfl, rfl⟩
  go_wp2_with fail
  by_cases hc : 1 ≤ c ∧ c ≤ 3652059
  rotate_left
  · have Dc : Hid (decide (1 ≤ c ∧ c ≤ 3652059) = false) := Lib.hid (by rw [decide_eq_false_iff_not]; omega)
    (with_reducible refine (rday_is c false _ Dc.out).mono ?_)
    rintro e vc ⟨rfl, rfl⟩
    go_wp2_with fail
    go_ret
    exact ⟨rfl, H.old⟩
  have Dc : Hid (decide (1 ≤ c ∧ c ≤ 3652059) = true) := Lib.hid (by rw [decide_eq_true_eq]; exact hc)
  (with_reducible refine (rday_is c true _ Dc.out).mono ?_)
  rintro e vc ⟨rfl, rfl⟩
  by_cases h1 : b < a
  · have q1 : decide (a > b) = true := decide_eq_true h1
    go_wp2_with fail
    go_ret
    exact ⟨rfl, H.old⟩
  have q1 : decide (a > b) = false := decide_eq_false (by omega)
  by_cases h2 : c < b
  · have q2 : decide (b > c) = true := decide_eq_true h2
    go_wp2_with fail
    go_ret
    exact ⟨rfl, H.old⟩
  have q2 : decide (b > c) = false := decide_eq_false (by omega)
  have q3 : decide (c - a > 3000) = true := decide_eq_true (by omega)
  go_wp2_with fail
  go_ret
  exact ⟨rfl, H.old⟩

set_option maxHeartbeats 8000000 in
set_option maxRecDepth 100000 in
theorem cadds_out_1 (K : CWay) (kd0 a b c fq : Int) (w : World) (hL : FactsC w) (bk : 0 ≤ kd0 ∧ kd0 < 256) (bf : 0 ≤ fq ∧ fq < 256) (hk : kd0 % 5 = 1) (h : ¬ ((1 ≤ a ∧ a ≤ 3652059) ∧ (1 ≤ b ∧ b ≤ 3652059) ∧ (1 ≤ c ∧ c ≤ 3652059) ∧ a ≤ b ∧ b ≤ c ∧ c - a ≤ 3000)) :
    Calls Tryz.prog 7 #[.agg #[.int .u8 kd0, .int .i64 a, .int .i64 b, .int .i64 c, .int .u8 fq]] w fun e w' => e = .returned (.bool true) ∧ Below w.heap.size w w' := by
  have H := (Held.start w).add (f := factsCF) hL
  clear hL
  go_enter Tryz.func7, Tryz.ntmps7
  go_wp2_with fail
  replace H := H.alloc (.cells #[.int .u8 kd0, .int .i64 a, .int .i64 b, .int .i64 c, .int .u8 fq] 51)
  (with_reducible refine (coshown_any K _ (H.factsC (by repeat (first | with_reducible exact List.mem_cons_self | with_reducible apply List.mem_cons_of_mem)))).mono ?_)
  rintro e w1 ⟨rfl, hb⟩
  replace H := H.below hb
  clear hb
  go_wp2_with fail
  replace H := H.alloc (.cells #[.int .i64 1, .int .i64 3, .int .i64 4, .int .i64 5, .int .i64 6] 3)
  by_cases ha : 1 ≤ a ∧ a ≤ 3652059
  rotate_left
  · have Da : Hid (decide (1 ≤ a ∧ a ≤ 3652059) = false) := Lib.hid (by rw [decide_eq_false_iff_not]; omega)
    (with_reducible refine (rday_is a false _ Da.out).mono ?_)
    rintro e va ⟨rfl, rfl⟩
    go_wp2_with fail
    go_ret
    exact ⟨rfl, H.old⟩
  have Da : Hid (decide (1 ≤ a ∧ a ≤ 3652059) = true) := Lib.hid (by rw [decide_eq_true_eq]; exact ha)
  (with_reducible refine (rday_is a true _ Da.out).mono ?_)
  rintro e va ⟨rfl, rfl⟩
  go_wp2_with fail
  by_cases hb : 1 ≤ b ∧ b ≤ 3652059
  rotate_left
  · have Db : Hid (decide (1 ≤ b ∧ b ≤ 3652059) = false) := Lib.hid (by rw [decide_eq_false_iff_not]; omega)
    (with_reducible refine (rday_is b false _ Db.out).mono ?_)
    rintro e vb ⟨rfl, rfl⟩
    go_wp2_with fail
    go_ret
    exact ⟨rfl, H.old⟩
  have Db : Hid (decide (1 ≤ b ∧ b ≤ 3652059) = true) := Lib.hid (by rw [decide_eq_true_eq]; exact hb)
  (with_reducible refine (rday_is b true _ Db.out).mono ?_)
  rintro e vb ⟨rfl, rfl⟩
  go_wp2_with fail
  by_cases hc : 1 ≤ c ∧ c ≤ 3652059
  rotate_left
  · have Dc : Hid (decide (1 ≤ c ∧ c ≤ 3652059) = false) := Lib.hid (by rw [decide_eq_false_iff_not]; omega)
    (with_reducible refine (rday_is c false _ Dc.out).mono ?_)
    rintro e vc ⟨rfl, rfl⟩
    go_wp2_with fail
    go_ret
    exact ⟨rfl, H.old⟩
  have Dc : Hid (decide (1 ≤ c ∧ c ≤ 3652059) = true) := Lib.hid (by rw [decide_eq_true_eq]; exact hc)
  (with_reducible refine (rday_is c true _ Dc.out).mono ?_)
  rintro e vc ⟨rfl, rfl⟩
  by_cases h1 : b < a
  · have q1 : decide (a > b) = true := decide_eq_true h1
    go_wp2_with fail
    go_ret
    exact ⟨rfl, H.old⟩
  have q1 : decide (a > b) = false := decide_eq_false (by omega)
  by_cases h2 : c < b
  · have q2 : decide (b > c) = true := decide_eq_true h2
    go_wp2_with fail
    go_ret
    exact ⟨rfl, H.old⟩
  have q2 : decide (b > c) = false := decide_eq_false (by omega)
  have q3 : decide (c - a > 3000) = true := decide_eq_true (by omega)
  go_wp2_with fail
  go_ret
  exact ⟨rfl, H.old⟩

set_option maxHeartbeats 8000000 in
set_option maxRecDepth 100000 in
theorem cadds_out_2 (K : CWay) (kd0 a b c fq : Int) (w : World) (hL : FactsC w) (bk : 0 ≤ kd0 ∧ kd0 < 256) (bf : 0 ≤ fq ∧ fq < 256) (hk : kd0 % 5 = 2) (h : ¬ ((1 ≤ a ∧ a ≤ 3652059) ∧ (1 ≤ b ∧ b ≤ 3652059) ∧ (1 ≤ c ∧ c ≤ 3652059) ∧ a ≤ b ∧ b ≤ c ∧ c - a ≤ 3000)) :
    Calls Tryz.prog 7 #[.agg #[.int .u8 kd0, .int .i64 a, .int .i64 b, .int .i64 c, .int .u8 fq]] w fun e w' => e = .returned (.bool true) ∧ Below w.heap.size w w' := by
  have H := (Held.start w).add (f := factsCF) hL
  clear hL
  go_enter Tryz.func7, Tryz.ntmps7
  go_wp2_with fail
  replace H := H.alloc (.cells #[.int .u8 kd0, .int .i64 a, .int .i64 b, .int .i64 c, .int .u8 fq] 51)
  (with_reducible refine (coshown_any K _ (H.factsC (by repeat (first | with_reducible exact List.mem_cons_self | with_reducible apply List.mem_cons_of_mem)))).mono ?_)
  rintro e w1 ⟨rfl, hb⟩
  replace H := H.below hb
  clear hb
  go_wp2_with fail
  replace H := H.alloc (.cells #[.int .i64 1, .int .i64 3, .int .i64 4, .int .i64 5, .int .i64 6] 3)
  by_cases ha : 1 ≤ a ∧ a ≤ 3652059
  rotate_left
  · have Da : Hid (decide (1 ≤ a ∧ a ≤ 3652059) = false) := Lib.hid (by rw [decide_eq_false_iff_not]; omega)
    (with_reducible refine (rday_is a false _ Da.out).mono ?_)
    rintro e va ⟨rfl, rfl⟩
    go_wp2_with fail
    go_ret
    exact ⟨rfl, H.old⟩
  have Da : Hid (decide (1 ≤ a ∧ a ≤ 3652059) = true) := Lib.hid (by rw [decide_eq_true_eq]; exact ha)
  (with_reducible refine (rday_is a true _ Da.out).mono ?_)
  rintro e va ⟨rfl, rfl⟩
  go_wp2_with fail
  by_cases hb : 1 ≤ b ∧ b ≤ 3652059
  rotate_left
  · have Db : Hid (decide (1 ≤ b ∧ b ≤ 3652059) = false) := Lib.hid (by rw [decide_eq_false_iff_not]; omega)
    (with_reducible refine (rday_is b false _ Db.out).mono ?_)
    rintro e vb ⟨rfl, rfl⟩
    go_wp2_with fail
    go_ret
    exact ⟨rfl, H.old⟩
  have Db : Hid (decide (1 ≤ b ∧ b ≤ 3652059) = true) := Lib.hid (by rw [decide_eq_true_eq]; exact hb)
  (with_reducible refine (rday_is b true _ Db.out).mono ?_)
  rintro e vb ⟨rfl, rfl⟩
  go_wp2_with fail
  by_cases hc : 1 ≤ c ∧ c ≤ 3652059
  rotate_left
  · have Dc : Hid (decide (1 ≤ c ∧ c ≤ 3652059) = false) := Lib.hid (by rw [decide_eq_false_iff_not]; omega)
    (with_reducible refine (rday_is c false _ Dc.out).mono ?_)
    rintro e vc ⟨rfl, rfl⟩
    go_wp2_with fail
    go_ret
    exact ⟨rfl, H.old⟩
  have Dc : Hid (decide (1 ≤ c ∧ c ≤ 3652059) = true) := Lib.hid (by rw [decide_eq_true_eq]; exact hc)
  (with_reducible refine (rday_is c true _ Dc.out).mono ?_)
  rintro e vc ⟨rfl, rfl⟩
  by_cases h1 : b < a
  · have q1 : decide (a > b) = true := decide_eq_true h1
    go_wp2_with fail
    go_ret
    exact ⟨rfl, H.old⟩
  have q1 : decide (a > b) = false := decide_eq_false (by omega)
  by_cases h2 : c < b
  · have q2 : decide (b > c) = true := decide_eq_true h2
    go_wp2_with fail
    go_ret
    exact ⟨rfl, H.old⟩
  have q2 : decide (b > c) = false := decide_eq_false (by omega)
  have q3 : decide (c - a > 3000) = true := decide_eq_true (by omega)
  go_wp2_with fail
  go_ret
  exact ⟨rfl, H.old⟩

set_option maxHeartbeats 8000000 in
set_option maxRecDepth 100000 in
theorem cadds_out_3 (K : CWay) (kd0 a b c fq : Int) (w : World) (hL : FactsC w) (bk : 0 ≤ kd0 ∧ kd0 < 256) (bf : 0 ≤ fq ∧ fq < 256) (hk : kd0 % 5 = 3) (h : ¬ ((1 ≤ a ∧ a ≤ 3652059) ∧ (1 ≤ b ∧ b ≤ 3652059) ∧ (1 ≤ c ∧ c ≤ 3652059) ∧ a ≤ b ∧ b ≤ c ∧ c - a ≤ 3000)) :
    Calls Tryz.prog 7 #[.agg #[.int .u8 kd0, .int .i64 a, .int .i64 b, .int .i64 c, .int .u8 fq]] w fun e w' => e = .returned (.bool true) ∧ Below w.heap.size w w' := by
  have H := (Held.start w).add (f := factsCF) hL
  clear hL
  go_enter Tryz.func7, Tryz.ntmps7
  go_wp2_with fail
  replace H := H.alloc (.cells #[.int .u8 kd0, .int .i64 a, .int .i64 b, .int .i64 c, .int .u8 fq] 51)
  (with_reducible refine (coshown_any K _ (H.factsC (by repeat (first | with_reducible exact List.mem_cons_self | with_reducible apply List.mem_cons_of_mem)))).mono ?_)
  rintro e w1 ⟨rfl, hb⟩
  replace H := H.below hb
  clear hb
  go_wp2_with fail
  replace H := H.alloc (.cells #[.int .i64 1, .int .i64 3, .int .i64 4, .int .i64 5, .int .i64 6] 3)
  by_cases ha : 1 ≤ a ∧ a ≤ 3652059
  rotate_left
  · have Da : Hid (decide (1 ≤ a ∧ a ≤ 3652059) = false) := Lib.hid (by rw [decide_eq_false_iff_not]; omega)
    (with_reducible refine (rday_is a false _ Da.out).mono ?_)
    rintro e va ⟨rfl, rfl⟩
    go_wp2_with fail
    go_ret
    exact ⟨rfl, H.old⟩
  have Da : Hid (decide (1 ≤ a ∧ a ≤ 3652059) = true) := Lib.hid (by rw [decide_eq_true_eq]; exact ha)
  (with_reducible refine (rday_is a true _ Da.out).mono ?_)
  rintro e va ⟨rfl, rfl⟩
  go_wp2_with fail
  by_cases hb : 1 ≤ b ∧ b ≤ 3652059
  rotate_left
  · have Db : Hid (decide (1 ≤ b ∧ b ≤ 3652059) = false) := Lib.hid (by rw [decide_eq_false_iff_not]; omega)
    (with_reducible refine (rday_is b false _ Db.out).mono ?_)
    rintro e vb ⟨rfl, rfl⟩
    go_wp2_with fail
    go_ret
    exact ⟨rfl, H.old⟩
  have Db : Hid (decide (1 ≤ b ∧ b ≤ 3652059) = true) := Lib.hid (by rw [decide_eq_true_eq]; exact hb)
  (with_reducible refine (rday_is b true _ Db.out).mono ?_)
  rintro e vb ⟨rfl, rfl⟩
  go_wp2_with fail
  by_cases hc : 1 ≤ c ∧ c ≤ 3652059
  rotate_left
  · have Dc : Hid (decide (1 ≤ c ∧ c ≤ 3652059) = false) := Lib.hid (by rw [decide_eq_false_iff_not]; omega)
    (with_reducible refine (rday_is c false _ Dc.out).mono ?_)
    rintro e vc ⟨rfl, rfl⟩
    go_wp2_with fail
    go_ret
    exact ⟨rfl, H.old⟩
  have Dc : Hid (decide (1 ≤ c ∧ c ≤ 3652059) = true) := Lib.hid (by rw [decide_eq_true_eq]; exact hc)
  (with_reducible refine (rday_is c true _ Dc.out).mono ?_)
  rintro e vc ⟨rfl, rfl⟩
  by_cases h1 : b < a
  · have q1 : decide (a > b) = true := decide_eq_true h1
    go_wp2_with fail
    go_ret
    exact ⟨rfl, H.old⟩
  have q1 : decide (a > b) = false := decide_eq_false (by omega)
  by_cases h2 : c < b
  · have q2 : decide (b > c) = true := decide_eq_true h2
    go_wp2_with fail
    go_ret
    exact ⟨rfl, H.old⟩
  have q2 : decide (b > c) = false := decide_eq_false (by omega)
  have q3 : decide (c - a > 3000) = true := decide_eq_true (by omega)
  go_wp2_with fail
  go_ret
  exact ⟨rfl, H.old⟩

set_option maxHeartbeats 8000000 in
set_option maxRecDepth 100000 in
theorem cadds_out_4 (K : CWay) (kd0 a b c fq : Int) (w : World) (hL : FactsC w) (bk : 0 ≤ kd0 ∧ kd0 < 256) (bf : 0 ≤ fq ∧ fq < 256) (hk : kd0 % 5 = 4) (h : ¬ ((1 ≤ a ∧ a ≤ 3652059) ∧ (1 ≤ b ∧ b ≤ 3652059) ∧ (1 ≤ c ∧ c ≤ 3652059) ∧ a ≤ b ∧ b ≤ c ∧ c - a ≤ 3000)) :
    Calls Tryz.prog 7 #[.agg #[.int .u8 kd0, .int .i64 a, .int .i64 b, .int .i64 c, .int .u8 fq]] w fun e w' => e = .returned (.bool true) ∧ Below w.heap.size w w' := by
  have H := (Held.start w).add (f := factsCF) hL
  clear hL
  go_enter Tryz.func7, Tryz.ntmps7
  go_wp2_with fail
  replace H := H.alloc (.cells #[.int .u8 kd0, .int .i64 a, .int .i64 b, .int .i64 c, .int .u8 fq] 51)
  (with_reducible refine (coshown_any K _ (H.factsC (by repeat (first | with_reducible exact List.mem_cons_self | with_reducible apply List.mem_cons_of_mem)))).mono ?_)
  rintro e w1 ⟨rfl, hb⟩
  replace H := H.below hb
  clear hb
  go_wp2_with fail
  replace H := H.alloc (.cells #[.int .i64 1, .int .i64 3, .int .i64 4, .int .i64 5, .int .i64 6] 3)
  by_cases ha : 1 ≤ a ∧ a ≤ 3652059
  rotate_left
  · have Da : Hid (decide (1 ≤ a ∧ a ≤ 3652059) = false) := Lib.hid (by rw [decide_eq_false_iff_not]; omega)
    (with_reducible refine (rday_is a false _ Da.out).mono ?_)
    rintro e va ⟨rfl, rfl⟩
    go_wp2_with fail
    go_ret
    exact ⟨rfl, H.old⟩
  have Da : Hid (decide (1 ≤ a ∧ a ≤ 3652059) = true) := Lib.hid (by rw [decide_eq_true_eq]; exact ha)
  (with_reducible refine (rday_is a true _ Da.out).mono ?_)
  rintro e va ⟨rfl, rfl⟩
  go_wp2_with fail
  by_cases hb : 1 ≤ b ∧ b ≤ 3652059
  rotate_left
  · have Db : Hid (decide (1 ≤ b ∧ b ≤ 3652059) = false) := Lib.hid (by rw [decide_eq_false_iff_not]; omega)
    (with_reducible refine (rday_is b false _ Db.out).mono ?_)
    rintro e vb ⟨rfl, rfl⟩
    go_wp2_with fail
    go_ret
    exact ⟨rfl, H.old⟩
  have Db : Hid (decide (1 ≤ b ∧ b ≤ 3652059) = true) := Lib.hid (by rw [decide_eq_true_eq]; exact hb)
  (with_reducible refine (rday_is b true _ Db.out).mono ?_)
  rintro e vb ⟨rfl, rfl⟩
  go_wp2_with fail
  by_cases hc : 1 ≤ c ∧ c ≤ 3652059
  rotate_left
  · have Dc : Hid (decide (1 ≤ c ∧ c ≤ 3652059) = false) := Lib.hid (by rw [decide_eq_false_iff_not]; omega)
    (with_reducible refine (rday_is c false _ Dc.out).mono ?_)
    rintro e vc ⟨rfl, rfl⟩
    go_wp2_with fail
    go_ret
    exact ⟨rfl, H.old⟩
  have Dc : Hid (decide (1 ≤ c ∧ c ≤ 3652059) = true) := Lib.hid (by rw [decide_eq_true_eq]; exact hc)
  (with_reducible refine (rday_is c true _ Dc.out).mono ?_)
  rintro e vc ⟨rfl, rfl⟩
  by_cases h1 : b < a
  · have q1 : decide (a > b) = true := decide_eq_true h1
    go_wp2_with fail
    go_ret
    exact ⟨rfl, H.old⟩
  have q1 : decide (a > b) = false := decide_eq_false (by omega)
  by_cases h2 : c < b
  · have q2 : decide (b > c) = true := decide_eq_true h2
    go_wp2_with fail
    go_ret
    exact ⟨rfl, H.old⟩
  have q2 : decide (b > c) = false := decide_eq_false (by omega)
  have q3 : decide (c - a > 3000) = true := decide_eq_true (by omega)
  go_wp2_with fail
  go_ret
  exact ⟨rfl, H.old⟩

set_option maxHeartbeats 8000000 in
set_option maxRecDepth 100000 in
theorem cadds_main_0 (K : CWay) (kd0 a b c fq : Int) (w : World) (hL : FactsC w) (bk : 0 ≤ kd0 ∧ kd0 < 256) (bf : 0 ≤ fq ∧ fq < 256) (hk : kd0 % 5 = 0) (ha : 1 ≤ a ∧ a ≤ 3652059) (hb : 1 ≤ b ∧ b ≤ 3652059) (hc : 1 ≤ c ∧ c ≤ 3652059) (hab : a ≤ b) (hbc : b ≤ c) (h3 : c - a ≤ 3000) :
    Calls Tryz.prog 7 #[.agg #[.int .u8 kd0, .int .i64 a, .int .i64 b, .int .i64 c, .int .u8 fq]] w fun e w' => e = .returned (.bool true) ∧ Below w.heap.size w w' := by
  have H := (Held.start w).add (f := factsCF) hL
  clear hL
  obtain ⟨fr, hfr⟩ : ∃ fr, 1 + fq % 12 = fr := ⟨_, rfl⟩
  have bfr : 1 ≤ fr ∧ fr ≤ 12 := by omega
  have HK := Lib.hid hfr
  clear hfr
  obtain ⟨i0, hi, hz0, hz1, hz2⟩ := info_parts infoInt
  go_enter Tryz.func7, Tryz.ntmps7
  go_wp2_with fail
  replace H := H.alloc (.cells #[.int .u8 kd0, .int .i64 a, .int .i64 b, .int .i64 c, .int .u8 fq] 51)
  (with_reducible refine (coshown_any K _ (H.factsC (by repeat (first | with_reducible exact List.mem_cons_self | with_reducible apply List.mem_cons_of_mem)))).mono ?_)
  rintro e w1 ⟨rfl, hb⟩
  replace H := H.below hb
  clear hb
  go_wp2_with fail
  replace H := H.alloc (.cells #[.int .i64 1, .int .i64 3, .int .i64 4, .int .i64 5, .int .i64 6] 3)
  have Da : Hid (decide (1 ≤ a ∧ a ≤ 3652059) = true) := Lib.hid (by rw [decide_eq_true_eq]; exact ha)
  (with_reducible refine (rday_is a true _ Da.out).mono ?_)
  rintro e va ⟨rfl, rfl⟩
  go_wp2_with fail
  have Db : Hid (decide (1 ≤ b ∧ b ≤ 3652059) = true) := Lib.hid (by rw [decide_eq_true_eq]; exact hb)
  (with_reducible refine (rday_is b true _ Db.out).mono ?_)
  rintro e vb ⟨rfl, rfl⟩
  go_wp2_with fail
  have Dc : Hid (decide (1 ≤ c ∧ c ≤ 3652059) = true) := Lib.hid (by rw [decide_eq_true_eq]; exact hc)
  (with_reducible refine (rday_is c true _ Dc.out).mono ?_)
  rintro e vc ⟨rfl, rfl⟩
  have q1 : decide (a > b) = false := decide_eq_false (by omega)
  have q2 : decide (b > c) = false := decide_eq_false (by omega)
  have q3 : decide (c - a > 3000) = false := decide_eq_false (by omega)
  go_wp2_with fail
  clear q1 q2 q3
  obtain ⟨W0, hW0⟩ : ∃ W0, w1.alloc (.cells #[.int .i64 1, .int .i64 3, .int .i64 4, .int .i64 5, .int .i64 6] 3) = W0 := ⟨_, rfl⟩
  have hsz : w1.heap.size + 1 = W0.heap.size := by rw [← hW0]; simp
  rw [hW0] at H ⊢
  rw [hsz, HK.out]
  clear hW0 hsz HK
  have ST := SideRow.start W0 fr a
  have HB := (Below.refl W0.heap.size W0).alloc (Nat.le_refl _) (.cells #[.bool false, .int .i64 0, .int .i64 fr, .slice none 0 0] 24)
  obtain ⟨W1, hW1⟩ : ∃ W1, W0.alloc (.cells #[.bool false, .int .i64 0, .int .i64 fr, .slice none 0 0] 24) = W1 := ⟨_, rfl⟩
  rw [hW1] at ST HB ⊢
  clear hW1
  obtain ⟨S, hS⟩ : ∃ S, W0.heap.size = S := ⟨_, rfl⟩
  rw [hS] at ST HB ⊢
  go_loopw [11] (fun i wr => ∃ (j m : Nat) (v : Value), j ≤ 10 ∧ i = .int .i64 (a + 365 * (j : Int)) ∧ SideRow S fr a j m v wr ∧ Below S W0 wr) (fun i _ => (c + 366 - intOf i).toNat)
  case atStart => exact ⟨0, 0, _, by omega, by simp, ST, HB⟩
  case round =>
    obtain ⟨j, m, v, j10, rfl, R, hB⟩ := hrel
    have KH := Lib.hid (H.below (by rw [hS]; exact hB))
    by_cases hlt : a + 365 * (j : Int) < c + 366
    · by_cases hd : a + 365 * (j : Int) ≤ 3652059
      · obtain rfl : m = j := R.now hd
        have e3 := R.c3
        have fS := R.fz
        have lS := cell_lt e3
        obtain ⟨y, hy⟩ : ∃ y, a + 365 * (m : Int) = y := ⟨_, rfl⟩
        rw [hy] at hlt hd ⊢
        have l1 : decide (y < c + 366) = true := decide_eq_true hlt
        have l2 : decide (y ≤ 3652059) = true := decide_eq_true hd
        go_wp2_with (first
          | (at_builtin; refine wpList_append_own _ rfl _ _ 22 rfl (S + 1) 3 i0 (.int .i64 0) 1 8 Tryz.underlying22 hi hz0 hz1 hz2 rfl (by decide) _ _ _ rfl (R.own.alloc _) ⟨wr.heap.size, 0, none⟩ 1 1 [.int .i64 y] rfl rfl ?c1 ?c2 ?c3 ?c4 ?c5 ?_)
          | go_in)
        case c1 => exact one_news10 (by simp [World.cell?_alloc_new])
        case c2 => first | rfl | (intro u hu; simp at hu; subst hu; rfl)
        case c3 => unfold maxLen; omega
        case c4 => omega
        case c5 => first | omega | (simp; omega)
        · intro v' w2 hown' hgrow _
          obtain ⟨g', cap', rfl⟩ : ∃ g' cap', v' = .slice (some ⟨g', 0, none⟩) (m + 1) cap' := by
            rcases hown'.2 with ⟨_, h⟩ | ⟨g', cap', cur, h, _⟩
            · omega
            · exact ⟨g', cap', h⟩
          have PT := Lib.hid (R.put (by unfold rX; omega) hgrow hown' hy)
          have BL := Lib.hid (R.below (v' := .slice (some ⟨g', 0, none⟩) (m + 1) cap') hB hgrow)
          obtain ⟨-, -, -, g3, gz⟩ := R.grown hgrow
          have lg := cell_lt g3
          clear hgrow hown' e3 fS lS
          go_wp2
          go_roundw
          case rel => exact ⟨m + 1, m + 1, _, by omega, congrArg (Value.int .i64) (by omega), PT.out, BL.out⟩
          case measure => simp [intOf]; omega
      · have R2 := R.skip (by unfold rX; omega)
        obtain ⟨y, hy⟩ : ∃ y, a + 365 * (j : Int) = y := ⟨_, rfl⟩
        rw [hy] at hlt hd ⊢
        have l1 : decide (y < c + 366) = true := decide_eq_true hlt
        have l2 : decide (y ≤ 3652059) = false := decide_eq_false hd
        go_wp2
        go_roundw
        case rel => exact ⟨j + 1, m, v, by omega, congrArg (Value.int .i64) (by omega), R2, hB⟩
        case measure => simp [intOf]; omega
    · skip
      have j2 : 2 ≤ j := by omega
      have jm : m ≤ 10 := by have := R.le; omega
      obtain ⟨ao, ca, rfl, hrow⟩ := row_own R.own
      have H := ((((((KH.out.add (f := .cell S 3 _) R.c3).add (f := .cell S 2 _) R.c2).add (f := .cell S 1 _) R.c1).add (f := .cell S 0 _) R.c0)).add (f := rowF ao (rX a) m ca) hrow)
      have rall := R.all
      have rday := R.day
      clear KH R hrow
      obtain ⟨p, q, r, s, u, v, I1, I2, I3, R1, R2, AD⟩ := co_adds (k := 1) (t := false) (en := 0) (f := fr) (X := rX a) (n := m) (by omega) ha hb hc hab hbc
      replace I1 := Lib.hid I1
      replace I2 := Lib.hid I2
      replace I3 := Lib.hid I3
      have AD10 := Lib.hid (fun v' => refadd10_is p q r s u v 0 v' R1 R2 AD)
      clear R1 R2 AD
      have l1 : decide (a + 365 * (j : Int) < c + 366) = false := decide_eq_false hlt
      have cs0 := H.cell (S) 0 (.bool false) (by repeat (first | with_reducible exact List.mem_cons_self | with_reducible apply List.mem_cons_of_mem))
      have cs1 := H.cell (S) 1 (.int .i64 0) (by repeat (first | with_reducible exact List.mem_cons_self | with_reducible apply List.mem_cons_of_mem))
      have cs2 := H.cell (S) 2 (.int .i64 fr) (by repeat (first | with_reducible exact List.mem_cons_self | with_reducible apply List.mem_cons_of_mem))
      have cs3 := H.cell (S) 3 (.slice ao m ca) (by repeat (first | with_reducible exact List.mem_cons_self | with_reducible apply List.mem_cons_of_mem))
      have ls := cell_lt cs0
      go_wp2_with fail
      clear cs0 cs1 cs2 cs3 ls
      (with_reducible refine (K.part 1 a b false 0 fr ao m ca (rX a) p q 0 _ (H.factsC (by repeat (first | with_reducible exact List.mem_cons_self | with_reducible apply List.mem_cons_of_mem))) (by unfold i64B; omega) (by omega) (H.row (ao := ao) (X := rX a) (n := m) (cap := ca) (by repeat (first | with_reducible exact List.mem_cons_self | with_reducible apply List.mem_cons_of_mem))) I1.out).mono ?_)
      rintro e w21 ⟨rfl, hb⟩
      replace H := H.below hb
      clear hb
      have cs0 := H.cell (S) 0 (.bool false) (by repeat (first | with_reducible exact List.mem_cons_self | with_reducible apply List.mem_cons_of_mem))
      have cs1 := H.cell (S) 1 (.int .i64 0) (by repeat (first | with_reducible exact List.mem_cons_self | with_reducible apply List.mem_cons_of_mem))
      have cs2 := H.cell (S) 2 (.int .i64 fr) (by repeat (first | with_reducible exact List.mem_cons_self | with_reducible apply List.mem_cons_of_mem))
      have cs3 := H.cell (S) 3 (.slice ao m ca) (by repeat (first | with_reducible exact List.mem_cons_self | with_reducible apply List.mem_cons_of_mem))
      have ls := cell_lt cs0
      go_wp2_with fail
      clear cs0 cs1 cs2 cs3 ls
      replace H := H.pair (w21.heap.size) (.int .i64 p) (.int .i64 q) 29 rfl
      (with_reducible refine (K.part 1 b c false 0 fr ao m ca (rX a) r s 0 _ (H.factsC (by repeat (first | with_reducible exact List.mem_cons_self | with_reducible apply List.mem_cons_of_mem))) (by unfold i64B; omega) (by omega) (H.row (ao := ao) (X := rX a) (n := m) (cap := ca) (by repeat (first | with_reducible exact List.mem_cons_self | with_reducible apply List.mem_cons_of_mem))) I2.out).mono ?_)
      rintro e w22 ⟨rfl, hb⟩
      replace H := H.below hb
      clear hb
      have cs0 := H.cell (S) 0 (.bool false) (by repeat (first | with_reducible exact List.mem_cons_self | with_reducible apply List.mem_cons_of_mem))
      have cs1 := H.cell (S) 1 (.int .i64 0) (by repeat (first | with_reducible exact List.mem_cons_self | with_reducible apply List.mem_cons_of_mem))
      have cs2 := H.cell (S) 2 (.int .i64 fr) (by repeat (first | with_reducible exact List.mem_cons_self | with_reducible apply List.mem_cons_of_mem))
      have cs3 := H.cell (S) 3 (.slice ao m ca) (by repeat (first | with_reducible exact List.mem_cons_self | with_reducible apply List.mem_cons_of_mem))
      have ls := cell_lt cs0
      go_wp2_with fail
      clear cs0 cs1 cs2 cs3 ls
      replace H := H.pair (w22.heap.size) (.int .i64 r) (.int .i64 s) 29 rfl
      (with_reducible refine (K.part 1 a c false 0 fr ao m ca (rX a) u v 0 _ (H.factsC (by repeat (first | with_reducible exact List.mem_cons_self | with_reducible apply List.mem_cons_of_mem))) (by unfold i64B; omega) (by omega) (H.row (ao := ao) (X := rX a) (n := m) (cap := ca) (by repeat (first | with_reducible exact List.mem_cons_self | with_reducible apply List.mem_cons_of_mem))) I3.out).mono ?_)
      rintro e w23 ⟨rfl, hb⟩
      replace H := H.below hb
      clear hb
      have cx0 := H.cell (w21.heap.size) 0 (.int .i64 p) (by repeat (first | with_reducible exact List.mem_cons_self | with_reducible apply List.mem_cons_of_mem))
      have cx1 := H.cell (w21.heap.size) 1 (.int .i64 q) (by repeat (first | with_reducible exact List.mem_cons_self | with_reducible apply List.mem_cons_of_mem))
      have lx := cell_lt cx0
      have cy0 := H.cell (w22.heap.size) 0 (.int .i64 r) (by repeat (first | with_reducible exact List.mem_cons_self | with_reducible apply List.mem_cons_of_mem))
      have cy1 := H.cell (w22.heap.size) 1 (.int .i64 s) (by repeat (first | with_reducible exact List.mem_cons_self | with_reducible apply List.mem_cons_of_mem))
      have ly := cell_lt cy0
      go_wp2_with fail
      clear cx0 cx1 lx cy0 cy1 ly
      replace H := H.pair (w23.heap.size) (.int .i64 u) (.int .i64 v) 29 rfl
      (with_reducible refine (AD10.out _).mono ?_)
      rintro e w24 ⟨rfl, hb⟩
      replace H := H.below hb
      clear hb
      have cx0 := H.cell (w21.heap.size) 0 (.int .i64 p) (by repeat (first | with_reducible exact List.mem_cons_self | with_reducible apply List.mem_cons_of_mem))
      have cx1 := H.cell (w21.heap.size) 1 (.int .i64 q) (by repeat (first | with_reducible exact List.mem_cons_self | with_reducible apply List.mem_cons_of_mem))
      have lx := cell_lt cx0
      have cy0 := H.cell (w22.heap.size) 0 (.int .i64 r) (by repeat (first | with_reducible exact List.mem_cons_self | with_reducible apply List.mem_cons_of_mem))
      have cy1 := H.cell (w22.heap.size) 1 (.int .i64 s) (by repeat (first | with_reducible exact List.mem_cons_self | with_reducible apply List.mem_cons_of_mem))
      have ly := cell_lt cy0
      have cz0 := H.cell (w23.heap.size) 0 (.int .i64 u) (by repeat (first | with_reducible exact List.mem_cons_self | with_reducible apply List.mem_cons_of_mem))
      have cz1 := H.cell (w23.heap.size) 1 (.int .i64 v) (by repeat (first | with_reducible exact List.mem_cons_self | with_reducible apply List.mem_cons_of_mem))
      have lz := cell_lt cz0
      go_wp2_with fail
      clear cx0 cx1 lx cy0 cy1 ly cz0 cz1 lz
      go_ret
      exact ⟨rfl, (H.alloc _).old⟩

set_option maxHeartbeats 8000000 in
set_option maxRecDepth 100000 in
theorem cadds_main_1 (K : CWay) (kd0 a b c fq : Int) (w : World) (hL : FactsC w) (bk : 0 ≤ kd0 ∧ kd0 < 256) (bf : 0 ≤ fq ∧ fq < 256) (hk : kd0 % 5 = 1) (ha : 1 ≤ a ∧ a ≤ 3652059) (hb : 1 ≤ b ∧ b ≤ 3652059) (hc : 1 ≤ c ∧ c ≤ 3652059) (hab : a ≤ b) (hbc : b ≤ c) (h3 : c - a ≤ 3000) :
    Calls Tryz.prog 7 #[.agg #[.int .u8 kd0, .int .i64 a, .int .i64 b, .int .i64 c, .int .u8 fq]] w fun e w' => e = .returned (.bool true) ∧ Below w.heap.size w w' := by
  have H := (Held.start w).add (f := factsCF) hL
  clear hL
  obtain ⟨fr, hfr⟩ : ∃ fr, 1 + fq % 12 = fr := ⟨_, rfl⟩
  have bfr : 1 ≤ fr ∧ fr ≤ 12 := by omega
  have HK := Lib.hid hfr
  clear hfr
  obtain ⟨i0, hi, hz0, hz1, hz2⟩ := info_parts infoInt
  go_enter Tryz.func7, Tryz.ntmps7
  go_wp2_with fail
  replace H := H.alloc (.cells #[.int .u8 kd0, .int .i64 a, .int .i64 b, .int .i64 c, .int .u8 fq] 51)
  (with_reducible refine (coshown_any K _ (H.factsC (by repeat (first | with_reducible exact List.mem_cons_self | with_reducible apply List.mem_cons_of_mem)))).mono ?_)
  rintro e w1 ⟨rfl, hb⟩
  replace H := H.below hb
  clear hb
  go_wp2_with fail
  replace H := H.alloc (.cells #[.int .i64 1, .int .i64 3, .int .i64 4, .int .i64 5, .int .i64 6] 3)
  have Da : Hid (decide (1 ≤ a ∧ a ≤ 3652059) = true) := Lib.hid (by rw [decide_eq_true_eq]; exact ha)
  (with_reducible refine (rday_is a true _ Da.out).mono ?_)
  rintro e va ⟨rfl, rfl⟩
  go_wp2_with fail
  have Db : Hid (decide (1 ≤ b ∧ b ≤ 3652059) = true) := Lib.hid (by rw [decide_eq_true_eq]; exact hb)
  (with_reducible refine (rday_is b true _ Db.out).mono ?_)
  rintro e vb ⟨rfl, rfl⟩
  go_wp2_with fail
  have Dc : Hid (decide (1 ≤ c ∧ c ≤ 3652059) = true) := Lib.hid (by rw [decide_eq_true_eq]; exact hc)
  (with_reducible refine (rday_is c true _ Dc.out).mono ?_)
  rintro e vc ⟨rfl, rfl⟩
  have q1 : decide (a > b) = false := decide_eq_false (by omega)
  have q2 : decide (b > c) = false := decide_eq_false (by omega)
  have q3 : decide (c - a > 3000) = false := decide_eq_false (by omega)
  go_wp2_with fail
  clear q1 q2 q3
  obtain ⟨W0, hW0⟩ : ∃ W0, w1.alloc (.cells #[.int .i64 1, .int .i64 3, .int .i64 4, .int .i64 5, .int .i64 6] 3) = W0 := ⟨_, rfl⟩
  have hsz : w1.heap.size + 1 = W0.heap.size := by rw [← hW0]; simp
  rw [hW0] at H ⊢
  rw [hsz, HK.out]
  clear hW0 hsz HK
  have ST := SideRow.start W0 fr a
  have HB := (Below.refl W0.heap.size W0).alloc (Nat.le_refl _) (.cells #[.bool false, .int .i64 0, .int .i64 fr, .slice none 0 0] 24)
  obtain ⟨W1, hW1⟩ : ∃ W1, W0.alloc (.cells #[.bool false, .int .i64 0, .int .i64 fr, .slice none 0 0] 24) = W1 := ⟨_, rfl⟩
  rw [hW1] at ST HB ⊢
  clear hW1
  obtain ⟨S, hS⟩ : ∃ S, W0.heap.size = S := ⟨_, rfl⟩
  rw [hS] at ST HB ⊢
  go_loopw [11] (fun i wr => ∃ (j m : Nat) (v : Value), j ≤ 10 ∧ i = .int .i64 (a + 365 * (j : Int)) ∧ SideRow S fr a j m v wr ∧ Below S W0 wr) (fun i _ => (c + 366 - intOf i).toNat)
  case atStart => exact ⟨0, 0, _, by omega, by simp, ST, HB⟩
  case round =>
    obtain ⟨j, m, v, j10, rfl, R, hB⟩ := hrel
    have KH := Lib.hid (H.below (by rw [hS]; exact hB))
    by_cases hlt : a + 365 * (j : Int) < c + 366
    · by_cases hd : a + 365 * (j : Int) ≤ 3652059
      · obtain rfl : m = j := R.now hd
        have e3 := R.c3
        have fS := R.fz
        have lS := cell_lt e3
        obtain ⟨y, hy⟩ : ∃ y, a + 365 * (m : Int) = y := ⟨_, rfl⟩
        rw [hy] at hlt hd ⊢
        have l1 : decide (y < c + 366) = true := decide_eq_true hlt
        have l2 : decide (y ≤ 3652059) = true := decide_eq_true hd
        go_wp2_with (first
          | (at_builtin; refine wpList_append_own _ rfl _ _ 22 rfl (S + 1) 3 i0 (.int .i64 0) 1 8 Tryz.underlying22 hi hz0 hz1 hz2 rfl (by decide) _ _ _ rfl (R.own.alloc _) ⟨wr.heap.size, 0, none⟩ 1 1 [.int .i64 y] rfl rfl ?c1 ?c2 ?c3 ?c4 ?c5 ?_)
          | go_in)
        case c1 => exact one_news10 (by simp [World.cell?_alloc_new])
        case c2 => first | rfl | (intro u hu; simp at hu; subst hu; rfl)
        case c3 => unfold maxLen; omega
        case c4 => omega
        case c5 => first | omega | (simp; omega)
        · intro v' w2 hown' hgrow _
          obtain ⟨g', cap', rfl⟩ : ∃ g' cap', v' = .slice (some ⟨g', 0, none⟩) (m + 1) cap' := by
            rcases hown'.2 with ⟨_, h⟩ | ⟨g', cap', cur, h, _⟩
            · omega
            · exact ⟨g', cap', h⟩
          have PT := Lib.hid (R.put (by unfold rX; omega) hgrow hown' hy)
          have BL := Lib.hid (R.below (v' := .slice (some ⟨g', 0, none⟩) (m + 1) cap') hB hgrow)
          obtain ⟨-, -, -, g3, gz⟩ := R.grown hgrow
          have lg := cell_lt g3
          clear hgrow hown' e3 fS lS
          go_wp2
          go_roundw
          case rel => exact ⟨m + 1, m + 1, _, by omega, congrArg (Value.int .i64) (by omega), PT.out, BL.out⟩
          case measure => simp [intOf]; omega
      · have R2 := R.skip (by unfold rX; omega)
        obtain ⟨y, hy⟩ : ∃ y, a + 365 * (j : Int) = y := ⟨_, rfl⟩
        rw [hy] at hlt hd ⊢
        have l1 : decide (y < c + 366) = true := decide_eq_true hlt
        have l2 : decide (y ≤ 3652059) = false := decide_eq_false hd
        go_wp2
        go_roundw
        case rel => exact ⟨j + 1, m, v, by omega, congrArg (Value.int .i64) (by omega), R2, hB⟩
        case measure => simp [intOf]; omega
    · skip
      have j2 : 2 ≤ j := by omega
      have jm : m ≤ 10 := by have := R.le; omega
      obtain ⟨ao, ca, rfl, hrow⟩ := row_own R.own
      have H := ((((((KH.out.add (f := .cell S 3 _) R.c3).add (f := .cell S 2 _) R.c2).add (f := .cell S 1 _) R.c1).add (f := .cell S 0 _) R.c0)).add (f := rowF ao (rX a) m ca) hrow)
      have rall := R.all
      have rday := R.day
      clear KH R hrow
      obtain ⟨p, q, r, s, u, v, I1, I2, I3, R1, R2, AD⟩ := co_adds (k := 3) (t := false) (en := 0) (f := fr) (X := rX a) (n := m) (by omega) ha hb hc hab hbc
      replace I1 := Lib.hid I1
      replace I2 := Lib.hid I2
      replace I3 := Lib.hid I3
      have AD10 := Lib.hid (fun v' => refadd10_is p q r s u v 0 v' R1 R2 AD)
      clear R1 R2 AD
      have l1 : decide (a + 365 * (j : Int) < c + 366) = false := decide_eq_false hlt
      have cs0 := H.cell (S) 0 (.bool false) (by repeat (first | with_reducible exact List.mem_cons_self | with_reducible apply List.mem_cons_of_mem))
      have cs1 := H.cell (S) 1 (.int .i64 0) (by repeat (first | with_reducible exact List.mem_cons_self | with_reducible apply List.mem_cons_of_mem))
      have cs2 := H.cell (S) 2 (.int .i64 fr) (by repeat (first | with_reducible exact List.mem_cons_self | with_reducible apply List.mem_cons_of_mem))
      have cs3 := H.cell (S) 3 (.slice ao m ca) (by repeat (first | with_reducible exact List.mem_cons_self | with_reducible apply List.mem_cons_of_mem))
      have ls := cell_lt cs0
      go_wp2_with fail
      clear cs0 cs1 cs2 cs3 ls
      (with_reducible refine (K.part 3 a b false 0 fr ao m ca (rX a) p q 0 _ (H.factsC (by repeat (first | with_reducible exact List.mem_cons_self | with_reducible apply List.mem_cons_of_mem))) (by unfold i64B; omega) (by omega) (H.row (ao := ao) (X := rX a) (n := m) (cap := ca) (by repeat (first | with_reducible exact List.mem_cons_self | with_reducible apply List.mem_cons_of_mem))) I1.out).mono ?_)
      rintro e w21 ⟨rfl, hb⟩
      replace H := H.below hb
      clear hb
      have cs0 := H.cell (S) 0 (.bool false) (by repeat (first | with_reducible exact List.mem_cons_self | with_reducible apply List.mem_cons_of_mem))
      have cs1 := H.cell (S) 1 (.int .i64 0) (by repeat (first | with_reducible exact List.mem_cons_self | with_reducible apply List.mem_cons_of_mem))
      have cs2 := H.cell (S) 2 (.int .i64 fr) (by repeat (first | with_reducible exact List.mem_cons_self | with_reducible apply List.mem_cons_of_mem))
      have cs3 := H.cell (S) 3 (.slice ao m ca) (by repeat (first | with_reducible exact List.mem_cons_self | with_reducible apply List.mem_cons_of_mem))
      have ls := cell_lt cs0
      go_wp2_with fail
      clear cs0 cs1 cs2 cs3 ls
      replace H := H.pair (w21.heap.size) (.int .i64 p) (.int .i64 q) 29 rfl
      (with_reducible refine (K.part 3 b c false 0 fr ao m ca (rX a) r s 0 _ (H.factsC (by repeat (first | with_reducible exact List.mem_cons_self | with_reducible apply List.mem_cons_of_mem))) (by unfold i64B; omega) (by omega) (H.row (ao := ao) (X := rX a) (n := m) (cap := ca) (by repeat (first | with_reducible exact List.mem_cons_self | with_reducible apply List.mem_cons_of_mem))) I2.out).mono ?_)
      rintro e w22 ⟨rfl, hb⟩
      replace H := H.below hb
      clear hb
      have cs0 := H.cell (S) 0 (.bool false) (by repeat (first | with_reducible exact List.mem_cons_self | with_reducible apply List.mem_cons_of_mem))
      have cs1 := H.cell (S) 1 (.int .i64 0) (by repeat (first | with_reducible exact List.mem_cons_self | with_reducible apply List.mem_cons_of_mem))
      have cs2 := H.cell (S) 2 (.int .i64 fr) (by repeat (first | with_reducible exact List.mem_cons_self | with_reducible apply List.mem_cons_of_mem))
      have cs3 := H.cell (S) 3 (.slice ao m ca) (by repeat (first | with_reducible exact List.mem_cons_self | with_reducible apply List.mem_cons_of_mem))
      have ls := cell_lt cs0
      go_wp2_with fail
      clear cs0 cs1 cs2 cs3 ls
      replace H := H.pair (w22.heap.size) (.int .i64 r) (.int .i64 s) 29 rfl
      (with_reducible refine (K.part 3 a c false 0 fr ao m ca (rX a) u v 0 _ (H.factsC (by repeat (first | with_reducible exact List.mem_cons_self | with_reducible apply List.mem_cons_of_mem))) (by unfold i64B; omega) (by omega) (H.row (ao := ao) (X := rX a) (n := m) (cap := ca) (by repeat (first | with_reducible exact List.mem_cons_self | with_reducible apply List.mem_cons_of_mem))) I3.out).mono ?_)
      rintro e w23 ⟨rfl, hb⟩
      replace H := H.below hb
      clear hb
      have cx0 := H.cell (w21.heap.size) 0 (.int .i64 p) (by repeat (first | with_reducible exact List.mem_cons_self | with_reducible apply List.mem_cons_of_mem))
      have cx1 := H.cell (w21.heap.size) 1 (.int .i64 q) (by repeat (first | with_reducible exact List.mem_cons_self | with_reducible apply List.mem_cons_of_mem))
      have lx := cell_lt cx0
      have cy0 := H.cell (w22.heap.size) 0 (.int .i64 r) (by repeat (first | with_reducible exact List.mem_cons_self | with_reducible apply List.mem_cons_of_mem))
      have cy1 := H.cell (w22.heap.size) 1 (.int .i64 s) (by repeat (first | with_reducible exact List.mem_cons_self | with_reducible apply List.mem_cons_of_mem))
      have ly := cell_lt cy0
      go_wp2_with fail
      clear cx0 cx1 lx cy0 cy1 ly
      replace H := H.pair (w23.heap.size) (.int .i64 u) (.int .i64 v) 29 rfl
      (with_reducible refine (AD10.out _).mono ?_)
      rintro e w24 ⟨rfl, hb⟩
      replace H := H.below hb
      clear hb
      have cx0 := H.cell (w21.heap.size) 0 (.int .i64 p) (by repeat (first | with_reducible exact List.mem_cons_self | with_reducible apply List.mem_cons_of_mem))
      have cx1 := H.cell (w21.heap.size) 1 (.int .i64 q) (by repeat (first | with_reducible exact List.mem_cons_self | with_reducible apply List.mem_cons_of_mem))
      have lx := cell_lt cx0
      have cy0 := H.cell (w22.heap.size) 0 (.int .i64 r) (by repeat (first | with_reducible exact List.mem_cons_self | with_reducible apply List.mem_cons_of_mem))
      have cy1 := H.cell (w22.heap.size) 1 (.int .i64 s) (by repeat (first | with_reducible exact List.mem_cons_self | with_reducible apply List.mem_cons_of_mem))
      have ly := cell_lt cy0
      have cz0 := H.cell (w23.heap.size) 0 (.int .i64 u) (by repeat (first | with_reducible exact List.mem_cons_self | with_reducible apply List.mem_cons_of_mem))
      have cz1 := H.cell (w23.heap.size) 1 (.int .i64 v) (by repeat (first | with_reducible exact List.mem_cons_self | with_reducible apply List.mem_cons_of_mem))
      have lz := cell_lt cz0
      go_wp2_with fail
      clear cx0 cx1 lx cy0 cy1 ly cz0 cz1 lz
      go_ret
      exact ⟨rfl, (H.alloc _).old⟩

set_option maxHeartbeats 8000000 in
set_option maxRecDepth 100000 in
theorem cadds_main_2 (K : CWay) (kd0 a b c fq : Int) (w : World) (hL : FactsC w) (bk : 0 ≤ kd0 ∧ kd0 < 256) (bf : 0 ≤ fq ∧ fq < 256) (hk : kd0 % 5 = 2) (ha : 1 ≤ a ∧ a ≤ 3652059) (hb : 1 ≤ b ∧ b ≤ 3652059) (hc : 1 ≤ c ∧ c ≤ 3652059) (hab : a ≤ b) (hbc : b ≤ c) (h3 : c - a ≤ 3000) :
    Calls Tryz.prog 7 #[.agg #[.int .u8 kd0, .int .i64 a, .int .i64 b, .int .i64 c, .int .u8 fq]] w fun e w' => e = .returned (.bool true) ∧ Below w.heap.size w w' := by
  have H := (Held.start w).add (f := factsCF) hL
  clear hL
  obtain ⟨fr, hfr⟩ : ∃ fr, 1 + fq % 12 = fr := ⟨_, rfl⟩
  have bfr : 1 ≤ fr ∧ fr ≤ 12 := by omega
  have HK := Lib.hid hfr
  clear hfr
  obtain ⟨i0, hi, hz0, hz1, hz2⟩ := info_parts infoInt
  go_enter Tryz.func7, Tryz.ntmps7
  go_wp2_with fail
  replace H := H.alloc (.cells #[.int .u8 kd0, .int .i64 a, .int .i64 b, .int .i64 c, .int .u8 fq] 51)
  (with_reducible refine (coshown_any K _ (H.factsC (by repeat (first | with_reducible exact List.mem_cons_self | with_reducible apply List.mem_cons_of_mem)))).mono ?_)
  rintro e w1 ⟨rfl, hb⟩
  replace H := H.below hb
  clear hb
  go_wp2_with fail
  replace H := H.alloc (.cells #[.int .i64 1, .int .i64 3, .int .i64 4, .int .i64 5, .int .i64 6] 3)
  have Da : Hid (decide (1 ≤ a ∧ a ≤ 3652059) = true) := Lib.hid (by rw [decide_eq_true_eq]; exact ha)
  (with_reducible refine (rday_is a true _ Da.out).mono ?_)
  rintro e va ⟨rfl, rfl⟩
  go_wp2_with fail
  have Db : Hid (decide (1 ≤ b ∧ b ≤ 3652059) = true) := Lib.hid (by rw [decide_eq_true_eq]; exact hb)
  (with_reducible refine (rday_is b true _ Db.out).mono ?_)
  rintro e vb ⟨rfl, rfl⟩
  go_wp2_with fail
  have Dc : Hid (decide (1 ≤ c ∧ c ≤ 3652059) = true) := Lib.hid (by rw [decide_eq_true_eq]; exact hc)
  (with_reducible refine (rday_is c true _ Dc.out).mono ?_)
  rintro e vc ⟨rfl, rfl⟩
  have q1 : decide (a > b) = false := decide_eq_false (by omega)
  have q2 : decide (b > c) = false := decide_eq_false (by omega)
  have q3 : decide (c - a > 3000) = false := decide_eq_false (by omega)
  go_wp2_with fail
  clear q1 q2 q3
  obtain ⟨W0, hW0⟩ : ∃ W0, w1.alloc (.cells #[.int .i64 1, .int .i64 3, .int .i64 4, .int .i64 5, .int .i64 6] 3) = W0 := ⟨_, rfl⟩
  have hsz : w1.heap.size + 1 = W0.heap.size := by rw [← hW0]; simp
  rw [hW0] at H ⊢
  rw [hsz, HK.out]
  clear hW0 hsz HK
  have ST := SideRow.start W0 fr a
  have HB := (Below.refl W0.heap.size W0).alloc (Nat.le_refl _) (.cells #[.bool false, .int .i64 0, .int .i64 fr, .slice none 0 0] 24)
  obtain ⟨W1, hW1⟩ : ∃ W1, W0.alloc (.cells #[.bool false, .int .i64 0, .int .i64 fr, .slice none 0 0] 24) = W1 := ⟨_, rfl⟩
  rw [hW1] at ST HB ⊢
  clear hW1
  obtain ⟨S, hS⟩ : ∃ S, W0.heap.size = S := ⟨_, rfl⟩
  rw [hS] at ST HB ⊢
  go_loopw [11] (fun i wr => ∃ (j m : Nat) (v : Value), j ≤ 10 ∧ i = .int .i64 (a + 365 * (j : Int)) ∧ SideRow S fr a j m v wr ∧ Below S W0 wr) (fun i _ => (c + 366 - intOf i).toNat)
  case atStart => exact ⟨0, 0, _, by omega, by simp, ST, HB⟩
  case round =>
    obtain ⟨j, m, v, j10, rfl, R, hB⟩ := hrel
    have KH := Lib.hid (H.below (by rw [hS]; exact hB))
    by_cases hlt : a + 365 * (j : Int) < c + 366
    · by_cases hd : a + 365 * (j : Int) ≤ 3652059
      · obtain rfl : m = j := R.now hd
        have e3 := R.c3
        have fS := R.fz
        have lS := cell_lt e3
        obtain ⟨y, hy⟩ : ∃ y, a + 365 * (m : Int) = y := ⟨_, rfl⟩
        rw [hy] at hlt hd ⊢
        have l1 : decide (y < c + 366) = true := decide_eq_true hlt
        have l2 : decide (y ≤ 3652059) = true := decide_eq_true hd
        go_wp2_with (first
          | (at_builtin; refine wpList_append_own _ rfl _ _ 22 rfl (S + 1) 3 i0 (.int .i64 0) 1 8 Tryz.underlying22 hi hz0 hz1 hz2 rfl (by decide) _ _ _ rfl (R.own.alloc _) ⟨wr.heap.size, 0, none⟩ 1 1 [.int .i64 y] rfl rfl ?c1 ?c2 ?c3 ?c4 ?c5 ?_)
          | go_in)
        case c1 => exact one_news10 (by simp [World.cell?_alloc_new])
        case c2 => first | rfl | (intro u hu; simp at hu; subst hu; rfl)
        case c3 => unfold maxLen; omega
        case c4 => omega
        case c5 => first | omega | (simp; omega)
        · intro v' w2 hown' hgrow _
          obtain ⟨g', cap', rfl⟩ : ∃ g' cap', v' = .slice (some ⟨g', 0, none⟩) (m + 1) cap' := by
            rcases hown'.2 with ⟨_, h⟩ | ⟨g', cap', cur, h, _⟩
            · omega
            · exact ⟨g', cap', h⟩
          have PT := Lib.hid (R.put (by unfold rX; omega) hgrow hown' hy)
          have BL := Lib.hid (R.below (v' := .slice (some ⟨g', 0, none⟩) (m + 1) cap') hB hgrow)
          obtain ⟨-, -, -, g3, gz⟩ := R.grown hgrow
          have lg := cell_lt g3
          clear hgrow hown' e3 fS lS
          go_wp2
          go_roundw
          case rel => exact ⟨m + 1, m + 1, _, by omega, congrArg (Value.int .i64) (by omega), PT.out, BL.out⟩
          case measure => simp [intOf]; omega
      · have R2 := R.skip (by unfold rX; omega)
        obtain ⟨y, hy⟩ : ∃ y, a + 365 * (j : Int) = y := ⟨_, rfl⟩
        rw [hy] at hlt hd ⊢
        have l1 : decide (y < c + 366) = true := decide_eq_true hlt
        have l2 : decide (y ≤ 3652059) = false := decide_eq_false hd
        go_wp2
        go_roundw
        case rel => exact ⟨j + 1, m, v, by omega, congrArg (Value.int .i64) (by omega), R2, hB⟩
        case measure => simp [intOf]; omega
    · skip
      have j2 : 2 ≤ j := by omega
      have jm : m ≤ 10 := by have := R.le; omega
      obtain ⟨ao, ca, rfl, hrow⟩ := row_own R.own
      have H := ((((((KH.out.add (f := .cell S 3 _) R.c3).add (f := .cell S 2 _) R.c2).add (f := .cell S 1 _) R.c1).add (f := .cell S 0 _) R.c0)).add (f := rowF ao (rX a) m ca) hrow)
      have rall := R.all
      have rday := R.day
      clear KH R hrow
      obtain ⟨p, q, r, s, u, v, I1, I2, I3, R1, R2, AD⟩ := co_adds (k := 4) (t := false) (en := 0) (f := fr) (X := rX a) (n := m) (by omega) ha hb hc hab hbc
      replace I1 := Lib.hid I1
      replace I2 := Lib.hid I2
      replace I3 := Lib.hid I3
      have AD10 := Lib.hid (fun v' => refadd10_is p q r s u v 0 v' R1 R2 AD)
      clear R1 R2 AD
      have l1 : decide (a + 365 * (j : Int) < c + 366) = false := decide_eq_false hlt
      have cs0 := H.cell (S) 0 (.bool false) (by repeat (first | with_reducible exact List.mem_cons_self | with_reducible apply List.mem_cons_of_mem))
      have cs1 := H.cell (S) 1 (.int .i64 0) (by repeat (first | with_reducible exact List.mem_cons_self | with_reducible apply List.mem_cons_of_mem))
      have cs2 := H.cell (S) 2 (.int .i64 fr) (by repeat (first | with_reducible exact List.mem_cons_self | with_reducible apply List.mem_cons_of_mem))
      have cs3 := H.cell (S) 3 (.slice ao m ca) (by repeat (first | with_reducible exact List.mem_cons_self | with_reducible apply List.mem_cons_of_mem))
      have ls := cell_lt cs0
      go_wp2_with fail
      clear cs0 cs1 cs2 cs3 ls
      (with_reducible refine (K.part 4 a b false 0 fr ao m ca (rX a) p q 0 _ (H.factsC (by repeat (first | with_reducible exact List.mem_cons_self | with_reducible apply List.mem_cons_of_mem))) (by unfold i64B; omega) (by omega) (H.row (ao := ao) (X := rX a) (n := m) (cap := ca) (by repeat (first | with_reducible exact List.mem_cons_self | with_reducible apply List.mem_cons_of_mem))) I1.out).mono ?_)
      rintro e w21 ⟨rfl, hb⟩
      replace H := H.below hb
      clear hb
      have cs0 := H.cell (S) 0 (.bool false) (by repeat (first | with_reducible exact List.mem_cons_self | with_reducible apply List.mem_cons_of_mem))
      have cs1 := H.cell (S) 1 (.int .i64 0) (by repeat (first | with_reducible exact List.mem_cons_self | with_reducible apply List.mem_cons_of_mem))
      have cs2 := H.cell (S) 2 (.int .i64 fr) (by repeat (first | with_reducible exact List.mem_cons_self | with_reducible apply List.mem_cons_of_mem))
      have cs3 := H.cell (S) 3 (.slice ao m ca) (by repeat (first | with_reducible exact List.mem_cons_self | with_reducible apply List.mem_cons_of_mem))
      have ls := cell_lt cs0
      go_wp2_with fail
      clear cs0 cs1 cs2 cs3 ls
      replace H := H.pair (w21.heap.size) (.int .i64 p) (.int .i64 q) 29 rfl
      (with_reducible refine (K.part 4 b c false 0 fr ao m ca (rX a) r s 0 _ (H.factsC (by repeat (first | with_reducible exact List.mem_cons_self | with_reducible apply List.mem_cons_of_mem))) (by unfold i64B; omega) (by omega) (H.row (ao := ao) (X := rX a) (n := m) (cap := ca) (by repeat (first | with_reducible exact List.mem_cons_self | with_reducible apply List.mem_cons_of_mem))) I2.out).mono ?_)
      rintro e w22 ⟨rfl, hb⟩
      replace H := H.below hb
      clear hb
      have cs0 := H.cell (S) 0 (.bool false) (by repeat (first | with_reducible exact List.mem_cons_self | with_reducible apply List.mem_cons_of_mem))
      have cs1 := H.cell (S) 1 (.int .i64 0) (by repeat (first | with_reducible exact List.mem_cons_self | with_reducible apply List.mem_cons_of_mem))
      have cs2 := H.cell (S) 2 (.int .i64 fr) (by repeat (first | with_reducible exact List.mem_cons_self | with_reducible apply List.mem_cons_of_mem))
      have cs3 := H.cell (S) 3 (.slice ao m ca) (by repeat (first | with_reducible exact List.mem_cons_self | with_reducible apply List.mem_cons_of_mem))
      have ls := cell_lt cs0
      go_wp2_with fail
      clear cs0 cs1 cs2 cs3 ls
      replace H := H.pair (w22.heap.size) (.int .i64 r) (.int .i64 s) 29 rfl
      (with_reducible refine (K.part 4 a c false 0 fr ao m ca (rX a) u v 0 _ (H.factsC (by repeat (first | with_reducible exact List.mem_cons_self | with_reducible apply List.mem_cons_of_mem))) (by unfold i64B; omega) (by omega) (H.row (ao := ao) (X := rX a) (n := m) (cap := ca) (by repeat (first | with_reducible exact List.mem_cons_self | with_reducible apply List.mem_cons_of_mem))) I3.out).mono ?_)
      rintro e w23 ⟨rfl, hb⟩
      replace H := H.below hb
      clear hb
      have cx0 := H.cell (w21.heap.size) 0 (.int .i64 p) (by repeat (first | with_reducible exact List.mem_cons_self | with_reducible apply List.mem_cons_of_mem))
      have cx1 := H.cell (w21.heap.size) 1 (.int .i64 q) (by repeat (first | with_reducible exact List.mem_cons_self | with_reducible apply List.mem_cons_of_mem))
      have lx := cell_lt cx0
      have cy0 := H.cell (w22.heap.size) 0 (.int .i64 r) (by repeat (first | with_reducible exact List.mem_cons_self | with_reducible apply List.mem_cons_of_mem))
      have cy1 := H.cell (w22.heap.size) 1 (.int .i64 s) (by repeat (first | with_reducible exact List.mem_cons_self | with_reducible apply List.mem_cons_of_mem))
      have ly := cell_lt cy0
      go_wp2_with fail
      clear cx0 cx1 lx cy0 cy1 ly
      replace H := H.pair (w23.heap.size) (.int .i64 u) (.int .i64 v) 29 rfl
      (with_reducible refine (AD10.out _).mono ?_)
      rintro e w24 ⟨rfl, hb⟩
      replace H := H.below hb
      clear hb
      have cx0 := H.cell (w21.heap.size) 0 (.int .i64 p) (by repeat (first | with_reducible exact List.mem_cons_self | with_reducible apply List.mem_cons_of_mem))
      have cx1 := H.cell (w21.heap.size) 1 (.int .i64 q) (by repeat (first | with_reducible exact List.mem_cons_self | with_reducible apply List.mem_cons_of_mem))
      have lx := cell_lt cx0
      have cy0 := H.cell (w22.heap.size) 0 (.int .i64 r) (by repeat (first | with_reducible exact List.mem_cons_self | with_reducible apply List.mem_cons_of_mem))
      have cy1 := H.cell (w22.heap.size) 1 (.int .i64 s) (by repeat (first | with_reducible exact List.mem_cons_self | with_reducible apply List.mem_cons_of_mem))
      have ly := cell_lt cy0
      have cz0 := H.cell (w23.heap.size) 0 (.int .i64 u) (by repeat (first | with_reducible exact List.mem_cons_self | with_reducible apply List.mem_cons_of_mem))
      have cz1 := H.cell (w23.heap.size) 1 (.int .i64 v) (by repeat (first | with_reducible exact List.mem_cons_self | with_reducible apply List.mem_cons_of_mem))
      have lz := cell_lt cz0
      go_wp2_with fail
      clear cx0 cx1 lx cy0 cy1 ly cz0 cz1 lz
      go_ret
      exact ⟨rfl, (H.alloc _).old⟩

set_option maxHeartbeats 8000000 in
set_option maxRecDepth 100000 in
theorem cadds_main_3 (K : CWay) (kd0 a b c fq : Int) (w : World) (hL : FactsC w) (bk : 0 ≤ kd0 ∧ kd0 < 256) (bf : 0 ≤ fq ∧ fq < 256) (hk : kd0 % 5 = 3) (ha : 1 ≤ a ∧ a ≤ 3652059) (hb : 1 ≤ b ∧ b ≤ 3652059) (hc : 1 ≤ c ∧ c ≤ 3652059) (hab : a ≤ b) (hbc : b ≤ c) (h3 : c - a ≤ 3000) :
    Calls Tryz.prog 7 #[.agg #[.int .u8 kd0, .int .i64 a, .int .i64 b, .int .i64 c, .int .u8 fq]] w fun e w' => e = .returned (.bool true) ∧ Below w.heap.size w w' := by
  have H := (Held.start w).add (f := factsCF) hL
  clear hL
  obtain ⟨fr, hfr⟩ : ∃ fr, 1 + fq % 12 = fr := ⟨_, rfl⟩
  have bfr : 1 ≤ fr ∧ fr ≤ 12 := by omega
  have HK := Lib.hid hfr
  clear hfr
  obtain ⟨i0, hi, hz0, hz1, hz2⟩ := info_parts infoInt
  go_enter Tryz.func7, Tryz.ntmps7
  go_wp2_with fail
  replace H := H.alloc (.cells #[.int .u8 kd0, .int .i64 a, .int .i64 b, .int .i64 c, .int .u8 fq] 51)
  (with_reducible refine (coshown_any K _ (H.factsC (by repeat (first | with_reducible exact List.mem_cons_self | with_reducible apply List.mem_cons_of_mem)))).mono ?_)
  rintro e w1 ⟨rfl, hb⟩
  replace H := H.below hb
  clear hb
  go_wp2_with fail
  replace H := H.alloc (.cells #[.int .i64 1, .int .i64 3, .int .i64 4, .int .i64 5, .int .i64 6] 3)
  have Da : Hid (decide (1 ≤ a ∧ a ≤ 3652059) = true) := Lib.hid (by rw [decide_eq_true_eq]; exact ha)
  (with_reducible refine (rday_is a true _ Da.out).mono ?_)
  rintro e va ⟨rfl, rfl⟩
  go_wp2_with fail
  have Db : Hid (decide (1 ≤ b ∧ b ≤ 3652059) = true) := Lib.hid (by rw [decide_eq_true_eq]; exact hb)
  (with_reducible refine (rday_is b true _ Db.out).mono ?_)
  rintro e vb ⟨rfl, rfl⟩
  go_wp2_with fail
  have Dc : Hid (decide (1 ≤ c ∧ c ≤ 3652059) = true) := Lib.hid (by rw [decide_eq_true_eq]; exact hc)
  (with_reducible refine (rday_is c true _ Dc.out).mono ?_)
  rintro e vc ⟨rfl, rfl⟩
  have q1 : decide (a > b) = false := decide_eq_false (by omega)
  have q2 : decide (b > c) = false := decide_eq_false (by omega)
  have q3 : decide (c - a > 3000) = false := decide_eq_false (by omega)
  go_wp2_with fail
  clear q1 q2 q3
  obtain ⟨W0, hW0⟩ : ∃ W0, w1.alloc (.cells #[.int .i64 1, .int .i64 3, .int .i64 4, .int .i64 5, .int .i64 6] 3) = W0 := ⟨_, rfl⟩
  have hsz : w1.heap.size + 1 = W0.heap.size := by rw [← hW0]; simp
  rw [hW0] at H ⊢
  rw [hsz, HK.out]
  clear hW0 hsz HK
  have ST := SideRow.start W0 fr a
  have HB := (Below.refl W0.heap.size W0).alloc (Nat.le_refl _) (.cells #[.bool false, .int .i64 0, .int .i64 fr, .slice none 0 0] 24)
  obtain ⟨W1, hW1⟩ : ∃ W1, W0.alloc (.cells #[.bool false, .int .i64 0, .int .i64 fr, .slice none 0 0] 24) = W1 := ⟨_, rfl⟩
  rw [hW1] at ST HB ⊢
  clear hW1
  obtain ⟨S, hS⟩ : ∃ S, W0.heap.size = S := ⟨_, rfl⟩
  rw [hS] at ST HB ⊢
  go_loopw [11] (fun i wr => ∃ (j m : Nat) (v : Value), j ≤ 10 ∧ i = .int .i64 (a + 365 * (j : Int)) ∧ SideRow S fr a j m v wr ∧ Below S W0 wr) (fun i _ => (c + 366 - intOf i).toNat)
  case atStart => exact ⟨0, 0, _, by omega, by simp, ST, HB⟩
  case round =>
    obtain ⟨j, m, v, j10, rfl, R, hB⟩ := hrel
    have KH := Lib.hid (H.below (by rw [hS]; exact hB))
    by_cases hlt : a + 365 * (j : Int) < c + 366
    · by_cases hd : a + 365 * (j : Int) ≤ 3652059
      · obtain rfl : m = j := R.now hd
        have e3 := R.c3
        have fS := R.fz
        have lS := cell_lt e3
        obtain ⟨y, hy⟩ : ∃ y, a + 365 * (m : Int) = y := ⟨_, rfl⟩
        rw [hy] at hlt hd ⊢
        have l1 : decide (y < c + 366) = true := decide_eq_true hlt
        have l2 : decide (y ≤ 3652059) = true := decide_eq_true hd
        go_wp2_with (first
          | (at_builtin; refine wpList_append_own _ rfl _ _ 22 rfl (S + 1) 3 i0 (.int .i64 0) 1 8 Tryz.underlying22 hi hz0 hz1 hz2 rfl (by decide) _ _ _ rfl (R.own.alloc _) ⟨wr.heap.size, 0, none⟩ 1 1 [.int .i64 y] rfl rfl ?c1 ?c2 ?c3 ?c4 ?c5 ?_)
          | go_in)
        case c1 => exact one_news10 (by simp [World.cell?_alloc_new])
        case c2 => first | rfl | (intro u hu; simp at hu; subst hu; rfl)
        case c3 => unfold maxLen; omega
        case c4 => omega
        case c5 => first | omega | (simp; omega)
        · intro v' w2 hown' hgrow _
          obtain ⟨g', cap', rfl⟩ : ∃ g' cap', v' = .slice (some ⟨g', 0, none⟩) (m + 1) cap' := by
            rcases hown'.2 with ⟨_, h⟩ | ⟨g', cap', cur, h, _⟩
            · omega
            · exact ⟨g', cap', h⟩
          have PT := Lib.hid (R.put (by unfold rX; omega) hgrow hown' hy)
          have BL := Lib.hid (R.below (v' := .slice (some ⟨g', 0, none⟩) (m + 1) cap') hB hgrow)
          obtain ⟨-, -, -, g3, gz⟩ := R.grown hgrow
          have lg := cell_lt g3
          clear hgrow hown' e3 fS lS
          go_wp2
          go_roundw
          case rel => exact ⟨m + 1, m + 1, _, by omega, congrArg (Value.int .i64) (by omega), PT.out, BL.out⟩
          case measure => simp [intOf]; omega
      · have R2 := R.skip (by unfold rX; omega)
        obtain ⟨y, hy⟩ : ∃ y, a + 365 * (j : Int) = y := ⟨_, rfl⟩
        rw [hy] at hlt hd ⊢
        have l1 : decide (y < c + 366) = true := decide_eq_true hlt
        have l2 : decide (y ≤ 3652059) = false := decide_eq_false hd
        go_wp2
        go_roundw
        case rel => exact ⟨j + 1, m, v, by omega, congrArg (Value.int .i64) (by omega), R2, hB⟩
        case measure => simp [intOf]; omega
    · skip
      have j2 : 2 ≤ j := by omega
      have jm : m ≤ 10 := by have := R.le; omega
      obtain ⟨ao, ca, rfl, hrow⟩ := row_own R.own
      have H := ((((((KH.out.add (f := .cell S 3 _) R.c3).add (f := .cell S 2 _) R.c2).add (f := .cell S 1 _) R.c1).add (f := .cell S 0 _) R.c0)).add (f := rowF ao (rX a) m ca) hrow)
      have rall := R.all
      have rday := R.day
      clear KH R hrow
      obtain ⟨p, q, r, s, u, v, I1, I2, I3, R1, R2, AD⟩ := co_adds (k := 5) (t := false) (en := 0) (f := fr) (X := rX a) (n := m) (by omega) ha hb hc hab hbc
      replace I1 := Lib.hid I1
      replace I2 := Lib.hid I2
      replace I3 := Lib.hid I3
      have AD10 := Lib.hid (fun v' => refadd10_is p q r s u v 0 v' R1 R2 AD)
      clear R1 R2 AD
      have l1 : decide (a + 365 * (j : Int) < c + 366) = false := decide_eq_false hlt
      have cs0 := H.cell (S) 0 (.bool false) (by repeat (first | with_reducible exact List.mem_cons_self | with_reducible apply List.mem_cons_of_mem))
      have cs1 := H.cell (S) 1 (.int .i64 0) (by repeat (first | with_reducible exact List.mem_cons_self | with_reducible apply List.mem_cons_of_mem))
      have cs2 := H.cell (S) 2 (.int .i64 fr) (by repeat (first | with_reducible exact List.mem_cons_self | with_reducible apply List.mem_cons_of_mem))
      have cs3 := H.cell (S) 3 (.slice ao m ca) (by repeat (first | with_reducible exact List.mem_cons_self | with_reducible apply List.mem_cons_of_mem))
      have ls := cell_lt cs0
      go_wp2_with fail
      clear cs0 cs1 cs2 cs3 ls
      (with_reducible refine (K.part 5 a b false 0 fr ao m ca (rX a) p q 0 _ (H.factsC (by repeat (first | with_reducible exact List.mem_cons_self | with_reducible apply List.mem_cons_of_mem))) (by unfold i64B; omega) (by omega) (H.row (ao := ao) (X := rX a) (n := m) (cap := ca) (by repeat (first | with_reducible exact List.mem_cons_self | with_reducible apply List.mem_cons_of_mem))) I1.out).mono ?_)
      rintro e w21 ⟨rfl, hb⟩
      replace H := H.below hb
      clear hb
      have cs0 := H.cell (S) 0 (.bool false) (by repeat (first | with_reducible exact List.mem_cons_self | with_reducible apply List.mem_cons_of_mem))
      have cs1 := H.cell (S) 1 (.int .i64 0) (by repeat (first | with_reducible exact List.mem_cons_self | with_reducible apply List.mem_cons_of_mem))
      have cs2 := H.cell (S) 2 (.int .i64 fr) (by repeat (first | with_reducible exact List.mem_cons_self | with_reducible apply List.mem_cons_of_mem))
      have cs3 := H.cell (S) 3 (.slice ao m ca) (by repeat (first | with_reducible exact List.mem_cons_self | with_reducible apply List.mem_cons_of_mem))
      have ls := cell_lt cs0
      go_wp2_with fail
      clear cs0 cs1 cs2 cs3 ls
      replace H := H.pair (w21.heap.size) (.int .i64 p) (.int .i64 q) 29 rfl
      (with_reducible refine (K.part 5 b c false 0 fr ao m ca (rX a) r s 0 _ (H.factsC (by repeat (first | with_reducible exact List.mem_cons_self | with_reducible apply List.mem_cons_of_mem))) (by unfold i64B; omega) (by omega) (H.row (ao := ao) (X := rX a) (n := m) (cap := ca) (by repeat (first | with_reducible exact List.mem_cons_self | with_reducible apply List.mem_cons_of_mem))) I2.out).mono ?_)
      rintro e w22 ⟨rfl, hb⟩
      replace H := H.below hb
      clear hb
      have cs0 := H.cell (S) 0 (.bool false) (by repeat (first | with_reducible exact List.mem_cons_self | with_reducible apply List.mem_cons_of_mem))
      have cs1 := H.cell (S) 1 (.int .i64 0) (by repeat (first | with_reducible exact List.mem_cons_self | with_reducible apply List.mem_cons_of_mem))
      have cs2 := H.cell (S) 2 (.int .i64 fr) (by repeat (first | with_reducible exact List.mem_cons_self | with_reducible apply List.mem_cons_of_mem))
      have cs3 := H.cell (S) 3 (.slice ao m ca) (by repeat (first | with_reducible exact List.mem_cons_self | with_reducible apply List.mem_cons_of_mem))
      have ls := cell_lt cs0
      go_wp2_with fail
      clear cs0 cs1 cs2 cs3 ls
      replace H := H.pair (w22.heap.size) (.int .i64 r) (.int .i64 s) 29 rfl
      (with_reducible refine (K.part 5 a c false 0 fr ao m ca (rX a) u v 0 _ (H.factsC (by repeat (first | with_reducible exact List.mem_cons_self | with_reducible apply List.mem_cons_of_mem))) (by unfold i64B; omega) (by omega) (H.row (ao := ao) (X := rX a) (n := m) (cap := ca) (by repeat (first | with_reducible exact List.mem_cons_self | with_reducible apply List.mem_cons_of_mem))) I3.out).mono ?_)
      rintro e w23 ⟨rfl, hb⟩
      replace H := H.below hb
      clear hb
      have cx0 := H.cell (w21.heap.size) 0 (.int .i64 p) (by repeat (first | with_reducible exact List.mem_cons_self | with_reducible apply List.mem_cons_of_mem))
      have cx1 := H.cell (w21.heap.size) 1 (.int .i64 q) (by repeat (first | with_reducible exact List.mem_cons_self | with_reducible apply List.mem_cons_of_mem))
      have lx := cell_lt cx0
      have cy0 := H.cell (w22.heap.size) 0 (.int .i64 r) (by repeat (first | with_reducible exact List.mem_cons_self | with_reducible apply List.mem_cons_of_mem))
      have cy1 := H.cell (w22.heap.size) 1 (.int .i64 s) (by repeat (first | with_reducible exact List.mem_cons_self | with_reducible apply List.mem_cons_of_mem))
      have ly := cell_lt cy0
      go_wp2_with fail
      clear cx0 cx1 lx cy0 cy1 ly
      replace H := H.pair (w23.heap.size) (.int .i64 u) (.int .i64 v) 29 rfl
      (with_reducible refine (AD10.out _).mono ?_)
      rintro e w24 ⟨rfl, hb⟩
      replace H := H.below hb
      clear hb
      have cx0 := H.cell (w21.heap.size) 0 (.int .i64 p) (by repeat (first | with_reducible exact List.mem_cons_self | with_reducible apply List.mem_cons_of_mem))
      have cx1 := H.cell (w21.heap.size) 1 (.int .i64 q) (by repeat (first | with_reducible exact List.mem_cons_self | with_reducible apply List.mem_cons_of_mem))
      have lx := cell_lt cx0
      have cy0 := H.cell (w22.heap.size) 0 (.int .i64 r) (by repeat (first | with_reducible exact List.mem_cons_self | with_reducible apply List.mem_cons_of_mem))
      have cy1 := H.cell (w22.heap.size) 1 (.int .i64 s) (by repeat (first | with_reducible exact List.mem_cons_self | with_reducible apply List.mem_cons_of_mem))
      have ly := cell_lt cy0
      have cz0 := H.cell (w23.heap.size) 0 (.int .i64 u) (by repeat (first | with_reducible exact List.mem_cons_self | with_reducible apply List.mem_cons_of_mem))
      have cz1 := H.cell (w23.heap.size) 1 (.int .i64 v) (by repeat (first | with_reducible exact List.mem_cons_self | with_reducible apply List.mem_cons_of_mem))
      have lz := cell_lt cz0
      go_wp2_with fail
      clear cx0 cx1 lx cy0 cy1 ly cz0 cz1 lz
      go_ret
      exact ⟨rfl, (H.alloc _).old⟩

set_option maxHeartbeats 8000000 in
set_option maxRecDepth 100000 in
theorem cadds_main_4 (K : CWay) (kd0 a b c fq : Int) (w : World) (hL : FactsC w) (bk : 0 ≤ kd0 ∧ kd0 < 256) (bf : 0 ≤ fq ∧ fq < 256) (hk : kd0 % 5 = 4) (ha : 1 ≤ a ∧ a ≤ 3652059) (hb : 1 ≤ b ∧ b ≤ 3652059) (hc : 1 ≤ c ∧ c ≤ 3652059) (hab : a ≤ b) (hbc : b ≤ c) (h3 : c - a ≤ 3000) :
    Calls Tryz.prog 7 #[.agg #[.int .u8 kd0, .int .i64 a, .int .i64 b, .int .i64 c, .int .u8 fq]] w fun e w' => e = .returned (.bool true) ∧ Below w.heap.size w w' := by
  have H := (Held.start w).add (f := factsCF) hL
  clear hL
  obtain ⟨fr, hfr⟩ : ∃ fr, 1 + fq % 12 = fr := ⟨_, rfl⟩
  have bfr : 1 ≤ fr ∧ fr ≤ 12 := by omega
  have HK := Lib.hid hfr
  clear hfr
  obtain ⟨i0, hi, hz0, hz1, hz2⟩ := info_parts infoInt
  go_enter Tryz.func7, Tryz.ntmps7
  go_wp2_with fail
  replace H := H.alloc (.cells #[.int .u8 kd0, .int .i64 a, .int .i64 b, .int .i64 c, .int .u8 fq] 51)
  (with_reducible refine (coshown_any K _ (H.factsC (by repeat (first | with_reducible exact List.mem_cons_self | with_reducible apply List.mem_cons_of_mem)))).mono ?_)
  rintro e w1 ⟨rfl, hb⟩
  replace H := H.below hb
  clear hb
  go_wp2_with fail
  replace H := H.alloc (.cells #[.int .i64 1, .int .i64 3, .int .i64 4, .int .i64 5, .int .i64 6] 3)
  have Da : Hid (decide (1 ≤ a ∧ a ≤ 3652059) = true) := Lib.hid (by rw [decide_eq_true_eq]; exact ha)
  (with_reducible refine (rday_is a true _ Da.out).mono ?_)
  rintro e va ⟨rfl, rfl⟩
  go_wp2_with fail
  have Db : Hid (decide (1 ≤ b ∧ b ≤ 3652059) = true) := Lib.hid (by rw [decide_eq_true_eq]; exact hb)
  (with_reducible refine (rday_is b true _ Db.out).mono ?_)
  rintro e vb ⟨rfl, rfl⟩
  go_wp2_with fail
  have Dc : Hid (decide (1 ≤ c ∧ c ≤ 3652059) = true) := Lib.hid (by rw [decide_eq_true_eq]; exact hc)
  (with_reducible refine (rday_is c true _ Dc.out).mono ?_)
  rintro e vc ⟨rfl, rfl⟩
  have q1 : decide (a > b) = false := decide_eq_false (by omega)
  have q2 : decide (b > c) = false := decide_eq_false (by omega)
  have q3 : decide (c - a > 3000) = false := decide_eq_false (by omega)
  go_wp2_with fail
  clear q1 q2 q3
  obtain ⟨W0, hW0⟩ : ∃ W0, w1.alloc (.cells #[.int .i64 1, .int .i64 3, .int .i64 4, .int .i64 5, .int .i64 6] 3) = W0 := ⟨_, rfl⟩
  have hsz : w1.heap.size + 1 = W0.heap.size := by rw [← hW0]; simp
  rw [hW0] at H ⊢
  rw [hsz, HK.out]
  clear hW0 hsz HK
  have ST := SideRow.start W0 fr a
  have HB := (Below.refl W0.heap.size W0).alloc (Nat.le_refl _) (.cells #[.bool false, .int .i64 0, .int .i64 fr, .slice none 0 0] 24)
  obtain ⟨W1, hW1⟩ : ∃ W1, W0.alloc (.cells #[.bool false, .int .i64 0, .int .i64 fr, .slice none 0 0] 24) = W1 := ⟨_, rfl⟩
  rw [hW1] at ST HB ⊢
  clear hW1
  obtain ⟨S, hS⟩ : ∃ S, W0.heap.size = S := ⟨_, rfl⟩
  rw [hS] at ST HB ⊢
  go_loopw [11] (fun i wr => ∃ (j m : Nat) (v : Value), j ≤ 10 ∧ i = .int .i64 (a + 365 * (j : Int)) ∧ SideRow S fr a j m v wr ∧ Below S W0 wr) (fun i _ => (c + 366 - intOf i).toNat)
  case atStart => exact ⟨0, 0, _, by omega, by simp, ST, HB⟩
  case round =>
    obtain ⟨j, m, v, j10, rfl, R, hB⟩ := hrel
    have KH := Lib.hid (H.below (by rw [hS]; exact hB))
    by_cases hlt : a + 365 * (j : Int) < c + 366
    · by_cases hd : a + 365 * (j : Int) ≤ 3652059
      · obtain rfl : m = j := R.now hd
        have e3 := R.c3
        have fS := R.fz
        have lS := cell_lt e3
        obtain ⟨y, hy⟩ : ∃ y, a + 365 * (m : Int) = y := ⟨_, rfl⟩
        rw [hy] at hlt hd ⊢
        have l1 : decide (y < c + 366) = true := decide_eq_true hlt
        have l2 : decide (y ≤ 3652059) = true := decide_eq_true hd
        go_wp2_with (first
          | (at_builtin; refine wpList_append_own _ rfl _ _ 22 rfl (S + 1) 3 i0 (.int .i64 0) 1 8 Tryz.underlying22 hi hz0 hz1 hz2 rfl (by decide) _ _ _ rfl (R.own.alloc _) ⟨wr.heap.size, 0, none⟩ 1 1 [.int .i64 y] rfl rfl ?c1 ?c2 ?c3 ?c4 ?c5 ?_)
          | go_in)
        case c1 => exact one_news10 (by simp [World.cell?_alloc_new])
        case c2 => first | rfl | (intro u hu; simp at hu; subst hu; rfl)
        case c3 => unfold maxLen; omega
        case c4 => omega
        case c5 => first | omega | (simp; omega)
        · intro v' w2 hown' hgrow _
          obtain ⟨g', cap', rfl⟩ : ∃ g' cap', v' = .slice (some ⟨g', 0, none⟩) (m + 1) cap' := by
            rcases hown'.2 with ⟨_, h⟩ | ⟨g', cap', cur, h, _⟩
            · omega
            · exact ⟨g', cap', h⟩
          have PT := Lib.hid (R.put (by unfold rX; omega) hgrow hown' hy)
          have BL := Lib.hid (R.below (v' := .slice (some ⟨g', 0, none⟩) (m + 1) cap') hB hgrow)
          obtain ⟨-, -, -, g3, gz⟩ := R.grown hgrow
          have lg := cell_lt g3
          clear hgrow hown' e3 fS lS
          go_wp2
          go_roundw
          case rel => exact ⟨m + 1, m + 1, _, by omega, congrArg (Value.int .i64) (by omega), PT.out, BL.out⟩
          case measure => simp [intOf]; omega
      · have R2 := R.skip (by unfold rX; omega)
        obtain ⟨y, hy⟩ : ∃ y, a + 365 * (j : Int) = y := ⟨_, rfl⟩
        rw [hy] at hlt hd ⊢
        have l1 : decide (y < c + 366) = true := decide_eq_true hlt
        have l2 : decide (y ≤ 3652059) = false := decide_eq_false hd
        go_wp2
        go_roundw
        case rel => exact ⟨j + 1, m, v, by omega, congrArg (Value.int .i64) (by omega), R2, hB⟩
        case measure => simp [intOf]; omega
    · skip
      have j2 : 2 ≤ j := by omega
      have jm : m ≤ 10 := by have := R.le; omega
      obtain ⟨ao, ca, rfl, hrow⟩ := row_own R.own
      have H := ((((((KH.out.add (f := .cell S 3 _) R.c3).add (f := .cell S 2 _) R.c2).add (f := .cell S 1 _) R.c1).add (f := .cell S 0 _) R.c0)).add (f := rowF ao (rX a) m ca) hrow)
      have rall := R.all
      have rday := R.day
      clear KH R hrow
      obtain ⟨l, rfl⟩ : ∃ l, m = l + 1 := ⟨m - 1, by rcases rall with e | e <;> unfold rX at * <;> omega⟩
      by_cases hin : 1 ≤ l ∧ c ≤ rX a l
      · skip
        obtain ⟨p, q, r, s, u, v, I1, I2, I3, R1, R2, AD⟩ := co_adds6 (t := false) (en := 0) (m := l) (adds_may ha.1 (by omega) (by omega) bfr rday) (show rX a 0 ≤ a by unfold rX; omega) hab hbc hin.2
        replace I1 := Lib.hid I1
        replace I2 := Lib.hid I2
        replace I3 := Lib.hid I3
        have AD10 := Lib.hid (fun v' => refadd10_is p q r s u v 0 v' R1 R2 AD)
        clear R1 R2 AD
        have l1 : decide (a + 365 * (j : Int) < c + 366) = false := decide_eq_false hlt
        have cs0 := H.cell (S) 0 (.bool false) (by repeat (first | with_reducible exact List.mem_cons_self | with_reducible apply List.mem_cons_of_mem))
        have cs1 := H.cell (S) 1 (.int .i64 0) (by repeat (first | with_reducible exact List.mem_cons_self | with_reducible apply List.mem_cons_of_mem))
        have cs2 := H.cell (S) 2 (.int .i64 fr) (by repeat (first | with_reducible exact List.mem_cons_self | with_reducible apply List.mem_cons_of_mem))
        have cs3 := H.cell (S) 3 (.slice ao (l + 1) ca) (by repeat (first | with_reducible exact List.mem_cons_self | with_reducible apply List.mem_cons_of_mem))
        have ls := cell_lt cs0
        go_wp2_with fail
        clear cs0 cs1 cs2 cs3 ls
        (with_reducible refine (K.part 6 a b false 0 fr ao (l + 1) ca (rX a) p q 0 _ (H.factsC (by repeat (first | with_reducible exact List.mem_cons_self | with_reducible apply List.mem_cons_of_mem))) (by unfold i64B; omega) (by omega) (H.row (ao := ao) (X := rX a) (n := l + 1) (cap := ca) (by repeat (first | with_reducible exact List.mem_cons_self | with_reducible apply List.mem_cons_of_mem))) I1.out).mono ?_)
        rintro e w21 ⟨rfl, hb⟩
        replace H := H.below hb
        clear hb
        have cs0 := H.cell (S) 0 (.bool false) (by repeat (first | with_reducible exact List.mem_cons_self | with_reducible apply List.mem_cons_of_mem))
        have cs1 := H.cell (S) 1 (.int .i64 0) (by repeat (first | with_reducible exact List.mem_cons_self | with_reducible apply List.mem_cons_of_mem))
        have cs2 := H.cell (S) 2 (.int .i64 fr) (by repeat (first | with_reducible exact List.mem_cons_self | with_reducible apply List.mem_cons_of_mem))
        have cs3 := H.cell (S) 3 (.slice ao (l + 1) ca) (by repeat (first | with_reducible exact List.mem_cons_self | with_reducible apply List.mem_cons_of_mem))
        have ls := cell_lt cs0
        go_wp2_with fail
        clear cs0 cs1 cs2 cs3 ls
        replace H := H.pair (w21.heap.size) (.int .i64 p) (.int .i64 q) 29 rfl
        (with_reducible refine (K.part 6 b c false 0 fr ao (l + 1) ca (rX a) r s 0 _ (H.factsC (by repeat (first | with_reducible exact List.mem_cons_self | with_reducible apply List.mem_cons_of_mem))) (by unfold i64B; omega) (by omega) (H.row (ao := ao) (X := rX a) (n := l + 1) (cap := ca) (by repeat (first | with_reducible exact List.mem_cons_self | with_reducible apply List.mem_cons_of_mem))) I2.out).mono ?_)
        rintro e w22 ⟨rfl, hb⟩
        replace H := H.below hb
        clear hb
        have cs0 := H.cell (S) 0 (.bool false) (by repeat (first | with_reducible exact List.mem_cons_self | with_reducible apply List.mem_cons_of_mem))
        have cs1 := H.cell (S) 1 (.int .i64 0) (by repeat (first | with_reducible exact List.mem_cons_self | with_reducible apply List.mem_cons_of_mem))
        have cs2 := H.cell (S) 2 (.int .i64 fr) (by repeat (first | with_reducible exact List.mem_cons_self | with_reducible apply List.mem_cons_of_mem))
        have cs3 := H.cell (S) 3 (.slice ao (l + 1) ca) (by repeat (first | with_reducible exact List.mem_cons_self | with_reducible apply List.mem_cons_of_mem))
        have ls := cell_lt cs0
        go_wp2_with fail
        clear cs0 cs1 cs2 cs3 ls
        replace H := H.pair (w22.heap.size) (.int .i64 r) (.int .i64 s) 29 rfl
        (with_reducible refine (K.part 6 a c false 0 fr ao (l + 1) ca (rX a) u v 0 _ (H.factsC (by repeat (first | with_reducible exact List.mem_cons_self | with_reducible apply List.mem_cons_of_mem))) (by unfold i64B; omega) (by omega) (H.row (ao := ao) (X := rX a) (n := l + 1) (cap := ca) (by repeat (first | with_reducible exact List.mem_cons_self | with_reducible apply List.mem_cons_of_mem))) I3.out).mono ?_)
        rintro e w23 ⟨rfl, hb⟩
        replace H := H.below hb
        clear hb
        have cx0 := H.cell (w21.heap.size) 0 (.int .i64 p) (by repeat (first | with_reducible exact List.mem_cons_self | with_reducible apply List.mem_cons_of_mem))
        have cx1 := H.cell (w21.heap.size) 1 (.int .i64 q) (by repeat (first | with_reducible exact List.mem_cons_self | with_reducible apply List.mem_cons_of_mem))
        have lx := cell_lt cx0
        have cy0 := H.cell (w22.heap.size) 0 (.int .i64 r) (by repeat (first | with_reducible exact List.mem_cons_self | with_reducible apply List.mem_cons_of_mem))
        have cy1 := H.cell (w22.heap.size) 1 (.int .i64 s) (by repeat (first | with_reducible exact List.mem_cons_self | with_reducible apply List.mem_cons_of_mem))
        have ly := cell_lt cy0
        go_wp2_with fail
        clear cx0 cx1 lx cy0 cy1 ly
        replace H := H.pair (w23.heap.size) (.int .i64 u) (.int .i64 v) 29 rfl
        (with_reducible refine (AD10.out _).mono ?_)
        rintro e w24 ⟨rfl, hb⟩
        replace H := H.below hb
        clear hb
        have cx0 := H.cell (w21.heap.size) 0 (.int .i64 p) (by repeat (first | with_reducible exact List.mem_cons_self | with_reducible apply List.mem_cons_of_mem))
        have cx1 := H.cell (w21.heap.size) 1 (.int .i64 q) (by repeat (first | with_reducible exact List.mem_cons_self | with_reducible apply List.mem_cons_of_mem))
        have lx := cell_lt cx0
        have cy0 := H.cell (w22.heap.size) 0 (.int .i64 r) (by repeat (first | with_reducible exact List.mem_cons_self | with_reducible apply List.mem_cons_of_mem))
        have cy1 := H.cell (w22.heap.size) 1 (.int .i64 s) (by repeat (first | with_reducible exact List.mem_cons_self | with_reducible apply List.mem_cons_of_mem))
        have ly := cell_lt cy0
        have cz0 := H.cell (w23.heap.size) 0 (.int .i64 u) (by repeat (first | with_reducible exact List.mem_cons_self | with_reducible apply List.mem_cons_of_mem))
        have cz1 := H.cell (w23.heap.size) 1 (.int .i64 v) (by repeat (first | with_reducible exact List.mem_cons_self | with_reducible apply List.mem_cons_of_mem))
        have lz := cell_lt cz0
        go_wp2_with fail
        clear cx0 cx1 lx cy0 cy1 ly cz0 cz1 lz
        go_ret
        exact ⟨rfl, (H.alloc _).old⟩
      by_cases l0 : l = 0
      · skip
        subst l0
        obtain ⟨p, q, d, I1⟩ := co_is 6 a b false 0 fr (rX a) (0 + 1)
        obtain ⟨r, s, f, I2⟩ := co_is 6 b c false 0 fr (rX a) (0 + 1)
        have I3 := co_side6 (t := false) (en := 0) (f := fr) (X := rX a) (n := 0 + 1) ha hc (by omega) (fun h => hin (by have := h.1.1; have := h.2.2; rw [Nat.add_sub_cancel] at this; exact ⟨by omega, this⟩))
        replace I1 := Lib.hid I1
        replace I2 := Lib.hid I2
        replace I3 := Lib.hid I3
        have l1 : decide (a + 365 * (j : Int) < c + 366) = false := decide_eq_false hlt
        have cs0 := H.cell (S) 0 (.bool false) (by repeat (first | with_reducible exact List.mem_cons_self | with_reducible apply List.mem_cons_of_mem))
        have cs1 := H.cell (S) 1 (.int .i64 0) (by repeat (first | with_reducible exact List.mem_cons_self | with_reducible apply List.mem_cons_of_mem))
        have cs2 := H.cell (S) 2 (.int .i64 fr) (by repeat (first | with_reducible exact List.mem_cons_self | with_reducible apply List.mem_cons_of_mem))
        have cs3 := H.cell (S) 3 (.slice ao (0 + 1) ca) (by repeat (first | with_reducible exact List.mem_cons_self | with_reducible apply List.mem_cons_of_mem))
        have ls := cell_lt cs0
        go_wp2_with fail
        clear cs0 cs1 cs2 cs3 ls
        (with_reducible refine (K.part 6 a b false 0 fr ao (0 + 1) ca (rX a) p q d _ (H.factsC (by repeat (first | with_reducible exact List.mem_cons_self | with_reducible apply List.mem_cons_of_mem))) (by unfold i64B; omega) (by omega) (H.row (ao := ao) (X := rX a) (n := 0 + 1) (cap := ca) (by repeat (first | with_reducible exact List.mem_cons_self | with_reducible apply List.mem_cons_of_mem))) I1.out).mono ?_)
        rintro e w21 ⟨rfl, hb⟩
        replace H := H.below hb
        clear hb
        have cs0 := H.cell (S) 0 (.bool false) (by repeat (first | with_reducible exact List.mem_cons_self | with_reducible apply List.mem_cons_of_mem))
        have cs1 := H.cell (S) 1 (.int .i64 0) (by repeat (first | with_reducible exact List.mem_cons_self | with_reducible apply List.mem_cons_of_mem))
        have cs2 := H.cell (S) 2 (.int .i64 fr) (by repeat (first | with_reducible exact List.mem_cons_self | with_reducible apply List.mem_cons_of_mem))
        have cs3 := H.cell (S) 3 (.slice ao (0 + 1) ca) (by repeat (first | with_reducible exact List.mem_cons_self | with_reducible apply List.mem_cons_of_mem))
        have ls := cell_lt cs0
        go_wp2_with fail
        clear cs0 cs1 cs2 cs3 ls
        replace H := H.pair (w21.heap.size) (.int .i64 p) (.int .i64 q) 29 rfl
        (with_reducible refine (K.part 6 b c false 0 fr ao (0 + 1) ca (rX a) r s f _ (H.factsC (by repeat (first | with_reducible exact List.mem_cons_self | with_reducible apply List.mem_cons_of_mem))) (by unfold i64B; omega) (by omega) (H.row (ao := ao) (X := rX a) (n := 0 + 1) (cap := ca) (by repeat (first | with_reducible exact List.mem_cons_self | with_reducible apply List.mem_cons_of_mem))) I2.out).mono ?_)
        rintro e w22 ⟨rfl, hb⟩
        replace H := H.below hb
        clear hb
        have cs0 := H.cell (S) 0 (.bool false) (by repeat (first | with_reducible exact List.mem_cons_self | with_reducible apply List.mem_cons_of_mem))
        have cs1 := H.cell (S) 1 (.int .i64 0) (by repeat (first | with_reducible exact List.mem_cons_self | with_reducible apply List.mem_cons_of_mem))
        have cs2 := H.cell (S) 2 (.int .i64 fr) (by repeat (first | with_reducible exact List.mem_cons_self | with_reducible apply List.mem_cons_of_mem))
        have cs3 := H.cell (S) 3 (.slice ao (0 + 1) ca) (by repeat (first | with_reducible exact List.mem_cons_self | with_reducible apply List.mem_cons_of_mem))
        have ls := cell_lt cs0
        go_wp2_with fail
        clear cs0 cs1 cs2 cs3 ls
        replace H := H.pair (w22.heap.size) (.int .i64 r) (.int .i64 s) 29 rfl
        (with_reducible refine (K.part 6 a c false 0 fr ao (0 + 1) ca (rX a) 0 0 5 _ (H.factsC (by repeat (first | with_reducible exact List.mem_cons_self | with_reducible apply List.mem_cons_of_mem))) (by unfold i64B; omega) (by omega) (H.row (ao := ao) (X := rX a) (n := 0 + 1) (cap := ca) (by repeat (first | with_reducible exact List.mem_cons_self | with_reducible apply List.mem_cons_of_mem))) I3.out).mono ?_)
        rintro e w23 ⟨rfl, hb⟩
        replace H := H.below hb
        clear hb
        have cs0 := H.cell (S) 0 (.bool false) (by repeat (first | with_reducible exact List.mem_cons_self | with_reducible apply List.mem_cons_of_mem))
        have cs1 := H.cell (S) 1 (.int .i64 0) (by repeat (first | with_reducible exact List.mem_cons_self | with_reducible apply List.mem_cons_of_mem))
        have cs2 := H.cell (S) 2 (.int .i64 fr) (by repeat (first | with_reducible exact List.mem_cons_self | with_reducible apply List.mem_cons_of_mem))
        have cs3 := H.cell (S) 3 (.slice ao (0 + 1) ca) (by repeat (first | with_reducible exact List.mem_cons_self | with_reducible apply List.mem_cons_of_mem))
        have ls := cell_lt cs0
        go_wp2_with fail
        clear cs0 cs1 cs2 cs3 ls
        go_ret
        exact ⟨rfl, (H.alloc _).old⟩
      · skip
        obtain ⟨p, q, d, I1⟩ := co_is 6 a b false 0 fr (rX a) (l + 1)
        obtain ⟨r, s, f, I2⟩ := co_is 6 b c false 0 fr (rX a) (l + 1)
        have I3 := co_side6 (t := false) (en := 0) (f := fr) (X := rX a) (n := l + 1) ha hc (by omega) (fun h => hin (by have := h.1.1; have := h.2.2; rw [Nat.add_sub_cancel] at this; exact ⟨by omega, this⟩))
        replace I1 := Lib.hid I1
        replace I2 := Lib.hid I2
        replace I3 := Lib.hid I3
        have l1 : decide (a + 365 * (j : Int) < c + 366) = false := decide_eq_false hlt
        obtain ⟨B, off, rfl, hC⟩ := (H.row (ao := ao) (X := rX a) (n := l + 1) (cap := ca) (by repeat (first | with_reducible exact List.mem_cons_self | with_reducible apply List.mem_cons_of_mem))).2 (by omega)
        replace H := H.add (f := .cell B (off + l) (.int .i64 (rX a l))) (hC l (by omega))
        have q5 : decide (((l + 1 : Nat) : Int) < 2) = false := by simp; omega
        have q6 : decide (rX a l < c) = true := decide_eq_true (by omega)
        have cs0 := H.cell (S) 0 (.bool false) (by repeat (first | with_reducible exact List.mem_cons_self | with_reducible apply List.mem_cons_of_mem))
        have cs1 := H.cell (S) 1 (.int .i64 0) (by repeat (first | with_reducible exact List.mem_cons_self | with_reducible apply List.mem_cons_of_mem))
        have cs2 := H.cell (S) 2 (.int .i64 fr) (by repeat (first | with_reducible exact List.mem_cons_self | with_reducible apply List.mem_cons_of_mem))
        have cs3 := H.cell (S) 3 (.slice (some ⟨B, off, none⟩) (l + 1) ca) (by repeat (first | with_reducible exact List.mem_cons_self | with_reducible apply List.mem_cons_of_mem))
        have ls := cell_lt cs0
        go_wp2_with fail
        clear cs0 cs1 cs2 cs3 ls
        (with_reducible refine (K.part 6 a b false 0 fr (some ⟨B, off, none⟩) (l + 1) ca (rX a) p q d _ (H.factsC (by repeat (first | with_reducible exact List.mem_cons_self | with_reducible apply List.mem_cons_of_mem))) (by unfold i64B; omega) (by omega) (H.row (ao := (some ⟨B, off, none⟩)) (X := rX a) (n := l + 1) (cap := ca) (by repeat (first | with_reducible exact List.mem_cons_self | with_reducible apply List.mem_cons_of_mem))) I1.out).mono ?_)
        rintro e w21 ⟨rfl, hb⟩
        replace H := H.below hb
        clear hb
        have cs0 := H.cell (S) 0 (.bool false) (by repeat (first | with_reducible exact List.mem_cons_self | with_reducible apply List.mem_cons_of_mem))
        have cs1 := H.cell (S) 1 (.int .i64 0) (by repeat (first | with_reducible exact List.mem_cons_self | with_reducible apply List.mem_cons_of_mem))
        have cs2 := H.cell (S) 2 (.int .i64 fr) (by repeat (first | with_reducible exact List.mem_cons_self | with_reducible apply List.mem_cons_of_mem))
        have cs3 := H.cell (S) 3 (.slice (some ⟨B, off, none⟩) (l + 1) ca) (by repeat (first | with_reducible exact List.mem_cons_self | with_reducible apply List.mem_cons_of_mem))
        have ls := cell_lt cs0
        go_wp2_with fail
        clear cs0 cs1 cs2 cs3 ls
        replace H := H.pair (w21.heap.size) (.int .i64 p) (.int .i64 q) 29 rfl
        (with_reducible refine (K.part 6 b c false 0 fr (some ⟨B, off, none⟩) (l + 1) ca (rX a) r s f _ (H.factsC (by repeat (first | with_reducible exact List.mem_cons_self | with_reducible apply List.mem_cons_of_mem))) (by unfold i64B; omega) (by omega) (H.row (ao := (some ⟨B, off, none⟩)) (X := rX a) (n := l + 1) (cap := ca) (by repeat (first | with_reducible exact List.mem_cons_self | with_reducible apply List.mem_cons_of_mem))) I2.out).mono ?_)
        rintro e w22 ⟨rfl, hb⟩
        replace H := H.below hb
        clear hb
        have cs0 := H.cell (S) 0 (.bool false) (by repeat (first | with_reducible exact List.mem_cons_self | with_reducible apply List.mem_cons_of_mem))
        have cs1 := H.cell (S) 1 (.int .i64 0) (by repeat (first | with_reducible exact List.mem_cons_self | with_reducible apply List.mem_cons_of_mem))
        have cs2 := H.cell (S) 2 (.int .i64 fr) (by repeat (first | with_reducible exact List.mem_cons_self | with_reducible apply List.mem_cons_of_mem))
        have cs3 := H.cell (S) 3 (.slice (some ⟨B, off, none⟩) (l + 1) ca) (by repeat (first | with_reducible exact List.mem_cons_self | with_reducible apply List.mem_cons_of_mem))
        have ls := cell_lt cs0
        go_wp2_with fail
        clear cs0 cs1 cs2 cs3 ls
        replace H := H.pair (w22.heap.size) (.int .i64 r) (.int .i64 s) 29 rfl
        (with_reducible refine (K.part 6 a c false 0 fr (some ⟨B, off, none⟩) (l + 1) ca (rX a) 0 0 5 _ (H.factsC (by repeat (first | with_reducible exact List.mem_cons_self | with_reducible apply List.mem_cons_of_mem))) (by unfold i64B; omega) (by omega) (H.row (ao := (some ⟨B, off, none⟩)) (X := rX a) (n := l + 1) (cap := ca) (by repeat (first | with_reducible exact List.mem_cons_self | with_reducible apply List.mem_cons_of_mem))) I3.out).mono ?_)
        rintro e w23 ⟨rfl, hb⟩
        replace H := H.below hb
        clear hb
        have cB := H.cell B (off + l) (.int .i64 (rX a l)) (by repeat (first | with_reducible exact List.mem_cons_self | with_reducible apply List.mem_cons_of_mem))
        have lB := cell_lt cB
        have cs0 := H.cell (S) 0 (.bool false) (by repeat (first | with_reducible exact List.mem_cons_self | with_reducible apply List.mem_cons_of_mem))
        have cs1 := H.cell (S) 1 (.int .i64 0) (by repeat (first | with_reducible exact List.mem_cons_self | with_reducible apply List.mem_cons_of_mem))
        have cs2 := H.cell (S) 2 (.int .i64 fr) (by repeat (first | with_reducible exact List.mem_cons_self | with_reducible apply List.mem_cons_of_mem))
        have cs3 := H.cell (S) 3 (.slice (some ⟨B, off, none⟩) (l + 1) ca) (by repeat (first | with_reducible exact List.mem_cons_self | with_reducible apply List.mem_cons_of_mem))
        have ls := cell_lt cs0
        go_wp2_with fail
        clear cs0 cs1 cs2 cs3 ls
        go_ret
        exact ⟨rfl, (H.alloc _).old⟩

theorem cadds_walk (K : CWay) (kd0 a b c fq : Int) (w : World) (hL : FactsC w) (bk : 0 ≤ kd0 ∧ kd0 < 256) (bf : 0 ≤ fq ∧ fq < 256) :
    Calls Tryz.prog 7 #[.agg #[.int .u8 kd0, .int .i64 a, .int .i64 b, .int .i64 c, .int .u8 fq]] w fun e w' => e = .returned (.bool true) ∧ Below w.heap.size w w' := by
  have hr : kd0 % 5 = 0 ∨ kd0 % 5 = 1 ∨ kd0 % 5 = 2 ∨ kd0 % 5 = 3 ∨ kd0 % 5 = 4 := by omega
  by_cases h : (1 ≤ a ∧ a ≤ 3652059) ∧ (1 ≤ b ∧ b ≤ 3652059) ∧ (1 ≤ c ∧ c ≤ 3652059) ∧ a ≤ b ∧ b ≤ c ∧ c - a ≤ 3000
  · obtain ⟨ha, hb, hc, hab, hbc, h3⟩ := h
    rcases hr with e | e | e | e | e
    · exact cadds_main_0 K kd0 a b c fq w hL bk bf e ha hb hc hab hbc h3
    · exact cadds_main_1 K kd0 a b c fq w hL bk bf e ha hb hc hab hbc h3
    · exact cadds_main_2 K kd0 a b c fq w hL bk bf e ha hb hc hab hbc h3
    · exact cadds_main_3 K kd0 a b c fq w hL bk bf e ha hb hc hab hbc h3
    · exact cadds_main_4 K kd0 a b c fq w hL bk bf e ha hb hc hab hbc h3
  · rcases hr with e | e | e | e | e
    · exact cadds_out_0 K kd0 a b c fq w hL bk bf e h
    · exact cadds_out_1 K kd0 a b c fq w hL bk bf e h
    · exact cadds_out_2 K kd0 a b c fq w hL bk bf e h
    · exact cadds_out_3 K kd0 a b c fq w hL bk bf e h
    · exact cadds_out_4 K kd0 a b c fq w hL bk bf e h
end Go.Proofs.YtkmchbllnfoccaaGreatDoor
