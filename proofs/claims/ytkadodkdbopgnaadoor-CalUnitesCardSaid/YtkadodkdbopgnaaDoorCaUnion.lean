/- The reference of layer 13: the calendar of what is off in either. -/
import Derived.Test.YtkadodkdbopgnaaDoorCaWayE
import Derived.Test.YtkadodkdbopgnaaDoorCaRuleA
import Derived.Maps.AppendAt
import Derived.Deep.RegionHeld3
import Derived.Deep.MidRow
namespace Go.Proofs.YtkadodkdbopgnaaDoor
open Go.RowKit
set_option linter.unusedVariables false
set_option linter.unusedSimpArgs false

/-- append of any row to a row of the call's own: where the new one lies, too. -/
theorem app14 {P : Program} {w : World} (base : Nat) (t ty e : TypeId) (i : TypeInfo) (z : Value) (size bytes : Nat) (ht : P.underlying t = some (.slice e)) (hi : P.info? e = some i) (hz : i.zero = some z)
    (hsize : i.size = size) (hby : i.bytes = bytes) (hzs : z.cells.size = size) (hsz : 0 < size)
    (v : Value) (n : Nat) (xs : List Value) (hown : w.ownsRow base e size v n xs) (ao : Option Addr) (m c : Nat) (l : List Value) (hl : Row13 w size ao m l)
    (h63 : n + m ≤ 100000) (hb : bytes ≤ 1000) (hbase : base ≤ w.heap.size) :
    ∃ v' w', (Builtin.append_ #[t, t] ty #[v, .slice ao m c]).run P w = .ok v' w' ∧ w'.ownsRow base e size v' (n + m) (xs ++ l) ∧ w.grownBy w' v.ownBlock ∧ (v'.ownBlock = v.ownBlock ∨ v'.ownBlock = some w.heap.size) := by
  have hbytes : (n + m) * bytes ≤ 140737488355328 := Nat.le_trans (Nat.mul_le_mul h63 hb) (by decide)
  have h63' : n + m ≤ maxLen := by unfold maxLen; omega
  rcases Nat.eq_zero_or_pos m with rfl | hm
  · have e0 : l = [] := List.length_eq_zero_iff.1 (by simpa using hl.1)
    subst e0
    cases ao with
    | none => exact ⟨v, w, app_none base t ty e i size ht hi v n xs hown c, by simpa using hown, ⟨rfl, rfl, rfl, Nat.le_refl _, fun _ _ _ => rfl⟩, Or.inl rfl⟩
    | some ad =>
      obtain ⟨v', w', h1, h2, h3, _, h5⟩ := run_append_own_at w base t ty e i z size bytes ht hi hz hsize hby hzs hsz v n xs hown ad 0 c [] (by simp) (fun j u hu => by simp at hu) (fun u hu => by cases hu) h63' hbytes hbase
      exact ⟨v', w', h1, h2, h3, h5⟩
  · obtain ⟨b, off, rfl, hc⟩ := hl.2.2 hm
    obtain ⟨v', w', h1, h2, h3, _, h5⟩ := run_append_own_at w base t ty e i z size bytes ht hi hz hsize hby hzs hsz v n xs hown ⟨b, off, none⟩ m c l hl.1 hc hl.2.1 h63' hbytes hbase
    exact ⟨v', w', h1, h2, h3, h5⟩
theorem ArrAt.grown {W W' : World} {g n : Nat} {f : Nat → Value} {row : Option Nat} (h : ArrAt W g n f) (hg : W.grownBy W' row) (hn : some g ≠ row) : ArrAt W' g n f := fun k hk =>
  ⟨hg.cell (h k hk).1 hn, (World.frozen?_of_block (hg.block g (cell_lt (h k hk).1) hn)).trans (h k hk).2⟩
theorem DaysAt.grown {W W' : World} {ao : Option Addr} {X : Nat → Int} {n cap : Nat} {row : Option Nat} (h : DaysAt W ao X n cap) (hg : W.grownBy W' row) (hn : ∀ p, ao = some p → some p.block ≠ row) : DaysAt W' ao X n cap :=
  ⟨h.1, fun hp => by obtain ⟨b, off, e, hc⟩ := h.2 hp; exact ⟨b, off, e, fun j hj => hg.cell (hc j hj) (show some b ≠ row from hn ⟨b, off, none⟩ e)⟩⟩
theorem DaysAt.set1 {W : World} {ao : Option Addr} {X : Nat → Int} {n cap : Nat} (h : DaysAt W ao X n cap) (B o : Nat) (u : Value) (hn : ∀ p, ao = some p → p.block ≠ B) : DaysAt (W.setCell ⟨B, o, none⟩ u) ao X n cap :=
  ⟨h.1, fun hp => by
    obtain ⟨b, off, e, hc⟩ := h.2 hp
    exact ⟨b, off, e, fun j hj => (World.cell?_setCell_far W ⟨B, o, none⟩ ⟨b, off + j, none⟩ u (fun g => hn _ e g.symm)).trans (hc j hj)⟩⟩
/-- Where a row lies: from base on, below the world's end. -/
def Rj (base : Nat) (W : World) (ao : Option Addr) : Prop := ∀ p, ao = some p → base ≤ p.block ∧ p.block < W.heap.size
theorem Rj.up {base : Nat} {W W' : World} {ao : Option Addr} (h : Rj base W ao) (hs : W.heap.size ≤ W'.heap.size) : Rj base W' ao := fun p hp => ⟨(h p hp).1, Nat.lt_of_lt_of_le (h p hp).2 hs⟩
theorem Rj.alloc {base : Nat} {W : World} {ao : Option Addr} (h : Rj base W ao) (o : Obj) : Rj base (W.alloc o) ao := h.up (by simp)
theorem Rj.off {base : Nat} {W : World} {ao : Option Addr} (h : Rj base W ao) : Rn W.heap.size ao := fun p hp => Nat.ne_of_lt (h p hp).2
/-- No cell of a row's own block is one of these. -/
def Rv (v : Value) (ao : Option Addr) : Prop := ∀ p, ao = some p → some p.block ≠ v.ownBlock
theorem Rv.new {base : Nat} {W : World} {ao : Option Addr} (h : Rj base W ao) (n c : Nat) : Rv (.slice (some ⟨W.heap.size, 0, none⟩) n c) ao := fun p hp e => absurd (Option.some.inj (show some p.block = some W.heap.size from e)) (Nat.ne_of_lt (h p hp).2)
theorem Rv.next {base : Nat} {W : World} {ao : Option Addr} {v v' : Value} (h : Rv v ao) (k : Rj base W ao) (hx : v'.ownBlock = v.ownBlock ∨ v'.ownBlock = some W.heap.size) : Rv v' ao := fun p hp e => by
  rcases hx with g | g
  · exact h p hp (e.trans g)
  · exact absurd (Option.some.inj (e.trans g)) (Nat.ne_of_lt (k p hp).2)
theorem Rv.far {base b2 n size : Nat} {W : World} {T : TypeId} {v : Value} {xs : List Value} {ao : Option Addr} (ho : W.ownsRow base T size v n xs) (k : ∀ p, ao = some p → W.heap.size ≤ p.block ∧ p.block < b2) : Rv v ao := fun p hp e => absurd (World.ownsRow.lt ho p.block e.symm).2 (Nat.not_lt.2 (k p hp).1)
def Gv (v : Value) (g : Nat) : Prop := some g ≠ v.ownBlock
theorem Gv.new {W : World} {g : Nat} (h : g < W.heap.size) (n c : Nat) : Gv (.slice (some ⟨W.heap.size, 0, none⟩) n c) g := fun e => absurd (Option.some.inj (show some g = some W.heap.size from e)) (Nat.ne_of_lt h)
theorem Gv.next {W : World} {g : Nat} {v v' : Value} (h : Gv v g) (k : g < W.heap.size) (hx : v'.ownBlock = v.ownBlock ∨ v'.ownBlock = some W.heap.size) : Gv v' g := fun e => by
  rcases hx with q | q
  · exact h (e.trans q)
  · exact absurd (Option.some.inj (e.trans q)) (Nat.ne_of_lt k)
theorem Gv.far {base n size : Nat} {W : World} {T : TypeId} {v : Value} {xs : List Value} (ho : W.ownsRow base T size v n xs) : Gv v W.heap.size := fun e => absurd (World.ownsRow.lt ho W.heap.size e.symm).2 (Nat.lt_irrefl _)
theorem Gv.rn {g n c : Nat} {ao : Option Addr} (h : Gv (.slice ao n c) g) : Rn g ao := fun p hp e => by subst hp; subst e; exact h rfl
/-- The union's cells while its days of the week are laid. -/
def uf (o q : Nat → Bool) (s7 s8 : Value) (j k : Nat) : Value := if k < 7 then .bool (if k < j then o k || q k else false) else if k = 7 then s7 else s8
theorem uf_at {o q : Nat → Bool} {s7 s8 : Value} {j : Nat} (h : j < 7) : uf o q s7 s8 j j = .bool false := by
  unfold uf
  rw [if_pos h, if_neg (Nat.lt_irrefl _)]
theorem uf_up (o q : Nat → Bool) (s7 s8 : Value) (j : Nat) (h : j < 7) : ∀ k, upd13 (uf o q s7 s8 j) j (.bool (o j || q j)) k = uf o q s7 s8 (j + 1) k := fun k => by
  unfold upd13 uf
  by_cases e : k = j
  · subst e
    rw [if_pos rfl, if_pos h, if_pos (by omega)]
  · rw [if_neg e]
    by_cases g : k < 7
    · rw [if_pos g, if_pos g]
      by_cases m : k < j
      · rw [if_pos m, if_pos (by omega)]
      · rw [if_neg m, if_neg (by omega)]
    · rw [if_neg g, if_neg g]

set_option maxHeartbeats 16000000 in
set_option maxRecDepth 100000 in
theorem rcunion_any (a : Ca) (aRa : Option Addr) (cRa : Nat) (aDa : Option Addr) (cDa : Nat) (b : Ca) (aRb : Option Addr) (cRb : Nat) (aDb : Option Addr) (cDb : Nat) (w : World) (hL : FactsV w) (ha : a.Few) (hb : b.Few) (hMa : a.May) (hMb : b.May) (hA : CalAt w a aRa cRa aDa cDa) (hB : CalAt w b aRb cRb aDb cDb) :
    Calls Tryd.prog 18 #[.agg #[.bool (a.o 0), .bool (a.o 1), .bool (a.o 2), .bool (a.o 3), .bool (a.o 4), .bool (a.o 5), .bool (a.o 6), .slice aRa a.nr cRa, .slice aDa a.nd cDa], .agg #[.bool (b.o 0), .bool (b.o 1), .bool (b.o 2), .bool (b.o 3), .bool (b.o 4), .bool (b.o 5), .bool (b.o 6), .slice aRb b.nr cRb, .slice aDb b.nd cDb]] w fun e w' => UnionSays a b w e w' := by
  have H := (((Held.start w).add (f := factsVF) hL).add (f := calF a aRa cRa aDa cDa) hA).add (f := calF b aRb cRb aDb cDb) hB
  have A1 : a.nr ≤ 2000 := Nat.le_trans ha.1 (by decide)
  have A2 : a.nd ≤ 2000 := Nat.le_trans ha.2 (by decide)
  have B1 : b.nr ≤ 2000 := Nat.le_trans hb.1 (by decide)
  have B2 : b.nd ≤ 2000 := Nat.le_trans hb.2 (by decide)
  have SU : (a.un b).Small := by
    have l := (len_mg (dl a.X a.nd) (dl b.X b.nd)).1
    rw [dl_len, dl_len] at l
    exact ⟨show a.nr + b.nr ≤ 200 by have := ha.1; have := hb.1; omega, show (mg (dl a.X a.nd) (dl b.X b.nd)).length ≤ 2000 by have := ha.2; have := hb.2; omega⟩
  obtain ⟨u, hu⟩ := bool_of (a.un b).May
  have QM : Hid (∀ (v : World) (ao2 : Option Addr) (cap2 : Nat) (ao3 : Option Addr) (cap3 : Nat), CalAt v (a.un b) ao2 cap2 ao3 cap3 → Calls Tryd.prog 13 #[.agg #[.bool (a.o 0 || b.o 0), .bool (a.o 1 || b.o 1), .bool (a.o 2 || b.o 2), .bool (a.o 3 || b.o 3), .bool (a.o 4 || b.o 4), .bool (a.o 5 || b.o 5), .bool (a.o 6 || b.o 6), .slice ao2 (a.nr + b.nr) cap2, .slice ao3 (mg (dl a.X a.nd) (dl b.X b.nd)).length cap3]] v fun e w' => e = .returned (.bool u) ∧ Below v.heap.size v w') :=
    Lib.hid (fun v ao2 cap2 ao3 cap3 k => rcmay_any (a.un b) ao2 cap2 ao3 cap3 u v SU k hu)
  have HU := Lib.hid hu
  have HI : Hid (FactsV w ∧ CalAt w a aRa cRa aDa cDa ∧ CalAt w b aRb cRb aDb cDb) := Lib.hid ⟨hL, hA, hB⟩
  clear hL hA hB ha hb hMa hMb hu SU
  go_enter Tryd.func18, Tryd.ntmps18
  go_wp2_with fail
  replace H := (((H.box_9 (w.heap.size) (.bool (a.o 0)) (.bool (a.o 1)) (.bool (a.o 2)) (.bool (a.o 3)) (.bool (a.o 4)) (.bool (a.o 5)) (.bool (a.o 6)) (.slice aRa a.nr cRa) (.slice aDa a.nd cDa) 26 rfl).box_9 (w.heap.size + 1) (.bool (b.o 0)) (.bool (b.o 1)) (.bool (b.o 2)) (.bool (b.o 3)) (.bool (b.o 4)) (.bool (b.o 5)) (.bool (b.o 6)) (.slice aRb b.nr cRb) (.slice aDb b.nd cDb) 26 (by simp)).box_9 (w.heap.size + 2) (.bool false) (.bool false) (.bool false) (.bool false) (.bool false) (.bool false) (.bool false) (.slice none 0 0) (.slice none 0 0) 26 (by simp))
  have KS : Hid (∀ w' : World, Held w [.cell (w.heap.size + 2) 0 (.bool false), .cell (w.heap.size + 2) 1 (.bool false), .cell (w.heap.size + 2) 2 (.bool false), .cell (w.heap.size + 2) 3 (.bool false), .cell (w.heap.size + 2) 4 (.bool false), .cell (w.heap.size + 2) 5 (.bool false), .cell (w.heap.size + 2) 6 (.bool false), .cell (w.heap.size + 2) 7 (.slice none 0 0), .cell (w.heap.size + 2) 8 (.slice none 0 0), .free (w.heap.size + 2) 0, .free (w.heap.size + 2) 1, .free (w.heap.size + 2) 2, .free (w.heap.size + 2) 3, .free (w.heap.size + 2) 4, .free (w.heap.size + 2) 5, .free (w.heap.size + 2) 6, .free (w.heap.size + 2) 7, .free (w.heap.size + 2) 8, .cell (w.heap.size + 1) 0 (.bool (b.o 0)), .cell (w.heap.size + 1) 1 (.bool (b.o 1)), .cell (w.heap.size + 1) 2 (.bool (b.o 2)), .cell (w.heap.size + 1) 3 (.bool (b.o 3)), .cell (w.heap.size + 1) 4 (.bool (b.o 4)), .cell (w.heap.size + 1) 5 (.bool (b.o 5)), .cell (w.heap.size + 1) 6 (.bool (b.o 6)), .cell (w.heap.size + 1) 7 (.slice aRb b.nr cRb), .cell (w.heap.size + 1) 8 (.slice aDb b.nd cDb), .free (w.heap.size + 1) 0, .free (w.heap.size + 1) 1, .free (w.heap.size + 1) 2, .free (w.heap.size + 1) 3, .free (w.heap.size + 1) 4, .free (w.heap.size + 1) 5, .free (w.heap.size + 1) 6, .free (w.heap.size + 1) 7, .free (w.heap.size + 1) 8, .cell (w.heap.size) 0 (.bool (a.o 0)), .cell (w.heap.size) 1 (.bool (a.o 1)), .cell (w.heap.size) 2 (.bool (a.o 2)), .cell (w.heap.size) 3 (.bool (a.o 3)), .cell (w.heap.size) 4 (.bool (a.o 4)), .cell (w.heap.size) 5 (.bool (a.o 5)), .cell (w.heap.size) 6 (.bool (a.o 6)), .cell (w.heap.size) 7 (.slice aRa a.nr cRa), .cell (w.heap.size) 8 (.slice aDa a.nd cDa), .free (w.heap.size) 0, .free (w.heap.size) 1, .free (w.heap.size) 2, .free (w.heap.size) 3, .free (w.heap.size) 4, .free (w.heap.size) 5, .free (w.heap.size) 6, .free (w.heap.size) 7, .free (w.heap.size) 8, calF b aRb cRb aDb cDb, calF a aRa cRa aDa cDa, factsVF] w' → w'.cell? ⟨w.heap.size, 0, none⟩ = some (.bool (a.o 0)) ∧ w'.cell? ⟨w.heap.size, 1, none⟩ = some (.bool (a.o 1)) ∧ w'.cell? ⟨w.heap.size, 2, none⟩ = some (.bool (a.o 2)) ∧ w'.cell? ⟨w.heap.size, 3, none⟩ = some (.bool (a.o 3)) ∧ w'.cell? ⟨w.heap.size, 4, none⟩ = some (.bool (a.o 4)) ∧ w'.cell? ⟨w.heap.size, 5, none⟩ = some (.bool (a.o 5)) ∧ w'.cell? ⟨w.heap.size, 6, none⟩ = some (.bool (a.o 6)) ∧ w'.cell? ⟨w.heap.size, 7, none⟩ = some (.slice aRa a.nr cRa) ∧ w'.cell? ⟨w.heap.size, 8, none⟩ = some (.slice aDa a.nd cDa) ∧ w'.cell? ⟨w.heap.size + 1, 0, none⟩ = some (.bool (b.o 0)) ∧ w'.cell? ⟨w.heap.size + 1, 1, none⟩ = some (.bool (b.o 1)) ∧ w'.cell? ⟨w.heap.size + 1, 2, none⟩ = some (.bool (b.o 2)) ∧ w'.cell? ⟨w.heap.size + 1, 3, none⟩ = some (.bool (b.o 3)) ∧ w'.cell? ⟨w.heap.size + 1, 4, none⟩ = some (.bool (b.o 4)) ∧ w'.cell? ⟨w.heap.size + 1, 5, none⟩ = some (.bool (b.o 5)) ∧ w'.cell? ⟨w.heap.size + 1, 6, none⟩ = some (.bool (b.o 6)) ∧ w'.cell? ⟨w.heap.size + 1, 7, none⟩ = some (.slice aRb b.nr cRb) ∧ w'.cell? ⟨w.heap.size + 1, 8, none⟩ = some (.slice aDb b.nd cDb) ∧ Held w [.cell (w.heap.size + 2) 0 (.bool false), .cell (w.heap.size + 2) 1 (.bool false), .cell (w.heap.size + 2) 2 (.bool false), .cell (w.heap.size + 2) 3 (.bool false), .cell (w.heap.size + 2) 4 (.bool false), .cell (w.heap.size + 2) 5 (.bool false), .cell (w.heap.size + 2) 6 (.bool false), .cell (w.heap.size + 2) 7 (.slice none 0 0), .cell (w.heap.size + 2) 8 (.slice none 0 0), .free (w.heap.size + 2) 0, .free (w.heap.size + 2) 1, .free (w.heap.size + 2) 2, .free (w.heap.size + 2) 3, .free (w.heap.size + 2) 4, .free (w.heap.size + 2) 5, .free (w.heap.size + 2) 6, .free (w.heap.size + 2) 7, .free (w.heap.size + 2) 8, .cell (w.heap.size + 1) 0 (.bool (b.o 0)), .cell (w.heap.size + 1) 1 (.bool (b.o 1)), .cell (w.heap.size + 1) 2 (.bool (b.o 2)), .cell (w.heap.size + 1) 3 (.bool (b.o 3)), .cell (w.heap.size + 1) 4 (.bool (b.o 4)), .cell (w.heap.size + 1) 5 (.bool (b.o 5)), .cell (w.heap.size + 1) 6 (.bool (b.o 6)), .cell (w.heap.size + 1) 7 (.slice aRb b.nr cRb), .cell (w.heap.size + 1) 8 (.slice aDb b.nd cDb), .free (w.heap.size + 1) 0, .free (w.heap.size + 1) 1, .free (w.heap.size + 1) 2, .free (w.heap.size + 1) 3, .free (w.heap.size + 1) 4, .free (w.heap.size + 1) 5, .free (w.heap.size + 1) 6, .free (w.heap.size + 1) 7, .free (w.heap.size + 1) 8, .cell (w.heap.size) 0 (.bool (a.o 0)), .cell (w.heap.size) 1 (.bool (a.o 1)), .cell (w.heap.size) 2 (.bool (a.o 2)), .cell (w.heap.size) 3 (.bool (a.o 3)), .cell (w.heap.size) 4 (.bool (a.o 4)), .cell (w.heap.size) 5 (.bool (a.o 5)), .cell (w.heap.size) 6 (.bool (a.o 6)), .cell (w.heap.size) 7 (.slice aRa a.nr cRa), .cell (w.heap.size) 8 (.slice aDa a.nd cDa), .free (w.heap.size) 0, .free (w.heap.size) 1, .free (w.heap.size) 2, .free (w.heap.size) 3, .free (w.heap.size) 4, .free (w.heap.size) 5, .free (w.heap.size) 6, .free (w.heap.size) 7, .free (w.heap.size) 8, calF b aRb cRb aDb cDb, calF a aRa cRa aDa cDa, factsVF] w') := Lib.hid (fun _ h => ⟨h.cell (w.heap.size) 0 (.bool (a.o 0)) (mt32 (mt1 (mt1 (mt1 (mt1 mh))))), h.cell (w.heap.size) 1 (.bool (a.o 1)) (mt32 (mt1 (mt1 (mt1 (mt1 (mt1 mh)))))), h.cell (w.heap.size) 2 (.bool (a.o 2)) (mt32 (mt1 (mt1 (mt1 (mt1 (mt1 (mt1 mh))))))), h.cell (w.heap.size) 3 (.bool (a.o 3)) (mt32 (mt1 (mt1 (mt1 (mt1 (mt1 (mt1 (mt1 mh)))))))), h.cell (w.heap.size) 4 (.bool (a.o 4)) (mt32 (mt8 mh)), h.cell (w.heap.size) 5 (.bool (a.o 5)) (mt32 (mt8 (mt1 mh))), h.cell (w.heap.size) 6 (.bool (a.o 6)) (mt32 (mt8 (mt1 (mt1 mh)))), h.cell (w.heap.size) 7 (.slice aRa a.nr cRa) (mt32 (mt8 (mt1 (mt1 (mt1 mh))))), h.cell (w.heap.size) 8 (.slice aDa a.nd cDa) (mt32 (mt8 (mt1 (mt1 (mt1 (mt1 mh)))))), h.cell (w.heap.size + 1) 0 (.bool (b.o 0)) (mt8 (mt8 (mt1 (mt1 mh)))), h.cell (w.heap.size + 1) 1 (.bool (b.o 1)) (mt8 (mt8 (mt1 (mt1 (mt1 mh))))), h.cell (w.heap.size + 1) 2 (.bool (b.o 2)) (mt8 (mt8 (mt1 (mt1 (mt1 (mt1 mh)))))), h.cell (w.heap.size + 1) 3 (.bool (b.o 3)) (mt8 (mt8 (mt1 (mt1 (mt1 (mt1 (mt1 mh))))))), h.cell (w.heap.size + 1) 4 (.bool (b.o 4)) (mt8 (mt8 (mt1 (mt1 (mt1 (mt1 (mt1 (mt1 mh)))))))), h.cell (w.heap.size + 1) 5 (.bool (b.o 5)) (mt8 (mt8 (mt1 (mt1 (mt1 (mt1 (mt1 (mt1 (mt1 mh))))))))), h.cell (w.heap.size + 1) 6 (.bool (b.o 6)) (mt8 (mt8 (mt8 mh))), h.cell (w.heap.size + 1) 7 (.slice aRb b.nr cRb) (mt8 (mt8 (mt8 (mt1 mh)))), h.cell (w.heap.size + 1) 8 (.slice aDb b.nd cDb) (mt8 (mt8 (mt8 (mt1 (mt1 mh))))), h⟩)
  have KH : Hid (∀ w' : World, w'.cell? ⟨w.heap.size, 0, none⟩ = some (.bool (a.o 0)) ∧ w'.cell? ⟨w.heap.size, 1, none⟩ = some (.bool (a.o 1)) ∧ w'.cell? ⟨w.heap.size, 2, none⟩ = some (.bool (a.o 2)) ∧ w'.cell? ⟨w.heap.size, 3, none⟩ = some (.bool (a.o 3)) ∧ w'.cell? ⟨w.heap.size, 4, none⟩ = some (.bool (a.o 4)) ∧ w'.cell? ⟨w.heap.size, 5, none⟩ = some (.bool (a.o 5)) ∧ w'.cell? ⟨w.heap.size, 6, none⟩ = some (.bool (a.o 6)) ∧ w'.cell? ⟨w.heap.size, 7, none⟩ = some (.slice aRa a.nr cRa) ∧ w'.cell? ⟨w.heap.size, 8, none⟩ = some (.slice aDa a.nd cDa) ∧ w'.cell? ⟨w.heap.size + 1, 0, none⟩ = some (.bool (b.o 0)) ∧ w'.cell? ⟨w.heap.size + 1, 1, none⟩ = some (.bool (b.o 1)) ∧ w'.cell? ⟨w.heap.size + 1, 2, none⟩ = some (.bool (b.o 2)) ∧ w'.cell? ⟨w.heap.size + 1, 3, none⟩ = some (.bool (b.o 3)) ∧ w'.cell? ⟨w.heap.size + 1, 4, none⟩ = some (.bool (b.o 4)) ∧ w'.cell? ⟨w.heap.size + 1, 5, none⟩ = some (.bool (b.o 5)) ∧ w'.cell? ⟨w.heap.size + 1, 6, none⟩ = some (.bool (b.o 6)) ∧ w'.cell? ⟨w.heap.size + 1, 7, none⟩ = some (.slice aRb b.nr cRb) ∧ w'.cell? ⟨w.heap.size + 1, 8, none⟩ = some (.slice aDb b.nd cDb) ∧ Held w [.cell (w.heap.size + 2) 0 (.bool false), .cell (w.heap.size + 2) 1 (.bool false), .cell (w.heap.size + 2) 2 (.bool false), .cell (w.heap.size + 2) 3 (.bool false), .cell (w.heap.size + 2) 4 (.bool false), .cell (w.heap.size + 2) 5 (.bool false), .cell (w.heap.size + 2) 6 (.bool false), .cell (w.heap.size + 2) 7 (.slice none 0 0), .cell (w.heap.size + 2) 8 (.slice none 0 0), .free (w.heap.size + 2) 0, .free (w.heap.size + 2) 1, .free (w.heap.size + 2) 2, .free (w.heap.size + 2) 3, .free (w.heap.size + 2) 4, .free (w.heap.size + 2) 5, .free (w.heap.size + 2) 6, .free (w.heap.size + 2) 7, .free (w.heap.size + 2) 8, .cell (w.heap.size + 1) 0 (.bool (b.o 0)), .cell (w.heap.size + 1) 1 (.bool (b.o 1)), .cell (w.heap.size + 1) 2 (.bool (b.o 2)), .cell (w.heap.size + 1) 3 (.bool (b.o 3)), .cell (w.heap.size + 1) 4 (.bool (b.o 4)), .cell (w.heap.size + 1) 5 (.bool (b.o 5)), .cell (w.heap.size + 1) 6 (.bool (b.o 6)), .cell (w.heap.size + 1) 7 (.slice aRb b.nr cRb), .cell (w.heap.size + 1) 8 (.slice aDb b.nd cDb), .free (w.heap.size + 1) 0, .free (w.heap.size + 1) 1, .free (w.heap.size + 1) 2, .free (w.heap.size + 1) 3, .free (w.heap.size + 1) 4, .free (w.heap.size + 1) 5, .free (w.heap.size + 1) 6, .free (w.heap.size + 1) 7, .free (w.heap.size + 1) 8, .cell (w.heap.size) 0 (.bool (a.o 0)), .cell (w.heap.size) 1 (.bool (a.o 1)), .cell (w.heap.size) 2 (.bool (a.o 2)), .cell (w.heap.size) 3 (.bool (a.o 3)), .cell (w.heap.size) 4 (.bool (a.o 4)), .cell (w.heap.size) 5 (.bool (a.o 5)), .cell (w.heap.size) 6 (.bool (a.o 6)), .cell (w.heap.size) 7 (.slice aRa a.nr cRa), .cell (w.heap.size) 8 (.slice aDa a.nd cDa), .free (w.heap.size) 0, .free (w.heap.size) 1, .free (w.heap.size) 2, .free (w.heap.size) 3, .free (w.heap.size) 4, .free (w.heap.size) 5, .free (w.heap.size) 6, .free (w.heap.size) 7, .free (w.heap.size) 8, calF b aRb cRb aDb cDb, calF a aRa cRa aDa cDa, factsVF] w' → Held w [.cell (w.heap.size + 2) 0 (.bool false), .cell (w.heap.size + 2) 1 (.bool false), .cell (w.heap.size + 2) 2 (.bool false), .cell (w.heap.size + 2) 3 (.bool false), .cell (w.heap.size + 2) 4 (.bool false), .cell (w.heap.size + 2) 5 (.bool false), .cell (w.heap.size + 2) 6 (.bool false), .cell (w.heap.size + 2) 7 (.slice none 0 0), .cell (w.heap.size + 2) 8 (.slice none 0 0), .free (w.heap.size + 2) 0, .free (w.heap.size + 2) 1, .free (w.heap.size + 2) 2, .free (w.heap.size + 2) 3, .free (w.heap.size + 2) 4, .free (w.heap.size + 2) 5, .free (w.heap.size + 2) 6, .free (w.heap.size + 2) 7, .free (w.heap.size + 2) 8, .cell (w.heap.size + 1) 0 (.bool (b.o 0)), .cell (w.heap.size + 1) 1 (.bool (b.o 1)), .cell (w.heap.size + 1) 2 (.bool (b.o 2)), .cell (w.heap.size + 1) 3 (.bool (b.o 3)), .cell (w.heap.size + 1) 4 (.bool (b.o 4)), .cell (w.heap.size + 1) 5 (.bool (b.o 5)), .cell (w.heap.size + 1) 6 (.bool (b.o 6)), .cell (w.heap.size + 1) 7 (.slice aRb b.nr cRb), .cell (w.heap.size + 1) 8 (.slice aDb b.nd cDb), .free (w.heap.size + 1) 0, .free (w.heap.size + 1) 1, .free (w.heap.size + 1) 2, .free (w.heap.size + 1) 3, .free (w.heap.size + 1) 4, .free (w.heap.size + 1) 5, .free (w.heap.size + 1) 6, .free (w.heap.size + 1) 7, .free (w.heap.size + 1) 8, .cell (w.heap.size) 0 (.bool (a.o 0)), .cell (w.heap.size) 1 (.bool (a.o 1)), .cell (w.heap.size) 2 (.bool (a.o 2)), .cell (w.heap.size) 3 (.bool (a.o 3)), .cell (w.heap.size) 4 (.bool (a.o 4)), .cell (w.heap.size) 5 (.bool (a.o 5)), .cell (w.heap.size) 6 (.bool (a.o 6)), .cell (w.heap.size) 7 (.slice aRa a.nr cRa), .cell (w.heap.size) 8 (.slice aDa a.nd cDa), .free (w.heap.size) 0, .free (w.heap.size) 1, .free (w.heap.size) 2, .free (w.heap.size) 3, .free (w.heap.size) 4, .free (w.heap.size) 5, .free (w.heap.size) 6, .free (w.heap.size) 7, .free (w.heap.size) 8, calF b aRb cRb aDb cDb, calF a aRa cRa aDa cDa, factsVF] w') := Lib.hid (fun _ h => h.2.2.2.2.2.2.2.2.2.2.2.2.2.2.2.2.2.2)
  have KA : Hid (∀ w' : World, Held w [.cell (w.heap.size + 2) 0 (.bool false), .cell (w.heap.size + 2) 1 (.bool false), .cell (w.heap.size + 2) 2 (.bool false), .cell (w.heap.size + 2) 3 (.bool false), .cell (w.heap.size + 2) 4 (.bool false), .cell (w.heap.size + 2) 5 (.bool false), .cell (w.heap.size + 2) 6 (.bool false), .cell (w.heap.size + 2) 7 (.slice none 0 0), .cell (w.heap.size + 2) 8 (.slice none 0 0), .free (w.heap.size + 2) 0, .free (w.heap.size + 2) 1, .free (w.heap.size + 2) 2, .free (w.heap.size + 2) 3, .free (w.heap.size + 2) 4, .free (w.heap.size + 2) 5, .free (w.heap.size + 2) 6, .free (w.heap.size + 2) 7, .free (w.heap.size + 2) 8, .cell (w.heap.size + 1) 0 (.bool (b.o 0)), .cell (w.heap.size + 1) 1 (.bool (b.o 1)), .cell (w.heap.size + 1) 2 (.bool (b.o 2)), .cell (w.heap.size + 1) 3 (.bool (b.o 3)), .cell (w.heap.size + 1) 4 (.bool (b.o 4)), .cell (w.heap.size + 1) 5 (.bool (b.o 5)), .cell (w.heap.size + 1) 6 (.bool (b.o 6)), .cell (w.heap.size + 1) 7 (.slice aRb b.nr cRb), .cell (w.heap.size + 1) 8 (.slice aDb b.nd cDb), .free (w.heap.size + 1) 0, .free (w.heap.size + 1) 1, .free (w.heap.size + 1) 2, .free (w.heap.size + 1) 3, .free (w.heap.size + 1) 4, .free (w.heap.size + 1) 5, .free (w.heap.size + 1) 6, .free (w.heap.size + 1) 7, .free (w.heap.size + 1) 8, .cell (w.heap.size) 0 (.bool (a.o 0)), .cell (w.heap.size) 1 (.bool (a.o 1)), .cell (w.heap.size) 2 (.bool (a.o 2)), .cell (w.heap.size) 3 (.bool (a.o 3)), .cell (w.heap.size) 4 (.bool (a.o 4)), .cell (w.heap.size) 5 (.bool (a.o 5)), .cell (w.heap.size) 6 (.bool (a.o 6)), .cell (w.heap.size) 7 (.slice aRa a.nr cRa), .cell (w.heap.size) 8 (.slice aDa a.nd cDa), .free (w.heap.size) 0, .free (w.heap.size) 1, .free (w.heap.size) 2, .free (w.heap.size) 3, .free (w.heap.size) 4, .free (w.heap.size) 5, .free (w.heap.size) 6, .free (w.heap.size) 7, .free (w.heap.size) 8, calF b aRb cRb aDb cDb, calF a aRa cRa aDa cDa, factsVF] w' → CalAt w' a aRa cRa aDa cDa) := Lib.hid (fun w' h => h.cal (mt32 (mt8 (mt8 (mt1 (mt1 (mt1 (mt1 (mt1 (mt1 (mt1 mh)))))))))))
  have KB : Hid (∀ w' : World, Held w [.cell (w.heap.size + 2) 0 (.bool false), .cell (w.heap.size + 2) 1 (.bool false), .cell (w.heap.size + 2) 2 (.bool false), .cell (w.heap.size + 2) 3 (.bool false), .cell (w.heap.size + 2) 4 (.bool false), .cell (w.heap.size + 2) 5 (.bool false), .cell (w.heap.size + 2) 6 (.bool false), .cell (w.heap.size + 2) 7 (.slice none 0 0), .cell (w.heap.size + 2) 8 (.slice none 0 0), .free (w.heap.size + 2) 0, .free (w.heap.size + 2) 1, .free (w.heap.size + 2) 2, .free (w.heap.size + 2) 3, .free (w.heap.size + 2) 4, .free (w.heap.size + 2) 5, .free (w.heap.size + 2) 6, .free (w.heap.size + 2) 7, .free (w.heap.size + 2) 8, .cell (w.heap.size + 1) 0 (.bool (b.o 0)), .cell (w.heap.size + 1) 1 (.bool (b.o 1)), .cell (w.heap.size + 1) 2 (.bool (b.o 2)), .cell (w.heap.size + 1) 3 (.bool (b.o 3)), .cell (w.heap.size + 1) 4 (.bool (b.o 4)), .cell (w.heap.size + 1) 5 (.bool (b.o 5)), .cell (w.heap.size + 1) 6 (.bool (b.o 6)), .cell (w.heap.size + 1) 7 (.slice aRb b.nr cRb), .cell (w.heap.size + 1) 8 (.slice aDb b.nd cDb), .free (w.heap.size + 1) 0, .free (w.heap.size + 1) 1, .free (w.heap.size + 1) 2, .free (w.heap.size + 1) 3, .free (w.heap.size + 1) 4, .free (w.heap.size + 1) 5, .free (w.heap.size + 1) 6, .free (w.heap.size + 1) 7, .free (w.heap.size + 1) 8, .cell (w.heap.size) 0 (.bool (a.o 0)), .cell (w.heap.size) 1 (.bool (a.o 1)), .cell (w.heap.size) 2 (.bool (a.o 2)), .cell (w.heap.size) 3 (.bool (a.o 3)), .cell (w.heap.size) 4 (.bool (a.o 4)), .cell (w.heap.size) 5 (.bool (a.o 5)), .cell (w.heap.size) 6 (.bool (a.o 6)), .cell (w.heap.size) 7 (.slice aRa a.nr cRa), .cell (w.heap.size) 8 (.slice aDa a.nd cDa), .free (w.heap.size) 0, .free (w.heap.size) 1, .free (w.heap.size) 2, .free (w.heap.size) 3, .free (w.heap.size) 4, .free (w.heap.size) 5, .free (w.heap.size) 6, .free (w.heap.size) 7, .free (w.heap.size) 8, calF b aRb cRb aDb cDb, calF a aRa cRa aDa cDa, factsVF] w' → CalAt w' b aRb cRb aDb cDb) := Lib.hid (fun w' h => h.cal (mt32 (mt8 (mt8 (mt1 (mt1 (mt1 (mt1 (mt1 (mt1 mh))))))))))
  have KL : Hid (∀ w' : World, Held w [.cell (w.heap.size + 2) 0 (.bool false), .cell (w.heap.size + 2) 1 (.bool false), .cell (w.heap.size + 2) 2 (.bool false), .cell (w.heap.size + 2) 3 (.bool false), .cell (w.heap.size + 2) 4 (.bool false), .cell (w.heap.size + 2) 5 (.bool false), .cell (w.heap.size + 2) 6 (.bool false), .cell (w.heap.size + 2) 7 (.slice none 0 0), .cell (w.heap.size + 2) 8 (.slice none 0 0), .free (w.heap.size + 2) 0, .free (w.heap.size + 2) 1, .free (w.heap.size + 2) 2, .free (w.heap.size + 2) 3, .free (w.heap.size + 2) 4, .free (w.heap.size + 2) 5, .free (w.heap.size + 2) 6, .free (w.heap.size + 2) 7, .free (w.heap.size + 2) 8, .cell (w.heap.size + 1) 0 (.bool (b.o 0)), .cell (w.heap.size + 1) 1 (.bool (b.o 1)), .cell (w.heap.size + 1) 2 (.bool (b.o 2)), .cell (w.heap.size + 1) 3 (.bool (b.o 3)), .cell (w.heap.size + 1) 4 (.bool (b.o 4)), .cell (w.heap.size + 1) 5 (.bool (b.o 5)), .cell (w.heap.size + 1) 6 (.bool (b.o 6)), .cell (w.heap.size + 1) 7 (.slice aRb b.nr cRb), .cell (w.heap.size + 1) 8 (.slice aDb b.nd cDb), .free (w.heap.size + 1) 0, .free (w.heap.size + 1) 1, .free (w.heap.size + 1) 2, .free (w.heap.size + 1) 3, .free (w.heap.size + 1) 4, .free (w.heap.size + 1) 5, .free (w.heap.size + 1) 6, .free (w.heap.size + 1) 7, .free (w.heap.size + 1) 8, .cell (w.heap.size) 0 (.bool (a.o 0)), .cell (w.heap.size) 1 (.bool (a.o 1)), .cell (w.heap.size) 2 (.bool (a.o 2)), .cell (w.heap.size) 3 (.bool (a.o 3)), .cell (w.heap.size) 4 (.bool (a.o 4)), .cell (w.heap.size) 5 (.bool (a.o 5)), .cell (w.heap.size) 6 (.bool (a.o 6)), .cell (w.heap.size) 7 (.slice aRa a.nr cRa), .cell (w.heap.size) 8 (.slice aDa a.nd cDa), .free (w.heap.size) 0, .free (w.heap.size) 1, .free (w.heap.size) 2, .free (w.heap.size) 3, .free (w.heap.size) 4, .free (w.heap.size) 5, .free (w.heap.size) 6, .free (w.heap.size) 7, .free (w.heap.size) 8, calF b aRb cRb aDb cDb, calF a aRa cRa aDa cDa, factsVF] w' → w.heap.size + 1 + 1 < w'.heap.size) := Lib.hid (fun w' h => h.lt (w.heap.size + 2) 0 (.bool false) mh)
  have KR : Hid (∀ w' : World, Held w [.cell (w.heap.size + 2) 0 (.bool false), .cell (w.heap.size + 2) 1 (.bool false), .cell (w.heap.size + 2) 2 (.bool false), .cell (w.heap.size + 2) 3 (.bool false), .cell (w.heap.size + 2) 4 (.bool false), .cell (w.heap.size + 2) 5 (.bool false), .cell (w.heap.size + 2) 6 (.bool false), .cell (w.heap.size + 2) 7 (.slice none 0 0), .cell (w.heap.size + 2) 8 (.slice none 0 0), .free (w.heap.size + 2) 0, .free (w.heap.size + 2) 1, .free (w.heap.size + 2) 2, .free (w.heap.size + 2) 3, .free (w.heap.size + 2) 4, .free (w.heap.size + 2) 5, .free (w.heap.size + 2) 6, .free (w.heap.size + 2) 7, .free (w.heap.size + 2) 8, .cell (w.heap.size + 1) 0 (.bool (b.o 0)), .cell (w.heap.size + 1) 1 (.bool (b.o 1)), .cell (w.heap.size + 1) 2 (.bool (b.o 2)), .cell (w.heap.size + 1) 3 (.bool (b.o 3)), .cell (w.heap.size + 1) 4 (.bool (b.o 4)), .cell (w.heap.size + 1) 5 (.bool (b.o 5)), .cell (w.heap.size + 1) 6 (.bool (b.o 6)), .cell (w.heap.size + 1) 7 (.slice aRb b.nr cRb), .cell (w.heap.size + 1) 8 (.slice aDb b.nd cDb), .free (w.heap.size + 1) 0, .free (w.heap.size + 1) 1, .free (w.heap.size + 1) 2, .free (w.heap.size + 1) 3, .free (w.heap.size + 1) 4, .free (w.heap.size + 1) 5, .free (w.heap.size + 1) 6, .free (w.heap.size + 1) 7, .free (w.heap.size + 1) 8, .cell (w.heap.size) 0 (.bool (a.o 0)), .cell (w.heap.size) 1 (.bool (a.o 1)), .cell (w.heap.size) 2 (.bool (a.o 2)), .cell (w.heap.size) 3 (.bool (a.o 3)), .cell (w.heap.size) 4 (.bool (a.o 4)), .cell (w.heap.size) 5 (.bool (a.o 5)), .cell (w.heap.size) 6 (.bool (a.o 6)), .cell (w.heap.size) 7 (.slice aRa a.nr cRa), .cell (w.heap.size) 8 (.slice aDa a.nd cDa), .free (w.heap.size) 0, .free (w.heap.size) 1, .free (w.heap.size) 2, .free (w.heap.size) 3, .free (w.heap.size) 4, .free (w.heap.size) 5, .free (w.heap.size) 6, .free (w.heap.size) 7, .free (w.heap.size) 8, calF b aRb cRb aDb cDb, calF a aRa cRa aDa cDa, factsVF] w' → ArrAt w' (w.heap.size + 1 + 1) 9 zf) := Lib.hid (fun w' h k hk => by
    match k, hk with
    | 0, _ => exact ⟨h.cell (w.heap.size + 2) 0 (.bool false) mh, h.frozen (w.heap.size + 2) 0 (mt8 (mt1 mh))⟩
    | 1, _ => exact ⟨h.cell (w.heap.size + 2) 1 (.bool false) (mt1 mh), h.frozen (w.heap.size + 2) 1 (mt8 (mt1 (mt1 mh)))⟩
    | 2, _ => exact ⟨h.cell (w.heap.size + 2) 2 (.bool false) (mt1 (mt1 mh)), h.frozen (w.heap.size + 2) 2 (mt8 (mt1 (mt1 (mt1 mh))))⟩
    | 3, _ => exact ⟨h.cell (w.heap.size + 2) 3 (.bool false) (mt1 (mt1 (mt1 mh))), h.frozen (w.heap.size + 2) 3 (mt8 (mt1 (mt1 (mt1 (mt1 mh)))))⟩
    | 4, _ => exact ⟨h.cell (w.heap.size + 2) 4 (.bool false) (mt1 (mt1 (mt1 (mt1 mh)))), h.frozen (w.heap.size + 2) 4 (mt8 (mt1 (mt1 (mt1 (mt1 (mt1 mh))))))⟩
    | 5, _ => exact ⟨h.cell (w.heap.size + 2) 5 (.bool false) (mt1 (mt1 (mt1 (mt1 (mt1 mh))))), h.frozen (w.heap.size + 2) 5 (mt8 (mt1 (mt1 (mt1 (mt1 (mt1 (mt1 mh)))))))⟩
    | 6, _ => exact ⟨h.cell (w.heap.size + 2) 6 (.bool false) (mt1 (mt1 (mt1 (mt1 (mt1 (mt1 mh)))))), h.frozen (w.heap.size + 2) 6 (mt8 (mt1 (mt1 (mt1 (mt1 (mt1 (mt1 (mt1 mh))))))))⟩
    | 7, _ => exact ⟨h.cell (w.heap.size + 2) 7 (.slice none 0 0) (mt1 (mt1 (mt1 (mt1 (mt1 (mt1 (mt1 mh))))))), h.frozen (w.heap.size + 2) 7 (mt8 (mt8 mh))⟩
    | 8, _ => exact ⟨h.cell (w.heap.size + 2) 8 (.slice none 0 0) (mt8 mh), h.frozen (w.heap.size + 2) 8 (mt8 (mt8 (mt1 mh)))⟩)
  have KCa : Hid (∀ w' : World, Held w [.cell (w.heap.size + 2) 0 (.bool false), .cell (w.heap.size + 2) 1 (.bool false), .cell (w.heap.size + 2) 2 (.bool false), .cell (w.heap.size + 2) 3 (.bool false), .cell (w.heap.size + 2) 4 (.bool false), .cell (w.heap.size + 2) 5 (.bool false), .cell (w.heap.size + 2) 6 (.bool false), .cell (w.heap.size + 2) 7 (.slice none 0 0), .cell (w.heap.size + 2) 8 (.slice none 0 0), .free (w.heap.size + 2) 0, .free (w.heap.size + 2) 1, .free (w.heap.size + 2) 2, .free (w.heap.size + 2) 3, .free (w.heap.size + 2) 4, .free (w.heap.size + 2) 5, .free (w.heap.size + 2) 6, .free (w.heap.size + 2) 7, .free (w.heap.size + 2) 8, .cell (w.heap.size + 1) 0 (.bool (b.o 0)), .cell (w.heap.size + 1) 1 (.bool (b.o 1)), .cell (w.heap.size + 1) 2 (.bool (b.o 2)), .cell (w.heap.size + 1) 3 (.bool (b.o 3)), .cell (w.heap.size + 1) 4 (.bool (b.o 4)), .cell (w.heap.size + 1) 5 (.bool (b.o 5)), .cell (w.heap.size + 1) 6 (.bool (b.o 6)), .cell (w.heap.size + 1) 7 (.slice aRb b.nr cRb), .cell (w.heap.size + 1) 8 (.slice aDb b.nd cDb), .free (w.heap.size + 1) 0, .free (w.heap.size + 1) 1, .free (w.heap.size + 1) 2, .free (w.heap.size + 1) 3, .free (w.heap.size + 1) 4, .free (w.heap.size + 1) 5, .free (w.heap.size + 1) 6, .free (w.heap.size + 1) 7, .free (w.heap.size + 1) 8, .cell (w.heap.size) 0 (.bool (a.o 0)), .cell (w.heap.size) 1 (.bool (a.o 1)), .cell (w.heap.size) 2 (.bool (a.o 2)), .cell (w.heap.size) 3 (.bool (a.o 3)), .cell (w.heap.size) 4 (.bool (a.o 4)), .cell (w.heap.size) 5 (.bool (a.o 5)), .cell (w.heap.size) 6 (.bool (a.o 6)), .cell (w.heap.size) 7 (.slice aRa a.nr cRa), .cell (w.heap.size) 8 (.slice aDa a.nd cDa), .free (w.heap.size) 0, .free (w.heap.size) 1, .free (w.heap.size) 2, .free (w.heap.size) 3, .free (w.heap.size) 4, .free (w.heap.size) 5, .free (w.heap.size) 6, .free (w.heap.size) 7, .free (w.heap.size) 8, calF b aRb cRb aDb cDb, calF a aRa cRa aDa cDa, factsVF] w' → ∀ j, j < 7 → w'.cell? ⟨w.heap.size, j, none⟩ = some (.bool (a.o j))) := Lib.hid (fun w' h j hj => off_at hj (h.cell (w.heap.size) 0 (.bool (a.o 0)) (mt32 (mt1 (mt1 (mt1 (mt1 mh)))))) (h.cell (w.heap.size) 1 (.bool (a.o 1)) (mt32 (mt1 (mt1 (mt1 (mt1 (mt1 mh))))))) (h.cell (w.heap.size) 2 (.bool (a.o 2)) (mt32 (mt1 (mt1 (mt1 (mt1 (mt1 (mt1 mh)))))))) (h.cell (w.heap.size) 3 (.bool (a.o 3)) (mt32 (mt1 (mt1 (mt1 (mt1 (mt1 (mt1 (mt1 mh))))))))) (h.cell (w.heap.size) 4 (.bool (a.o 4)) (mt32 (mt8 mh))) (h.cell (w.heap.size) 5 (.bool (a.o 5)) (mt32 (mt8 (mt1 mh)))) (h.cell (w.heap.size) 6 (.bool (a.o 6)) (mt32 (mt8 (mt1 (mt1 mh))))))
  have KCb : Hid (∀ w' : World, Held w [.cell (w.heap.size + 2) 0 (.bool false), .cell (w.heap.size + 2) 1 (.bool false), .cell (w.heap.size + 2) 2 (.bool false), .cell (w.heap.size + 2) 3 (.bool false), .cell (w.heap.size + 2) 4 (.bool false), .cell (w.heap.size + 2) 5 (.bool false), .cell (w.heap.size + 2) 6 (.bool false), .cell (w.heap.size + 2) 7 (.slice none 0 0), .cell (w.heap.size + 2) 8 (.slice none 0 0), .free (w.heap.size + 2) 0, .free (w.heap.size + 2) 1, .free (w.heap.size + 2) 2, .free (w.heap.size + 2) 3, .free (w.heap.size + 2) 4, .free (w.heap.size + 2) 5, .free (w.heap.size + 2) 6, .free (w.heap.size + 2) 7, .free (w.heap.size + 2) 8, .cell (w.heap.size + 1) 0 (.bool (b.o 0)), .cell (w.heap.size + 1) 1 (.bool (b.o 1)), .cell (w.heap.size + 1) 2 (.bool (b.o 2)), .cell (w.heap.size + 1) 3 (.bool (b.o 3)), .cell (w.heap.size + 1) 4 (.bool (b.o 4)), .cell (w.heap.size + 1) 5 (.bool (b.o 5)), .cell (w.heap.size + 1) 6 (.bool (b.o 6)), .cell (w.heap.size + 1) 7 (.slice aRb b.nr cRb), .cell (w.heap.size + 1) 8 (.slice aDb b.nd cDb), .free (w.heap.size + 1) 0, .free (w.heap.size + 1) 1, .free (w.heap.size + 1) 2, .free (w.heap.size + 1) 3, .free (w.heap.size + 1) 4, .free (w.heap.size + 1) 5, .free (w.heap.size + 1) 6, .free (w.heap.size + 1) 7, .free (w.heap.size + 1) 8, .cell (w.heap.size) 0 (.bool (a.o 0)), .cell (w.heap.size) 1 (.bool (a.o 1)), .cell (w.heap.size) 2 (.bool (a.o 2)), .cell (w.heap.size) 3 (.bool (a.o 3)), .cell (w.heap.size) 4 (.bool (a.o 4)), .cell (w.heap.size) 5 (.bool (a.o 5)), .cell (w.heap.size) 6 (.bool (a.o 6)), .cell (w.heap.size) 7 (.slice aRa a.nr cRa), .cell (w.heap.size) 8 (.slice aDa a.nd cDa), .free (w.heap.size) 0, .free (w.heap.size) 1, .free (w.heap.size) 2, .free (w.heap.size) 3, .free (w.heap.size) 4, .free (w.heap.size) 5, .free (w.heap.size) 6, .free (w.heap.size) 7, .free (w.heap.size) 8, calF b aRb cRb aDb cDb, calF a aRa cRa aDa cDa, factsVF] w' → ∀ j, j < 7 → w'.cell? ⟨w.heap.size + 1, j, none⟩ = some (.bool (b.o j))) := Lib.hid (fun w' h j hj => off_at hj (h.cell (w.heap.size + 1) 0 (.bool (b.o 0)) (mt8 (mt8 (mt1 (mt1 mh))))) (h.cell (w.heap.size + 1) 1 (.bool (b.o 1)) (mt8 (mt8 (mt1 (mt1 (mt1 mh)))))) (h.cell (w.heap.size + 1) 2 (.bool (b.o 2)) (mt8 (mt8 (mt1 (mt1 (mt1 (mt1 mh))))))) (h.cell (w.heap.size + 1) 3 (.bool (b.o 3)) (mt8 (mt8 (mt1 (mt1 (mt1 (mt1 (mt1 mh)))))))) (h.cell (w.heap.size + 1) 4 (.bool (b.o 4)) (mt8 (mt8 (mt1 (mt1 (mt1 (mt1 (mt1 (mt1 mh))))))))) (h.cell (w.heap.size + 1) 5 (.bool (b.o 5)) (mt8 (mt8 (mt1 (mt1 (mt1 (mt1 (mt1 (mt1 (mt1 mh)))))))))) (h.cell (w.heap.size + 1) 6 (.bool (b.o 6)) (mt8 (mt8 (mt8 mh)))))
  have KO : Hid (∀ g : Nat, w.heap.size + 1 + 1 < g → ∀ f ∈ ([.cell (w.heap.size + 2) 0 (.bool false), .cell (w.heap.size + 2) 1 (.bool false), .cell (w.heap.size + 2) 2 (.bool false), .cell (w.heap.size + 2) 3 (.bool false), .cell (w.heap.size + 2) 4 (.bool false), .cell (w.heap.size + 2) 5 (.bool false), .cell (w.heap.size + 2) 6 (.bool false), .cell (w.heap.size + 2) 7 (.slice none 0 0), .cell (w.heap.size + 2) 8 (.slice none 0 0), .free (w.heap.size + 2) 0, .free (w.heap.size + 2) 1, .free (w.heap.size + 2) 2, .free (w.heap.size + 2) 3, .free (w.heap.size + 2) 4, .free (w.heap.size + 2) 5, .free (w.heap.size + 2) 6, .free (w.heap.size + 2) 7, .free (w.heap.size + 2) 8, .cell (w.heap.size + 1) 0 (.bool (b.o 0)), .cell (w.heap.size + 1) 1 (.bool (b.o 1)), .cell (w.heap.size + 1) 2 (.bool (b.o 2)), .cell (w.heap.size + 1) 3 (.bool (b.o 3)), .cell (w.heap.size + 1) 4 (.bool (b.o 4)), .cell (w.heap.size + 1) 5 (.bool (b.o 5)), .cell (w.heap.size + 1) 6 (.bool (b.o 6)), .cell (w.heap.size + 1) 7 (.slice aRb b.nr cRb), .cell (w.heap.size + 1) 8 (.slice aDb b.nd cDb), .free (w.heap.size + 1) 0, .free (w.heap.size + 1) 1, .free (w.heap.size + 1) 2, .free (w.heap.size + 1) 3, .free (w.heap.size + 1) 4, .free (w.heap.size + 1) 5, .free (w.heap.size + 1) 6, .free (w.heap.size + 1) 7, .free (w.heap.size + 1) 8, .cell (w.heap.size) 0 (.bool (a.o 0)), .cell (w.heap.size) 1 (.bool (a.o 1)), .cell (w.heap.size) 2 (.bool (a.o 2)), .cell (w.heap.size) 3 (.bool (a.o 3)), .cell (w.heap.size) 4 (.bool (a.o 4)), .cell (w.heap.size) 5 (.bool (a.o 5)), .cell (w.heap.size) 6 (.bool (a.o 6)), .cell (w.heap.size) 7 (.slice aRa a.nr cRa), .cell (w.heap.size) 8 (.slice aDa a.nd cDa), .free (w.heap.size) 0, .free (w.heap.size) 1, .free (w.heap.size) 2, .free (w.heap.size) 3, .free (w.heap.size) 4, .free (w.heap.size) 5, .free (w.heap.size) 6, .free (w.heap.size) 7, .free (w.heap.size) 8, calF b aRb cRb aDb cDb, calF a aRa cRa aDa cDa, factsVF] : List Fact), f.off g ∨ f.at w) := Lib.hid (by
    intro g hg f hf
    simp only [List.mem_cons, List.not_mem_nil, or_false] at hf
    rcases hf with rfl | rfl | rfl | rfl | rfl | rfl | rfl | rfl | rfl | rfl | rfl | rfl | rfl | rfl | rfl | rfl | rfl | rfl | rfl | rfl | rfl | rfl | rfl | rfl | rfl | rfl | rfl | rfl | rfl | rfl | rfl | rfl | rfl | rfl | rfl | rfl | rfl | rfl | rfl | rfl | rfl | rfl | rfl | rfl | rfl | rfl | rfl | rfl | rfl | rfl | rfl | rfl | rfl | rfl | rfl | rfl | rfl
    all_goals first
      | exact Or.inl (show _ ≠ _ by omega)
      | exact Or.inl trivial
      | exact Or.inr HI.out.1
      | exact Or.inr HI.out.2.1
      | exact Or.inr HI.out.2.2)
  refine wp_region_held_drew (S := fun w' => w'.cell? ⟨w.heap.size, 0, none⟩ = some (.bool (a.o 0)) ∧ w'.cell? ⟨w.heap.size, 1, none⟩ = some (.bool (a.o 1)) ∧ w'.cell? ⟨w.heap.size, 2, none⟩ = some (.bool (a.o 2)) ∧ w'.cell? ⟨w.heap.size, 3, none⟩ = some (.bool (a.o 3)) ∧ w'.cell? ⟨w.heap.size, 4, none⟩ = some (.bool (a.o 4)) ∧ w'.cell? ⟨w.heap.size, 5, none⟩ = some (.bool (a.o 5)) ∧ w'.cell? ⟨w.heap.size, 6, none⟩ = some (.bool (a.o 6)) ∧ w'.cell? ⟨w.heap.size, 7, none⟩ = some (.slice aRa a.nr cRa) ∧ w'.cell? ⟨w.heap.size, 8, none⟩ = some (.slice aDa a.nd cDa) ∧ w'.cell? ⟨w.heap.size + 1, 0, none⟩ = some (.bool (b.o 0)) ∧ w'.cell? ⟨w.heap.size + 1, 1, none⟩ = some (.bool (b.o 1)) ∧ w'.cell? ⟨w.heap.size + 1, 2, none⟩ = some (.bool (b.o 2)) ∧ w'.cell? ⟨w.heap.size + 1, 3, none⟩ = some (.bool (b.o 3)) ∧ w'.cell? ⟨w.heap.size + 1, 4, none⟩ = some (.bool (b.o 4)) ∧ w'.cell? ⟨w.heap.size + 1, 5, none⟩ = some (.bool (b.o 5)) ∧ w'.cell? ⟨w.heap.size + 1, 6, none⟩ = some (.bool (b.o 6)) ∧ w'.cell? ⟨w.heap.size + 1, 7, none⟩ = some (.slice aRb b.nr cRb) ∧ w'.cell? ⟨w.heap.size + 1, 8, none⟩ = some (.slice aDb b.nd cDb) ∧ Held w [.cell (w.heap.size + 2) 0 (.bool false), .cell (w.heap.size + 2) 1 (.bool false), .cell (w.heap.size + 2) 2 (.bool false), .cell (w.heap.size + 2) 3 (.bool false), .cell (w.heap.size + 2) 4 (.bool false), .cell (w.heap.size + 2) 5 (.bool false), .cell (w.heap.size + 2) 6 (.bool false), .cell (w.heap.size + 2) 7 (.slice none 0 0), .cell (w.heap.size + 2) 8 (.slice none 0 0), .free (w.heap.size + 2) 0, .free (w.heap.size + 2) 1, .free (w.heap.size + 2) 2, .free (w.heap.size + 2) 3, .free (w.heap.size + 2) 4, .free (w.heap.size + 2) 5, .free (w.heap.size + 2) 6, .free (w.heap.size + 2) 7, .free (w.heap.size + 2) 8, .cell (w.heap.size + 1) 0 (.bool (b.o 0)), .cell (w.heap.size + 1) 1 (.bool (b.o 1)), .cell (w.heap.size + 1) 2 (.bool (b.o 2)), .cell (w.heap.size + 1) 3 (.bool (b.o 3)), .cell (w.heap.size + 1) 4 (.bool (b.o 4)), .cell (w.heap.size + 1) 5 (.bool (b.o 5)), .cell (w.heap.size + 1) 6 (.bool (b.o 6)), .cell (w.heap.size + 1) 7 (.slice aRb b.nr cRb), .cell (w.heap.size + 1) 8 (.slice aDb b.nd cDb), .free (w.heap.size + 1) 0, .free (w.heap.size + 1) 1, .free (w.heap.size + 1) 2, .free (w.heap.size + 1) 3, .free (w.heap.size + 1) 4, .free (w.heap.size + 1) 5, .free (w.heap.size + 1) 6, .free (w.heap.size + 1) 7, .free (w.heap.size + 1) 8, .cell (w.heap.size) 0 (.bool (a.o 0)), .cell (w.heap.size) 1 (.bool (a.o 1)), .cell (w.heap.size) 2 (.bool (a.o 2)), .cell (w.heap.size) 3 (.bool (a.o 3)), .cell (w.heap.size) 4 (.bool (a.o 4)), .cell (w.heap.size) 5 (.bool (a.o 5)), .cell (w.heap.size) 6 (.bool (a.o 6)), .cell (w.heap.size) 7 (.slice aRa a.nr cRa), .cell (w.heap.size) 8 (.slice aDa a.nd cDa), .free (w.heap.size) 0, .free (w.heap.size) 1, .free (w.heap.size) 2, .free (w.heap.size) 3, .free (w.heap.size) 4, .free (w.heap.size) 5, .free (w.heap.size) 6, .free (w.heap.size) 7, .free (w.heap.size) 8, calF b aRb cRb aDb cDb, calF a aRa cRa aDa cDa, factsVF] w') (by kernel_rfl) (KS.out _ H.drew) (fun hHeld => ?_)
  clear H
  refine wpAnyH_take (i := 1) (oi := ⟨some 10, _, _, _, _, _⟩) (v := ?_) rfl (by kernel_rfl) (by kernel_rfl) (by kernel_rfl) (fun _ _ _ h => h) (Or.inl ⟨by rfl, ?_⟩) (by assumption) ?_
  rotate_left
  · intro w hSw; (try dsimp only at hSw); go_simp; try with_reducible rfl
  simp only [Act.put, List.setIfInBounds_toArray, List.set_cons_zero, List.set_cons_succ]
  refine wpAnyH_take (i := 2) (oi := ⟨some 11, _, _, _, _, _⟩) (v := ?_) rfl (by kernel_rfl) (by kernel_rfl) (by kernel_rfl) (fun _ _ _ h => h) (Or.inl ⟨by rfl, ?_⟩) (by assumption) ?_
  rotate_left
  · intro w hSw; (try dsimp only at hSw); go_simp; try with_reducible rfl
  simp only [Act.put, List.setIfInBounds_toArray, List.set_cons_zero, List.set_cons_succ]
  refine wpAnyH_take (i := 4) (oi := ⟨some 13, _, _, _, _, _⟩) (v := ?_) rfl (by kernel_rfl) (by kernel_rfl) (by kernel_rfl) (fun _ _ _ h => h) (Or.inl ⟨by rfl, ?_⟩) (by assumption) ?_
  rotate_left
  · intro w hSw; (try dsimp only at hSw); go_simp; try with_reducible rfl
  simp only [Act.put, List.setIfInBounds_toArray, List.set_cons_zero, List.set_cons_succ]
  refine wpAnyH_take (i := 5) (oi := ⟨some 14, _, _, _, _, _⟩) (v := ?_) rfl (by kernel_rfl) (by kernel_rfl) (by kernel_rfl) (fun _ _ _ h => h) (Or.inl ⟨by rfl, ?_⟩) (by assumption) ?_
  rotate_left
  · intro w hSw; (try dsimp only at hSw); go_simp; try with_reducible rfl
  simp only [Act.put, List.setIfInBounds_toArray, List.set_cons_zero, List.set_cons_succ]
  refine wpAnyH_take (i := 7) (oi := ⟨some 16, _, _, _, _, _⟩) (v := ?_) rfl (by kernel_rfl) (by kernel_rfl) (by kernel_rfl) (fun _ _ _ h => h) (Or.inl ⟨by rfl, ?_⟩) (by assumption) ?_
  rotate_left
  · intro w hSw; (try dsimp only at hSw); go_simp; try with_reducible rfl
  simp only [Act.put, List.setIfInBounds_toArray, List.set_cons_zero, List.set_cons_succ]
  refine wpAnyH_take (i := 8) (oi := ⟨some 17, _, _, _, _, _⟩) (v := ?_) rfl (by kernel_rfl) (by kernel_rfl) (by kernel_rfl) (fun _ _ _ h => h) (Or.inl ⟨by rfl, ?_⟩) (by assumption) ?_
  rotate_left
  · intro w hSw; (try dsimp only at hSw); go_simp; try with_reducible rfl
  simp only [Act.put, List.setIfInBounds_toArray, List.set_cons_zero, List.set_cons_succ]
  refine wpAnyH_take (i := 9) (oi := ⟨some 18, _, _, _, _, _⟩) (v := ?_) rfl (by kernel_rfl) (by kernel_rfl) (by kernel_rfl) (fun _ _ _ h => h) (Or.inl ⟨by rfl, ?_⟩) (by assumption) ?_
  rotate_left
  · intro w hSw; (try dsimp only at hSw); go_simp; try with_reducible rfl
  simp only [Act.put, List.setIfInBounds_toArray, List.set_cons_zero, List.set_cons_succ]
  refine wpAnyH_take (i := 10) (oi := ⟨some 19, _, _, _, _, _⟩) (v := ?_) rfl (by kernel_rfl) (by kernel_rfl) (by kernel_rfl) (fun _ _ _ h => h) (Or.inl ⟨by rfl, ?_⟩) (by assumption) ?_
  rotate_left
  · intro w hSw; (try dsimp only at hSw); go_simp; try with_reducible rfl
  simp only [Act.put, List.setIfInBounds_toArray, List.set_cons_zero, List.set_cons_succ]
  have H := KH.out _ hHeld
  clear hHeld
  refine capA (fun G A W0 hG hA hW => ?_)
  rw [← hW] at H
  have HG := Lib.hid hG
  have HA := Lib.hid hA
  clear hG hA hW
  obtain ⟨i0, hi, hz0, hz1, hz2⟩ := info_parts infoRule
  have RA := Lib.hid (row_rules (KA.out _ H).1)
  have RB := Lib.hid (row_rules (KB.out _ H).1)
  have wl := KL.out _ H
  have H0 := Lib.hid H
  clear H
  have Z311 : Hid (∀ (W : World) (g0 : Nat) (v1 : Value) (ao2 : Option Addr) (cap2 : Nat) (ao3 : Option Addr) (cap3 : Nat) (g6 : Nat), Below W0.heap.size W0 W → RulesAt W ao2 (both a.R b.R a.nr) (a.nr + b.nr) cap2 → Rj W0.heap.size W ao2 → DaysAt W ao3 (ld (mg (dl a.X a.nd) (dl b.X b.nd))) (mg (dl a.X a.nd) (dl b.X b.nd)).length cap3 → Rj W0.heap.size W ao3 → ArrAt W g6 9 zf → W0.heap.size ≤ g6 → Rn g6 ao2 → Rn g6 ao3 → G 1 #[true, true, true, true, true, true, true, true, true, true, true, true, true, true, false] (Act.put (Act.put (Act.put (Act.put (Act.put (Act.put A (some 9) (.slice (some ⟨g0, 0, none⟩) 0 0)) (some 12) v1) (some 15) (.slice ao2 (a.nr + b.nr) cap2)) (some 20) (.slice ao3 (mg (dl a.X a.nd) (dl b.X b.nd)).length cap3)) (some 21) (.agg #[.bool false, .bool false, .bool false, .bool false, .bool false, .bool false, .bool false, .slice ao2 (a.nr + b.nr) cap2, .slice ao3 (mg (dl a.X a.nd) (dl b.X b.nd)).length cap3])) (some 6) (.pointer (some ⟨g6, 0, none⟩))) W) := Lib.hid (by
    intro W g0 v1 ao2 cap2 ao3 cap3 g6 B r2 k2 r3 k3 zz zg n2 n3
    have H : Held w [.cell (w.heap.size + 2) 0 (.bool false), .cell (w.heap.size + 2) 1 (.bool false), .cell (w.heap.size + 2) 2 (.bool false), .cell (w.heap.size + 2) 3 (.bool false), .cell (w.heap.size + 2) 4 (.bool false), .cell (w.heap.size + 2) 5 (.bool false), .cell (w.heap.size + 2) 6 (.bool false), .cell (w.heap.size + 2) 7 (.slice none 0 0), .cell (w.heap.size + 2) 8 (.slice none 0 0), .free (w.heap.size + 2) 0, .free (w.heap.size + 2) 1, .free (w.heap.size + 2) 2, .free (w.heap.size + 2) 3, .free (w.heap.size + 2) 4, .free (w.heap.size + 2) 5, .free (w.heap.size + 2) 6, .free (w.heap.size + 2) 7, .free (w.heap.size + 2) 8, .cell (w.heap.size + 1) 0 (.bool (b.o 0)), .cell (w.heap.size + 1) 1 (.bool (b.o 1)), .cell (w.heap.size + 1) 2 (.bool (b.o 2)), .cell (w.heap.size + 1) 3 (.bool (b.o 3)), .cell (w.heap.size + 1) 4 (.bool (b.o 4)), .cell (w.heap.size + 1) 5 (.bool (b.o 5)), .cell (w.heap.size + 1) 6 (.bool (b.o 6)), .cell (w.heap.size + 1) 7 (.slice aRb b.nr cRb), .cell (w.heap.size + 1) 8 (.slice aDb b.nd cDb), .free (w.heap.size + 1) 0, .free (w.heap.size + 1) 1, .free (w.heap.size + 1) 2, .free (w.heap.size + 1) 3, .free (w.heap.size + 1) 4, .free (w.heap.size + 1) 5, .free (w.heap.size + 1) 6, .free (w.heap.size + 1) 7, .free (w.heap.size + 1) 8, .cell (w.heap.size) 0 (.bool (a.o 0)), .cell (w.heap.size) 1 (.bool (a.o 1)), .cell (w.heap.size) 2 (.bool (a.o 2)), .cell (w.heap.size) 3 (.bool (a.o 3)), .cell (w.heap.size) 4 (.bool (a.o 4)), .cell (w.heap.size) 5 (.bool (a.o 5)), .cell (w.heap.size) 6 (.bool (a.o 6)), .cell (w.heap.size) 7 (.slice aRa a.nr cRa), .cell (w.heap.size) 8 (.slice aDa a.nd cDa), .free (w.heap.size) 0, .free (w.heap.size) 1, .free (w.heap.size) 2, .free (w.heap.size) 3, .free (w.heap.size) 4, .free (w.heap.size) 5, .free (w.heap.size) 6, .free (w.heap.size) 7, .free (w.heap.size) 8, calF b aRb cRb aDb cDb, calF a aRa cRa aDa cDa, factsVF] W := H0.out.below B
    rw [HG.out, HA.out]
    (try simp only [Act.put, List.setIfInBounds_toArray, List.set_cons_zero, List.set_cons_succ])
    refine wpAnyH_ready (rs := [14]) (by kernel_rfl) (by simp) ?_
    refine AllReadyH.cons (o := ⟨none, _, _, _, _, _⟩) rfl (fun K hK => ?_) AllReadyH.nil
    have zw : w.heap.size + 1 + 1 < g6 := Nat.lt_of_lt_of_le wl zg
    have H9 := H.set9 g6 (fun k => ([.bool false, .bool false, .bool false, .bool false, .bool false, .bool false, .bool false, .slice ao2 (a.nr + b.nr) cap2, .slice ao3 (mg (dl a.X a.nd) (dl b.X b.nd)).length cap3] : List Value).getD k undef) (by omega) (KO.out _ zw)
    have Z9 : ArrAt _ g6 9 (uf a.o b.o (.slice ao2 (a.nr + b.nr) cap2) (.slice ao3 (mg (dl a.X a.nd) (dl b.X b.nd)).length cap3) 0) := (zz.set9 (fun k => ([.bool false, .bool false, .bool false, .bool false, .bool false, .bool false, .bool false, .slice ao2 (a.nr + b.nr) cap2, .slice ao3 (mg (dl a.X a.nd) (dl b.X b.nd)).length cap3] : List Value).getD k undef)).ext (fun k hk => by
      match k, hk with
      | 0, _ => rfl
      | 1, _ => rfl
      | 2, _ => rfl
      | 3, _ => rfl
      | 4, _ => rfl
      | 5, _ => rfl
      | 6, _ => rfl
      | 7, _ => rfl
      | 8, _ => rfl)
    have C9 : CalAt _ (a.un b) ao2 cap2 ao3 cap3 := ⟨r2.set9 g6 (fun k => ([.bool false, .bool false, .bool false, .bool false, .bool false, .bool false, .bool false, .slice ao2 (a.nr + b.nr) cap2, .slice ao3 (mg (dl a.X a.nd) (dl b.X b.nd)).length cap3] : List Value).getD k undef) n2, r3.set9 g6 (fun k => ([.bool false, .bool false, .bool false, .bool false, .bool false, .bool false, .bool false, .slice ao2 (a.nr + b.nr) cap2, .slice ao3 (mg (dl a.X a.nd) (dl b.X b.nd)).length cap3] : List Value).getD k undef) n3⟩
    have hH := Lib.hid H9
    have hZ := Lib.hid Z9
    have hC := Lib.hid C9
    clear H9 Z9 C9
    refine wp_store_mid 26 (.tmp 6) (.tmp 21) rfl g6 0 #[.bool false, .bool false, .bool false, .bool false, .bool false, .bool false, .bool false, .slice ao2 (a.nr + b.nr) cap2, .slice ao3 (mg (dl a.X a.nd) (dl b.X b.nd)).length cap3] rfl rfl (fun j hj => ⟨by rw [Nat.zero_add, (zz j hj).1]; rfl, by rw [Nat.zero_add]; exact (zz j hj).2⟩) (by kernel_rfl) (by simp [Value.oneCell']) ?_
    rw [show W.setCells g6 0 (#[.bool false, .bool false, .bool false, .bool false, .bool false, .bool false, .bool false, .slice ao2 (a.nr + b.nr) cap2, .slice ao3 (mg (dl a.X a.nd) (dl b.X b.nd)).length cap3] : Array Value).toList = set9 W g6 (fun k => ([.bool false, .bool false, .bool false, .bool false, .bool false, .bool false, .bool false, .slice ao2 (a.nr + b.nr) cap2, .slice ao3 (mg (dl a.X a.nd) (dl b.X b.nd)).length cap3] : List Value).getD k undef) from rfl]
    generalize set9 W g6 (fun k => ([.bool false, .bool false, .bool false, .bool false, .bool false, .bool false, .bool false, .slice ao2 (a.nr + b.nr) cap2, .slice ao3 (mg (dl a.X a.nd) (dl b.X b.nd)).length cap3] : List Value).getD k undef) = W9 at hH hZ hC ⊢
    refine hK.out _ _ (KS.out _ hH.out) (fun _ => ?_)
    clear hK K
    (try simp only [Act.put, List.setIfInBounds_toArray, List.set_cons_zero, List.set_cons_succ])
    refine wpAnyH_done (by kernel_rfl) ?_ _
    have ob := Lib.hid (show Rn (w.heap.size + 2) ao2 from fun p hp => Nat.ne_of_gt (Nat.lt_of_lt_of_le wl (k2 p hp).1))
    have oc := Lib.hid (show Rn (w.heap.size + 2) ao3 from fun p hp => Nat.ne_of_gt (Nat.lt_of_lt_of_le wl (k3 p hp).1))
    have m2 := Lib.hid n2
    have m3 := Lib.hid n3
    clear H zz r2 r3 k2 k3 n2 n3 B
    go_wp2_with fail
    go_loopw [7] (fun i W' => ∃ j : Nat, j ≤ 7 ∧ i = .int .i64 j ∧ ArrAt W' g6 9 (uf a.o b.o (.slice ao2 (a.nr + b.nr) cap2) (.slice ao3 (mg (dl a.X a.nd) (dl b.X b.nd)).length cap3) j) ∧ Held w [.cell (w.heap.size + 2) 0 (.bool false), .cell (w.heap.size + 2) 1 (.bool false), .cell (w.heap.size + 2) 2 (.bool false), .cell (w.heap.size + 2) 3 (.bool false), .cell (w.heap.size + 2) 4 (.bool false), .cell (w.heap.size + 2) 5 (.bool false), .cell (w.heap.size + 2) 6 (.bool false), .cell (w.heap.size + 2) 7 (.slice none 0 0), .cell (w.heap.size + 2) 8 (.slice none 0 0), .free (w.heap.size + 2) 0, .free (w.heap.size + 2) 1, .free (w.heap.size + 2) 2, .free (w.heap.size + 2) 3, .free (w.heap.size + 2) 4, .free (w.heap.size + 2) 5, .free (w.heap.size + 2) 6, .free (w.heap.size + 2) 7, .free (w.heap.size + 2) 8, .cell (w.heap.size + 1) 0 (.bool (b.o 0)), .cell (w.heap.size + 1) 1 (.bool (b.o 1)), .cell (w.heap.size + 1) 2 (.bool (b.o 2)), .cell (w.heap.size + 1) 3 (.bool (b.o 3)), .cell (w.heap.size + 1) 4 (.bool (b.o 4)), .cell (w.heap.size + 1) 5 (.bool (b.o 5)), .cell (w.heap.size + 1) 6 (.bool (b.o 6)), .cell (w.heap.size + 1) 7 (.slice aRb b.nr cRb), .cell (w.heap.size + 1) 8 (.slice aDb b.nd cDb), .free (w.heap.size + 1) 0, .free (w.heap.size + 1) 1, .free (w.heap.size + 1) 2, .free (w.heap.size + 1) 3, .free (w.heap.size + 1) 4, .free (w.heap.size + 1) 5, .free (w.heap.size + 1) 6, .free (w.heap.size + 1) 7, .free (w.heap.size + 1) 8, .cell (w.heap.size) 0 (.bool (a.o 0)), .cell (w.heap.size) 1 (.bool (a.o 1)), .cell (w.heap.size) 2 (.bool (a.o 2)), .cell (w.heap.size) 3 (.bool (a.o 3)), .cell (w.heap.size) 4 (.bool (a.o 4)), .cell (w.heap.size) 5 (.bool (a.o 5)), .cell (w.heap.size) 6 (.bool (a.o 6)), .cell (w.heap.size) 7 (.slice aRa a.nr cRa), .cell (w.heap.size) 8 (.slice aDa a.nd cDa), .free (w.heap.size) 0, .free (w.heap.size) 1, .free (w.heap.size) 2, .free (w.heap.size) 3, .free (w.heap.size) 4, .free (w.heap.size) 5, .free (w.heap.size) 6, .free (w.heap.size) 7, .free (w.heap.size) 8, calF b aRb cRb aDb cDb, calF a aRa cRa aDa cDa, factsVF] W' ∧ CalAt W' (a.un b) ao2 cap2 ao3 cap3) (fun i _ => 7 - (intOf i).toNat)
    case atStart => exact ⟨0, by omega, rfl, hZ.out, hH.out, hC.out⟩
    case round =>
      clear hZ hH hC
      obtain ⟨j, j7, rfl, AR, H, CU⟩ := hrel
      by_cases hj : j < 7
      · skip
        have ka := KCa.out _ H j hj
        have kb := KCb.out _ H j hj
        have la := cell_lt ka
        have lb := cell_lt kb
        have q0 := (AR j (by omega)).1
        rw [uf_at hj] at q0
        have f0 := (AR j (by omega)).2
        have lq := cell_lt q0
        have N1 := Lib.hid ((AR.set (j := j) (by omega) (.bool (a.o j || b.o j))).ext (fun k _ => uf_up a.o b.o (.slice ao2 (a.nr + b.nr) cap2) (.slice ao3 (mg (dl a.X a.nd) (dl b.X b.nd)).length cap3) j hj k))
        have N2 := Lib.hid (H.set13 g6 j (.bool (a.o j || b.o j)) (by omega) (KO.out _ zw))
        have N3 := Lib.hid (show CalAt _ (a.un b) ao2 cap2 ao3 cap3 from ⟨RulesAt.set1 CU.1 g6 j (.bool (a.o j || b.o j)) m2.out, DaysAt.set1 CU.2 g6 j (.bool (a.o j || b.o j)) m3.out⟩)
        clear AR H CU
        obtain ⟨p, hp⟩ : ∃ p, a.o j = p := ⟨_, rfl⟩
        obtain ⟨q, hq⟩ : ∃ q, b.o j = q := ⟨_, rfl⟩
        rw [hp] at ka N1 N2 N3
        rw [hq] at kb N1 N2 N3
        clear hp hq
        cases p with
        | true =>
          rw [Bool.true_or] at N1 N2 N3
          go_wp2
          go_roundw
          case rel => exact ⟨j + 1, by omega, by go_num, N1.out, N2.out, N3.out⟩
          case measure => simp [intOf]; omega
        | false =>
          rw [Bool.false_or] at N1 N2 N3
          go_wp2
          go_roundw
          case rel => exact ⟨j + 1, by omega, by go_num, N1.out, N2.out, N3.out⟩
          case measure => simp [intOf]; omega
      · skip
        obtain rfl : j = 7 := by omega
        have x0 : wr.cell? ⟨g6, 0, none⟩ = some (.bool (a.o 0 || b.o 0)) := (AR 0 (by decide)).1
        have x1 : wr.cell? ⟨g6, 1, none⟩ = some (.bool (a.o 1 || b.o 1)) := (AR 1 (by decide)).1
        have x2 : wr.cell? ⟨g6, 2, none⟩ = some (.bool (a.o 2 || b.o 2)) := (AR 2 (by decide)).1
        have x3 : wr.cell? ⟨g6, 3, none⟩ = some (.bool (a.o 3 || b.o 3)) := (AR 3 (by decide)).1
        have x4 : wr.cell? ⟨g6, 4, none⟩ = some (.bool (a.o 4 || b.o 4)) := (AR 4 (by decide)).1
        have x5 : wr.cell? ⟨g6, 5, none⟩ = some (.bool (a.o 5 || b.o 5)) := (AR 5 (by decide)).1
        have x6 : wr.cell? ⟨g6, 6, none⟩ = some (.bool (a.o 6 || b.o 6)) := (AR 6 (by decide)).1
        have x7 : wr.cell? ⟨g6, 7, none⟩ = some (.slice ao2 (a.nr + b.nr) cap2) := (AR 7 (by decide)).1
        have x8 : wr.cell? ⟨g6, 8, none⟩ = some (.slice ao3 (mg (dl a.X a.nd) (dl b.X b.nd)).length cap3) := (AR 8 (by decide)).1
        clear AR
        have lx := cell_lt x0
        have hH := Lib.hid H
        have hC := Lib.hid CU
        clear H CU
        go_wp2_with fail
        (with_reducible refine (QM.out _ ao2 cap2 ao3 cap3 hC.out).mono ?_)
        rintro e w5 ⟨rfl, hb⟩
        have H := hH.out.below hb
        have CU := hC.out.below hb
        replace x0 := c_below hb x0
        replace x1 := c_below hb x1
        replace x2 := c_below hb x2
        replace x3 := c_below hb x3
        replace x4 := c_below hb x4
        replace x5 := c_below hb x5
        replace x6 := c_below hb x6
        replace x7 := c_below hb x7
        replace x8 := c_below hb x8
        have lx5 := cell_lt x0
        clear hH hC hb lx
        have AR : ArrAt w5 (w.heap.size + 2) 9 zf := KR.out _ H
        cases u
        · skip
          have R : ArrAt (((((((((w5.setCell ⟨w.heap.size + 2, 0, none⟩ (.bool false)).setCell ⟨w.heap.size + 2, 1, none⟩ (.bool false)).setCell ⟨w.heap.size + 2, 2, none⟩ (.bool false)).setCell ⟨w.heap.size + 2, 3, none⟩ (.bool false)).setCell ⟨w.heap.size + 2, 4, none⟩ (.bool false)).setCell ⟨w.heap.size + 2, 5, none⟩ (.bool false)).setCell ⟨w.heap.size + 2, 6, none⟩ (.bool false)).setCell ⟨w.heap.size + 2, 7, none⟩ (.slice none 0 0)).setCell ⟨w.heap.size + 2, 8, none⟩ (.slice none 0 0)) (w.heap.size + 2) 9 (fun k => ([.bool false, .bool false, .bool false, .bool false, .bool false, .bool false, .bool false, .slice none 0 0, .slice none 0 0] : List Value).getD k undef) := AR.set9 (fun k => ([.bool false, .bool false, .bool false, .bool false, .bool false, .bool false, .bool false, .slice none 0 0, .slice none 0 0] : List Value).getD k undef)
          have BB : Below w.heap.size w (((((((((w5.setCell ⟨w.heap.size + 2, 0, none⟩ (.bool false)).setCell ⟨w.heap.size + 2, 1, none⟩ (.bool false)).setCell ⟨w.heap.size + 2, 2, none⟩ (.bool false)).setCell ⟨w.heap.size + 2, 3, none⟩ (.bool false)).setCell ⟨w.heap.size + 2, 4, none⟩ (.bool false)).setCell ⟨w.heap.size + 2, 5, none⟩ (.bool false)).setCell ⟨w.heap.size + 2, 6, none⟩ (.bool false)).setCell ⟨w.heap.size + 2, 7, none⟩ (.slice none 0 0)).setCell ⟨w.heap.size + 2, 8, none⟩ (.slice none 0 0)) := (Held.set9 (w := w) (W := w5) (fs := []) ⟨H.old, fun f hf => by cases hf⟩ (w.heap.size + 2) (fun k => ([.bool false, .bool false, .bool false, .bool false, .bool false, .bool false, .bool false, .slice none 0 0, .slice none 0 0] : List Value).getD k undef) (by omega) (fun f hf => by cases hf)).old
          have hR := Lib.hid R
          have hB := Lib.hid BB
          clear R BB
          have y0 := (AR 0 (by decide)).1
          have z0 := (AR 0 (by decide)).2
          have y1 := (AR 1 (by decide)).1
          have z1 := (AR 1 (by decide)).2
          have y2 := (AR 2 (by decide)).1
          have z2 := (AR 2 (by decide)).2
          have y3 := (AR 3 (by decide)).1
          have z3 := (AR 3 (by decide)).2
          have y4 := (AR 4 (by decide)).1
          have z4 := (AR 4 (by decide)).2
          have y5 := (AR 5 (by decide)).1
          have z5 := (AR 5 (by decide)).2
          have y6 := (AR 6 (by decide)).1
          have z6 := (AR 6 (by decide)).2
          have y7 := (AR 7 (by decide)).1
          have z7 := (AR 7 (by decide)).2
          have y8 := (AR 8 (by decide)).1
          have z8 := (AR 8 (by decide)).2
          have ly := cell_lt y0
          clear AR CU H
          go_wp2_with fail
          clear y0 z0
          clear y1 z1
          clear y2 z2
          clear y3 z3
          clear y4 z4
          clear y5 z5
          clear y6 z6
          clear y7 z7
          clear y8 z8
          replace hR := hR.out
          replace hB := hB.out
          generalize (((((((((w5.setCell ⟨w.heap.size + 2, 0, none⟩ (.bool false)).setCell ⟨w.heap.size + 2, 1, none⟩ (.bool false)).setCell ⟨w.heap.size + 2, 2, none⟩ (.bool false)).setCell ⟨w.heap.size + 2, 3, none⟩ (.bool false)).setCell ⟨w.heap.size + 2, 4, none⟩ (.bool false)).setCell ⟨w.heap.size + 2, 5, none⟩ (.bool false)).setCell ⟨w.heap.size + 2, 6, none⟩ (.bool false)).setCell ⟨w.heap.size + 2, 7, none⟩ (.slice none 0 0)).setCell ⟨w.heap.size + 2, 8, none⟩ (.slice none 0 0)) = W8 at hR hB ⊢
          have r0 : W8.cell? ⟨w.heap.size + 2, 0, none⟩ = some (.bool false) := (hR 0 (by decide)).1
          have r1 : W8.cell? ⟨w.heap.size + 2, 1, none⟩ = some (.bool false) := (hR 1 (by decide)).1
          have r2 : W8.cell? ⟨w.heap.size + 2, 2, none⟩ = some (.bool false) := (hR 2 (by decide)).1
          have r3 : W8.cell? ⟨w.heap.size + 2, 3, none⟩ = some (.bool false) := (hR 3 (by decide)).1
          have r4 : W8.cell? ⟨w.heap.size + 2, 4, none⟩ = some (.bool false) := (hR 4 (by decide)).1
          have r5 : W8.cell? ⟨w.heap.size + 2, 5, none⟩ = some (.bool false) := (hR 5 (by decide)).1
          have r6 : W8.cell? ⟨w.heap.size + 2, 6, none⟩ = some (.bool false) := (hR 6 (by decide)).1
          have r7 : W8.cell? ⟨w.heap.size + 2, 7, none⟩ = some (.slice none 0 0) := (hR 7 (by decide)).1
          have r8 : W8.cell? ⟨w.heap.size + 2, 8, none⟩ = some (.slice none 0 0) := (hR 8 (by decide)).1
          have lr := cell_lt r0
          clear hR
          exact bodyPost_ret (v := .tuple #[.agg #[.bool false, .bool false, .bool false, .bool false, .bool false, .bool false, .bool false, .slice none 0 0, .slice none 0 0], .int .i64 1]) (by simp [results, Tryd.results18, go_sem, r0, r1, r2, r3, r4, r5, r6, r7, r8, lr]) rfl (Or.inr ⟨fun g => absurd (HU.out.2 g) (by decide), rfl, hB⟩)
        · skip
          have R : ArrAt (((((((((w5.setCell ⟨w.heap.size + 2, 0, none⟩ (.bool (a.o 0 || b.o 0))).setCell ⟨w.heap.size + 2, 1, none⟩ (.bool (a.o 1 || b.o 1))).setCell ⟨w.heap.size + 2, 2, none⟩ (.bool (a.o 2 || b.o 2))).setCell ⟨w.heap.size + 2, 3, none⟩ (.bool (a.o 3 || b.o 3))).setCell ⟨w.heap.size + 2, 4, none⟩ (.bool (a.o 4 || b.o 4))).setCell ⟨w.heap.size + 2, 5, none⟩ (.bool (a.o 5 || b.o 5))).setCell ⟨w.heap.size + 2, 6, none⟩ (.bool (a.o 6 || b.o 6))).setCell ⟨w.heap.size + 2, 7, none⟩ (.slice ao2 (a.nr + b.nr) cap2)).setCell ⟨w.heap.size + 2, 8, none⟩ (.slice ao3 (mg (dl a.X a.nd) (dl b.X b.nd)).length cap3)) (w.heap.size + 2) 9 (fun k => ([.bool (a.o 0 || b.o 0), .bool (a.o 1 || b.o 1), .bool (a.o 2 || b.o 2), .bool (a.o 3 || b.o 3), .bool (a.o 4 || b.o 4), .bool (a.o 5 || b.o 5), .bool (a.o 6 || b.o 6), .slice ao2 (a.nr + b.nr) cap2, .slice ao3 (mg (dl a.X a.nd) (dl b.X b.nd)).length cap3] : List Value).getD k undef) := AR.set9 (fun k => ([.bool (a.o 0 || b.o 0), .bool (a.o 1 || b.o 1), .bool (a.o 2 || b.o 2), .bool (a.o 3 || b.o 3), .bool (a.o 4 || b.o 4), .bool (a.o 5 || b.o 5), .bool (a.o 6 || b.o 6), .slice ao2 (a.nr + b.nr) cap2, .slice ao3 (mg (dl a.X a.nd) (dl b.X b.nd)).length cap3] : List Value).getD k undef)
          have BB : Below w.heap.size w (((((((((w5.setCell ⟨w.heap.size + 2, 0, none⟩ (.bool (a.o 0 || b.o 0))).setCell ⟨w.heap.size + 2, 1, none⟩ (.bool (a.o 1 || b.o 1))).setCell ⟨w.heap.size + 2, 2, none⟩ (.bool (a.o 2 || b.o 2))).setCell ⟨w.heap.size + 2, 3, none⟩ (.bool (a.o 3 || b.o 3))).setCell ⟨w.heap.size + 2, 4, none⟩ (.bool (a.o 4 || b.o 4))).setCell ⟨w.heap.size + 2, 5, none⟩ (.bool (a.o 5 || b.o 5))).setCell ⟨w.heap.size + 2, 6, none⟩ (.bool (a.o 6 || b.o 6))).setCell ⟨w.heap.size + 2, 7, none⟩ (.slice ao2 (a.nr + b.nr) cap2)).setCell ⟨w.heap.size + 2, 8, none⟩ (.slice ao3 (mg (dl a.X a.nd) (dl b.X b.nd)).length cap3)) := (Held.set9 (w := w) (W := w5) (fs := []) ⟨H.old, fun f hf => by cases hf⟩ (w.heap.size + 2) (fun k => ([.bool (a.o 0 || b.o 0), .bool (a.o 1 || b.o 1), .bool (a.o 2 || b.o 2), .bool (a.o 3 || b.o 3), .bool (a.o 4 || b.o 4), .bool (a.o 5 || b.o 5), .bool (a.o 6 || b.o 6), .slice ao2 (a.nr + b.nr) cap2, .slice ao3 (mg (dl a.X a.nd) (dl b.X b.nd)).length cap3] : List Value).getD k undef) (by omega) (fun f hf => by cases hf)).old
          have CC : CalAt (((((((((w5.setCell ⟨w.heap.size + 2, 0, none⟩ (.bool (a.o 0 || b.o 0))).setCell ⟨w.heap.size + 2, 1, none⟩ (.bool (a.o 1 || b.o 1))).setCell ⟨w.heap.size + 2, 2, none⟩ (.bool (a.o 2 || b.o 2))).setCell ⟨w.heap.size + 2, 3, none⟩ (.bool (a.o 3 || b.o 3))).setCell ⟨w.heap.size + 2, 4, none⟩ (.bool (a.o 4 || b.o 4))).setCell ⟨w.heap.size + 2, 5, none⟩ (.bool (a.o 5 || b.o 5))).setCell ⟨w.heap.size + 2, 6, none⟩ (.bool (a.o 6 || b.o 6))).setCell ⟨w.heap.size + 2, 7, none⟩ (.slice ao2 (a.nr + b.nr) cap2)).setCell ⟨w.heap.size + 2, 8, none⟩ (.slice ao3 (mg (dl a.X a.nd) (dl b.X b.nd)).length cap3)) (a.un b) ao2 cap2 ao3 cap3 := ⟨RulesAt.set9 CU.1 (w.heap.size + 2) (fun k => ([.bool (a.o 0 || b.o 0), .bool (a.o 1 || b.o 1), .bool (a.o 2 || b.o 2), .bool (a.o 3 || b.o 3), .bool (a.o 4 || b.o 4), .bool (a.o 5 || b.o 5), .bool (a.o 6 || b.o 6), .slice ao2 (a.nr + b.nr) cap2, .slice ao3 (mg (dl a.X a.nd) (dl b.X b.nd)).length cap3] : List Value).getD k undef) ob.out, DaysAt.set9 CU.2 (w.heap.size + 2) (fun k => ([.bool (a.o 0 || b.o 0), .bool (a.o 1 || b.o 1), .bool (a.o 2 || b.o 2), .bool (a.o 3 || b.o 3), .bool (a.o 4 || b.o 4), .bool (a.o 5 || b.o 5), .bool (a.o 6 || b.o 6), .slice ao2 (a.nr + b.nr) cap2, .slice ao3 (mg (dl a.X a.nd) (dl b.X b.nd)).length cap3] : List Value).getD k undef) oc.out⟩
          have hR := Lib.hid R
          have hB := Lib.hid BB
          clear R BB
          have hCC := Lib.hid CC
          clear CC
          have y0 := (AR 0 (by decide)).1
          have z0 := (AR 0 (by decide)).2
          have y1 := (AR 1 (by decide)).1
          have z1 := (AR 1 (by decide)).2
          have y2 := (AR 2 (by decide)).1
          have z2 := (AR 2 (by decide)).2
          have y3 := (AR 3 (by decide)).1
          have z3 := (AR 3 (by decide)).2
          have y4 := (AR 4 (by decide)).1
          have z4 := (AR 4 (by decide)).2
          have y5 := (AR 5 (by decide)).1
          have z5 := (AR 5 (by decide)).2
          have y6 := (AR 6 (by decide)).1
          have z6 := (AR 6 (by decide)).2
          have y7 := (AR 7 (by decide)).1
          have z7 := (AR 7 (by decide)).2
          have y8 := (AR 8 (by decide)).1
          have z8 := (AR 8 (by decide)).2
          have ly := cell_lt y0
          clear AR CU H
          go_wp2_with fail
          clear y0 z0
          clear y1 z1
          clear y2 z2
          clear y3 z3
          clear y4 z4
          clear y5 z5
          clear y6 z6
          clear y7 z7
          clear y8 z8
          replace hR := hR.out
          replace hB := hB.out
          replace hCC := hCC.out
          generalize (((((((((w5.setCell ⟨w.heap.size + 2, 0, none⟩ (.bool (a.o 0 || b.o 0))).setCell ⟨w.heap.size + 2, 1, none⟩ (.bool (a.o 1 || b.o 1))).setCell ⟨w.heap.size + 2, 2, none⟩ (.bool (a.o 2 || b.o 2))).setCell ⟨w.heap.size + 2, 3, none⟩ (.bool (a.o 3 || b.o 3))).setCell ⟨w.heap.size + 2, 4, none⟩ (.bool (a.o 4 || b.o 4))).setCell ⟨w.heap.size + 2, 5, none⟩ (.bool (a.o 5 || b.o 5))).setCell ⟨w.heap.size + 2, 6, none⟩ (.bool (a.o 6 || b.o 6))).setCell ⟨w.heap.size + 2, 7, none⟩ (.slice ao2 (a.nr + b.nr) cap2)).setCell ⟨w.heap.size + 2, 8, none⟩ (.slice ao3 (mg (dl a.X a.nd) (dl b.X b.nd)).length cap3)) = W8 at hR hB hCC ⊢
          have r0 : W8.cell? ⟨w.heap.size + 2, 0, none⟩ = some (.bool (a.o 0 || b.o 0)) := (hR 0 (by decide)).1
          have r1 : W8.cell? ⟨w.heap.size + 2, 1, none⟩ = some (.bool (a.o 1 || b.o 1)) := (hR 1 (by decide)).1
          have r2 : W8.cell? ⟨w.heap.size + 2, 2, none⟩ = some (.bool (a.o 2 || b.o 2)) := (hR 2 (by decide)).1
          have r3 : W8.cell? ⟨w.heap.size + 2, 3, none⟩ = some (.bool (a.o 3 || b.o 3)) := (hR 3 (by decide)).1
          have r4 : W8.cell? ⟨w.heap.size + 2, 4, none⟩ = some (.bool (a.o 4 || b.o 4)) := (hR 4 (by decide)).1
          have r5 : W8.cell? ⟨w.heap.size + 2, 5, none⟩ = some (.bool (a.o 5 || b.o 5)) := (hR 5 (by decide)).1
          have r6 : W8.cell? ⟨w.heap.size + 2, 6, none⟩ = some (.bool (a.o 6 || b.o 6)) := (hR 6 (by decide)).1
          have r7 : W8.cell? ⟨w.heap.size + 2, 7, none⟩ = some (.slice ao2 (a.nr + b.nr) cap2) := (hR 7 (by decide)).1
          have r8 : W8.cell? ⟨w.heap.size + 2, 8, none⟩ = some (.slice ao3 (mg (dl a.X a.nd) (dl b.X b.nd)).length cap3) := (hR 8 (by decide)).1
          have lr := cell_lt r0
          clear hR
          exact bodyPost_ret (v := .tuple #[.agg #[.bool (a.o 0 || b.o 0), .bool (a.o 1 || b.o 1), .bool (a.o 2 || b.o 2), .bool (a.o 3 || b.o 3), .bool (a.o 4 || b.o 4), .bool (a.o 5 || b.o 5), .bool (a.o 6 || b.o 6), .slice ao2 (a.nr + b.nr) cap2, .slice ao3 (mg (dl a.X a.nd) (dl b.X b.nd)).length cap3], .int .i64 0]) (by simp [results, Tryd.results18, go_sem, r0, r1, r2, r3, r4, r5, r6, r7, r8, lr]) rfl (Or.inl ⟨HU.out.1 (by first | rfl | trivial), ao2, cap2, ao3, cap3, rfl, hCC, hB⟩))
  have Z301 : Hid (∀ (W : World) (g0 : Nat) (v1 : Value) (ao2 : Option Addr) (cap2 : Nat) (g6 : Nat), Below W0.heap.size W0 W → RulesAt W ao2 (both a.R b.R a.nr) (a.nr + b.nr) cap2 → Rj W0.heap.size W ao2 → ArrAt W g6 9 zf → W0.heap.size ≤ g6 → Rn g6 ao2 → G 3 #[true, true, true, true, true, true, true, true, true, true, true, false, false, true, false] (Act.put (Act.put (Act.put (Act.put A (some 9) (.slice (some ⟨g0, 0, none⟩) 0 0)) (some 12) v1) (some 15) (.slice ao2 (a.nr + b.nr) cap2)) (some 6) (.pointer (some ⟨g6, 0, none⟩))) W) := Lib.hid (by
    intro W g0 v1 ao2 cap2 g6 B r2 k2 zz zg n2
    have H : Held w [.cell (w.heap.size + 2) 0 (.bool false), .cell (w.heap.size + 2) 1 (.bool false), .cell (w.heap.size + 2) 2 (.bool false), .cell (w.heap.size + 2) 3 (.bool false), .cell (w.heap.size + 2) 4 (.bool false), .cell (w.heap.size + 2) 5 (.bool false), .cell (w.heap.size + 2) 6 (.bool false), .cell (w.heap.size + 2) 7 (.slice none 0 0), .cell (w.heap.size + 2) 8 (.slice none 0 0), .free (w.heap.size + 2) 0, .free (w.heap.size + 2) 1, .free (w.heap.size + 2) 2, .free (w.heap.size + 2) 3, .free (w.heap.size + 2) 4, .free (w.heap.size + 2) 5, .free (w.heap.size + 2) 6, .free (w.heap.size + 2) 7, .free (w.heap.size + 2) 8, .cell (w.heap.size + 1) 0 (.bool (b.o 0)), .cell (w.heap.size + 1) 1 (.bool (b.o 1)), .cell (w.heap.size + 1) 2 (.bool (b.o 2)), .cell (w.heap.size + 1) 3 (.bool (b.o 3)), .cell (w.heap.size + 1) 4 (.bool (b.o 4)), .cell (w.heap.size + 1) 5 (.bool (b.o 5)), .cell (w.heap.size + 1) 6 (.bool (b.o 6)), .cell (w.heap.size + 1) 7 (.slice aRb b.nr cRb), .cell (w.heap.size + 1) 8 (.slice aDb b.nd cDb), .free (w.heap.size + 1) 0, .free (w.heap.size + 1) 1, .free (w.heap.size + 1) 2, .free (w.heap.size + 1) 3, .free (w.heap.size + 1) 4, .free (w.heap.size + 1) 5, .free (w.heap.size + 1) 6, .free (w.heap.size + 1) 7, .free (w.heap.size + 1) 8, .cell (w.heap.size) 0 (.bool (a.o 0)), .cell (w.heap.size) 1 (.bool (a.o 1)), .cell (w.heap.size) 2 (.bool (a.o 2)), .cell (w.heap.size) 3 (.bool (a.o 3)), .cell (w.heap.size) 4 (.bool (a.o 4)), .cell (w.heap.size) 5 (.bool (a.o 5)), .cell (w.heap.size) 6 (.bool (a.o 6)), .cell (w.heap.size) 7 (.slice aRa a.nr cRa), .cell (w.heap.size) 8 (.slice aDa a.nd cDa), .free (w.heap.size) 0, .free (w.heap.size) 1, .free (w.heap.size) 2, .free (w.heap.size) 3, .free (w.heap.size) 4, .free (w.heap.size) 5, .free (w.heap.size) 6, .free (w.heap.size) 7, .free (w.heap.size) 8, calF b aRb cRb aDb cDb, calF a aRa cRa aDa cDa, factsVF] W := H0.out.below B
    rw [HG.out, HA.out]
    (try simp only [Act.put, List.setIfInBounds_toArray, List.set_cons_zero, List.set_cons_succ])
    refine wpAnyH_ready (rs := [11]) (by kernel_rfl) (by simp) ?_
    refine AllReadyH.cons (o := ⟨some 20, _, _, _, _, _⟩) rfl (fun K hK => ?_) AllReadyH.nil
    go_simp
    (with_reducible refine (rdays_any aDa a.nd cDa a.X aDb b.nd cDb b.X _ A2 B2 (cal_d (KA.out _ H)) (cal_d (KB.out _ H))).mono ?_)
    rintro e w' ⟨ao3, cap3, rfl, r3, j3, hb⟩
    have k3 : Rj W0.heap.size w' ao3 := fun p hp => ⟨Nat.le_trans B.size (j3 p hp).1, (j3 p hp).2⟩
    have z := Lib.hid (Z311.out w' g0 v1 ao2 cap2 ao3 cap3 g6 (B.trans (hb.mono B.size)) (r2.below hb) (k2.up hb.size) r3 k3 (zz.below hb) zg n2 (fun p hp => Nat.ne_of_gt (Nat.lt_of_lt_of_le (cell_lt (zz 0 (by decide)).1) (j3 p hp).1)))
    go_wp2_with fail
    refine hK.out _ _ (KS.out _ (H.below hb)) (fun hHeld => ?_)
    clear hK K
    (try simp only [Act.put, List.setIfInBounds_toArray, List.set_cons_zero, List.set_cons_succ])
    refine wpAnyH_take (i := 12) (oi := ⟨some 21, _, _, _, _, _⟩) (v := ?_) rfl (by kernel_rfl) (by kernel_rfl) (by kernel_rfl) (fun _ _ _ h => h) (Or.inl ⟨by rfl, ?_⟩) (by assumption) ?_
    rotate_left
    · intro w hSw; (try dsimp only at hSw); go_simp; try with_reducible rfl
    simp only [Act.put, List.setIfInBounds_toArray, List.set_cons_zero, List.set_cons_succ]
    replace z := z.out
    (try simp only [Act.put, List.setIfInBounds_toArray, List.set_cons_zero, List.set_cons_succ])
    rw [HG.out, HA.out] at z
    (try simp only [Act.put, List.setIfInBounds_toArray, List.set_cons_zero, List.set_cons_succ] at z)
    exact z)
  have Z310 : Hid (∀ (W : World) (g0 : Nat) (v1 : Value) (ao2 : Option Addr) (cap2 : Nat) (ao3 : Option Addr) (cap3 : Nat), Below W0.heap.size W0 W → RulesAt W ao2 (both a.R b.R a.nr) (a.nr + b.nr) cap2 → Rj W0.heap.size W ao2 → DaysAt W ao3 (ld (mg (dl a.X a.nd) (dl b.X b.nd))) (mg (dl a.X a.nd) (dl b.X b.nd)).length cap3 → Rj W0.heap.size W ao3 → G 2 #[true, true, true, true, true, true, true, true, true, true, true, true, true, false, false] (Act.put (Act.put (Act.put (Act.put (Act.put A (some 9) (.slice (some ⟨g0, 0, none⟩) 0 0)) (some 12) v1) (some 15) (.slice ao2 (a.nr + b.nr) cap2)) (some 20) (.slice ao3 (mg (dl a.X a.nd) (dl b.X b.nd)).length cap3)) (some 21) (.agg #[.bool false, .bool false, .bool false, .bool false, .bool false, .bool false, .bool false, .slice ao2 (a.nr + b.nr) cap2, .slice ao3 (mg (dl a.X a.nd) (dl b.X b.nd)).length cap3])) W) := Lib.hid (by
    intro W g0 v1 ao2 cap2 ao3 cap3 B r2 k2 r3 k3
    have H : Held w [.cell (w.heap.size + 2) 0 (.bool false), .cell (w.heap.size + 2) 1 (.bool false), .cell (w.heap.size + 2) 2 (.bool false), .cell (w.heap.size + 2) 3 (.bool false), .cell (w.heap.size + 2) 4 (.bool false), .cell (w.heap.size + 2) 5 (.bool false), .cell (w.heap.size + 2) 6 (.bool false), .cell (w.heap.size + 2) 7 (.slice none 0 0), .cell (w.heap.size + 2) 8 (.slice none 0 0), .free (w.heap.size + 2) 0, .free (w.heap.size + 2) 1, .free (w.heap.size + 2) 2, .free (w.heap.size + 2) 3, .free (w.heap.size + 2) 4, .free (w.heap.size + 2) 5, .free (w.heap.size + 2) 6, .free (w.heap.size + 2) 7, .free (w.heap.size + 2) 8, .cell (w.heap.size + 1) 0 (.bool (b.o 0)), .cell (w.heap.size + 1) 1 (.bool (b.o 1)), .cell (w.heap.size + 1) 2 (.bool (b.o 2)), .cell (w.heap.size + 1) 3 (.bool (b.o 3)), .cell (w.heap.size + 1) 4 (.bool (b.o 4)), .cell (w.heap.size + 1) 5 (.bool (b.o 5)), .cell (w.heap.size + 1) 6 (.bool (b.o 6)), .cell (w.heap.size + 1) 7 (.slice aRb b.nr cRb), .cell (w.heap.size + 1) 8 (.slice aDb b.nd cDb), .free (w.heap.size + 1) 0, .free (w.heap.size + 1) 1, .free (w.heap.size + 1) 2, .free (w.heap.size + 1) 3, .free (w.heap.size + 1) 4, .free (w.heap.size + 1) 5, .free (w.heap.size + 1) 6, .free (w.heap.size + 1) 7, .free (w.heap.size + 1) 8, .cell (w.heap.size) 0 (.bool (a.o 0)), .cell (w.heap.size) 1 (.bool (a.o 1)), .cell (w.heap.size) 2 (.bool (a.o 2)), .cell (w.heap.size) 3 (.bool (a.o 3)), .cell (w.heap.size) 4 (.bool (a.o 4)), .cell (w.heap.size) 5 (.bool (a.o 5)), .cell (w.heap.size) 6 (.bool (a.o 6)), .cell (w.heap.size) 7 (.slice aRa a.nr cRa), .cell (w.heap.size) 8 (.slice aDa a.nd cDa), .free (w.heap.size) 0, .free (w.heap.size) 1, .free (w.heap.size) 2, .free (w.heap.size) 3, .free (w.heap.size) 4, .free (w.heap.size) 5, .free (w.heap.size) 6, .free (w.heap.size) 7, .free (w.heap.size) 8, calF b aRb cRb aDb cDb, calF a aRa cRa aDa cDa, factsVF] W := H0.out.below B
    rw [HG.out, HA.out]
    (try simp only [Act.put, List.setIfInBounds_toArray, List.set_cons_zero, List.set_cons_succ])
    refine wpAnyH_ready (rs := [13]) (by kernel_rfl) (by simp) ?_
    refine AllReadyH.cons (o := ⟨some 6, _, _, _, _, _⟩) rfl (fun K hK => ?_) AllReadyH.nil
    have z := Lib.hid (Z311.out (W.alloc (.cells #[.bool false, .bool false, .bool false, .bool false, .bool false, .bool false, .bool false, .slice none 0 0, .slice none 0 0] 26)) g0 v1 ao2 cap2 ao3 cap3 W.heap.size (B.alloc B.size _) (r2.below (b_alloc _ _)) (k2.alloc _) (r3.below (b_alloc _ _)) (k3.alloc _) (z_new _) B.size k2.off k3.off)
    go_wp2_with fail
    refine hK.out _ _ (KS.out _ (H.alloc _)) (fun _ => ?_)
    clear hK K
    replace z := z.out
    (try simp only [Act.put, List.setIfInBounds_toArray, List.set_cons_zero, List.set_cons_succ])
    rw [HG.out, HA.out] at z
    (try simp only [Act.put, List.setIfInBounds_toArray, List.set_cons_zero, List.set_cons_succ] at z)
    exact z)
  have Z201 : Hid (∀ (W : World) (g0 : Nat) (v1 : Value) (g6 : Nat), Below W0.heap.size W0 W → W.ownsRow W0.heap.size 51 8 v1 a.nr (rl a.R a.nr) → ArrAt W g6 9 zf → W0.heap.size ≤ g6 → Gv v1 g6 → G 4 #[true, true, true, true, true, true, false, true, true, true, true, false, false, true, false] (Act.put (Act.put (Act.put A (some 9) (.slice (some ⟨g0, 0, none⟩) 0 0)) (some 12) v1) (some 6) (.pointer (some ⟨g6, 0, none⟩))) W) := Lib.hid (by
    intro W g0 v1 g6 B o1 zz zg x6
    have H : Held w [.cell (w.heap.size + 2) 0 (.bool false), .cell (w.heap.size + 2) 1 (.bool false), .cell (w.heap.size + 2) 2 (.bool false), .cell (w.heap.size + 2) 3 (.bool false), .cell (w.heap.size + 2) 4 (.bool false), .cell (w.heap.size + 2) 5 (.bool false), .cell (w.heap.size + 2) 6 (.bool false), .cell (w.heap.size + 2) 7 (.slice none 0 0), .cell (w.heap.size + 2) 8 (.slice none 0 0), .free (w.heap.size + 2) 0, .free (w.heap.size + 2) 1, .free (w.heap.size + 2) 2, .free (w.heap.size + 2) 3, .free (w.heap.size + 2) 4, .free (w.heap.size + 2) 5, .free (w.heap.size + 2) 6, .free (w.heap.size + 2) 7, .free (w.heap.size + 2) 8, .cell (w.heap.size + 1) 0 (.bool (b.o 0)), .cell (w.heap.size + 1) 1 (.bool (b.o 1)), .cell (w.heap.size + 1) 2 (.bool (b.o 2)), .cell (w.heap.size + 1) 3 (.bool (b.o 3)), .cell (w.heap.size + 1) 4 (.bool (b.o 4)), .cell (w.heap.size + 1) 5 (.bool (b.o 5)), .cell (w.heap.size + 1) 6 (.bool (b.o 6)), .cell (w.heap.size + 1) 7 (.slice aRb b.nr cRb), .cell (w.heap.size + 1) 8 (.slice aDb b.nd cDb), .free (w.heap.size + 1) 0, .free (w.heap.size + 1) 1, .free (w.heap.size + 1) 2, .free (w.heap.size + 1) 3, .free (w.heap.size + 1) 4, .free (w.heap.size + 1) 5, .free (w.heap.size + 1) 6, .free (w.heap.size + 1) 7, .free (w.heap.size + 1) 8, .cell (w.heap.size) 0 (.bool (a.o 0)), .cell (w.heap.size) 1 (.bool (a.o 1)), .cell (w.heap.size) 2 (.bool (a.o 2)), .cell (w.heap.size) 3 (.bool (a.o 3)), .cell (w.heap.size) 4 (.bool (a.o 4)), .cell (w.heap.size) 5 (.bool (a.o 5)), .cell (w.heap.size) 6 (.bool (a.o 6)), .cell (w.heap.size) 7 (.slice aRa a.nr cRa), .cell (w.heap.size) 8 (.slice aDa a.nd cDa), .free (w.heap.size) 0, .free (w.heap.size) 1, .free (w.heap.size) 2, .free (w.heap.size) 3, .free (w.heap.size) 4, .free (w.heap.size) 5, .free (w.heap.size) 6, .free (w.heap.size) 7, .free (w.heap.size) 8, calF b aRb cRb aDb cDb, calF a aRa cRa aDa cDa, factsVF] W := H0.out.below B
    rw [HG.out, HA.out]
    (try simp only [Act.put, List.setIfInBounds_toArray, List.set_cons_zero, List.set_cons_succ])
    refine wpAnyH_ready (rs := [6]) (by kernel_rfl) (by simp) ?_
    refine AllReadyH.cons (o := ⟨some 15, _, _, _, _, _⟩) rfl (fun K hK => ?_) AllReadyH.nil
    obtain ⟨v2, w2, hr, ho, hg, hx⟩ := app14 W0.heap.size 23 23 51 i0 (.agg #[.int .i64 0, .int .i64 0, .int .i64 0, .int .i64 0, .int .i64 0, .int .i64 0, .int .i64 0, .int .i64 0]) 8 64 Tryd.underlying23 hi hz0 hz1 hz2 rfl (by decide) _ _ _ o1 aRb b.nr cRb (rl b.R b.nr) (RB.out.below B) (by omega) (by decide) B.size
    have B2 := B.trans (grown_own B.size o1 hg)
    rw [rl_app] at ho
    obtain ⟨ao2, cap2, rfl, r2⟩ := own_rules ho
    have k2 : Rj W0.heap.size w2 ao2 := fun p hp => by subst hp; exact World.ownsRow.lt ho p.block rfl
    have z := Lib.hid (Z301.out w2 g0 v1 ao2 cap2 g6 B2 r2 k2 (zz.grown hg x6) zg ((x6.next (cell_lt (zz 0 (by decide)).1) hx).rn))
    refine Lib.wp_append_run _ (.tmp 12) (.tmp 14) 23 23 rfl _ _ rfl rfl _ _ hr ?_
    refine hK.out _ _ (KS.out _ (H0.out.below B2)) (fun hHeld => ?_)
    clear hK K
    replace z := z.out
    (try simp only [Act.put, List.setIfInBounds_toArray, List.set_cons_zero, List.set_cons_succ])
    rw [HG.out, HA.out] at z
    (try simp only [Act.put, List.setIfInBounds_toArray, List.set_cons_zero, List.set_cons_succ] at z)
    exact z)
  have Z300 : Hid (∀ (W : World) (g0 : Nat) (v1 : Value) (ao2 : Option Addr) (cap2 : Nat), Below W0.heap.size W0 W → RulesAt W ao2 (both a.R b.R a.nr) (a.nr + b.nr) cap2 → Rj W0.heap.size W ao2 → G 4 #[true, true, true, true, true, true, true, true, true, true, true, false, false, false, false] (Act.put (Act.put (Act.put A (some 9) (.slice (some ⟨g0, 0, none⟩) 0 0)) (some 12) v1) (some 15) (.slice ao2 (a.nr + b.nr) cap2)) W) := Lib.hid (by
    intro W g0 v1 ao2 cap2 B r2 k2
    have H : Held w [.cell (w.heap.size + 2) 0 (.bool false), .cell (w.heap.size + 2) 1 (.bool false), .cell (w.heap.size + 2) 2 (.bool false), .cell (w.heap.size + 2) 3 (.bool false), .cell (w.heap.size + 2) 4 (.bool false), .cell (w.heap.size + 2) 5 (.bool false), .cell (w.heap.size + 2) 6 (.bool false), .cell (w.heap.size + 2) 7 (.slice none 0 0), .cell (w.heap.size + 2) 8 (.slice none 0 0), .free (w.heap.size + 2) 0, .free (w.heap.size + 2) 1, .free (w.heap.size + 2) 2, .free (w.heap.size + 2) 3, .free (w.heap.size + 2) 4, .free (w.heap.size + 2) 5, .free (w.heap.size + 2) 6, .free (w.heap.size + 2) 7, .free (w.heap.size + 2) 8, .cell (w.heap.size + 1) 0 (.bool (b.o 0)), .cell (w.heap.size + 1) 1 (.bool (b.o 1)), .cell (w.heap.size + 1) 2 (.bool (b.o 2)), .cell (w.heap.size + 1) 3 (.bool (b.o 3)), .cell (w.heap.size + 1) 4 (.bool (b.o 4)), .cell (w.heap.size + 1) 5 (.bool (b.o 5)), .cell (w.heap.size + 1) 6 (.bool (b.o 6)), .cell (w.heap.size + 1) 7 (.slice aRb b.nr cRb), .cell (w.heap.size + 1) 8 (.slice aDb b.nd cDb), .free (w.heap.size + 1) 0, .free (w.heap.size + 1) 1, .free (w.heap.size + 1) 2, .free (w.heap.size + 1) 3, .free (w.heap.size + 1) 4, .free (w.heap.size + 1) 5, .free (w.heap.size + 1) 6, .free (w.heap.size + 1) 7, .free (w.heap.size + 1) 8, .cell (w.heap.size) 0 (.bool (a.o 0)), .cell (w.heap.size) 1 (.bool (a.o 1)), .cell (w.heap.size) 2 (.bool (a.o 2)), .cell (w.heap.size) 3 (.bool (a.o 3)), .cell (w.heap.size) 4 (.bool (a.o 4)), .cell (w.heap.size) 5 (.bool (a.o 5)), .cell (w.heap.size) 6 (.bool (a.o 6)), .cell (w.heap.size) 7 (.slice aRa a.nr cRa), .cell (w.heap.size) 8 (.slice aDa a.nd cDa), .free (w.heap.size) 0, .free (w.heap.size) 1, .free (w.heap.size) 2, .free (w.heap.size) 3, .free (w.heap.size) 4, .free (w.heap.size) 5, .free (w.heap.size) 6, .free (w.heap.size) 7, .free (w.heap.size) 8, calF b aRb cRb aDb cDb, calF a aRa cRa aDa cDa, factsVF] W := H0.out.below B
    rw [HG.out, HA.out]
    (try simp only [Act.put, List.setIfInBounds_toArray, List.set_cons_zero, List.set_cons_succ])
    refine wpAnyH_ready (rs := [11, 13]) (by kernel_rfl) (by simp) ?_
    refine AllReadyH.cons (o := ⟨some 20, _, _, _, _, _⟩) rfl (fun K hK => ?_) ?_
    · skip
      go_simp
      (with_reducible refine (rdays_any aDa a.nd cDa a.X aDb b.nd cDb b.X _ A2 B2 (cal_d (KA.out _ H)) (cal_d (KB.out _ H))).mono ?_)
      rintro e w' ⟨ao3, cap3, rfl, r3, j3, hb⟩
      have k3 : Rj W0.heap.size w' ao3 := fun p hp => ⟨Nat.le_trans B.size (j3 p hp).1, (j3 p hp).2⟩
      have z := Lib.hid (Z310.out w' g0 v1 ao2 cap2 ao3 cap3 (B.trans (hb.mono B.size)) (r2.below hb) (k2.up hb.size) r3 k3)
      go_wp2_with fail
      refine hK.out _ _ (KS.out _ (H.below hb)) (fun hHeld => ?_)
      clear hK K
      (try simp only [Act.put, List.setIfInBounds_toArray, List.set_cons_zero, List.set_cons_succ])
      refine wpAnyH_take (i := 12) (oi := ⟨some 21, _, _, _, _, _⟩) (v := ?_) rfl (by kernel_rfl) (by kernel_rfl) (by kernel_rfl) (fun _ _ _ h => h) (Or.inl ⟨by rfl, ?_⟩) (by assumption) ?_
      rotate_left
      · intro w hSw; (try dsimp only at hSw); go_simp; try with_reducible rfl
      simp only [Act.put, List.setIfInBounds_toArray, List.set_cons_zero, List.set_cons_succ]
      replace z := z.out
      (try simp only [Act.put, List.setIfInBounds_toArray, List.set_cons_zero, List.set_cons_succ])
      rw [HG.out, HA.out] at z
      (try simp only [Act.put, List.setIfInBounds_toArray, List.set_cons_zero, List.set_cons_succ] at z)
      exact z
    refine AllReadyH.cons (o := ⟨some 6, _, _, _, _, _⟩) rfl (fun K hK => ?_) AllReadyH.nil
    have z := Lib.hid (Z301.out (W.alloc (.cells #[.bool false, .bool false, .bool false, .bool false, .bool false, .bool false, .bool false, .slice none 0 0, .slice none 0 0] 26)) g0 v1 ao2 cap2 W.heap.size (B.alloc B.size _) (r2.below (b_alloc _ _)) (k2.alloc _) (z_new _) B.size k2.off)
    go_wp2_with fail
    refine hK.out _ _ (KS.out _ (H.alloc _)) (fun _ => ?_)
    clear hK K
    replace z := z.out
    (try simp only [Act.put, List.setIfInBounds_toArray, List.set_cons_zero, List.set_cons_succ])
    rw [HG.out, HA.out] at z
    (try simp only [Act.put, List.setIfInBounds_toArray, List.set_cons_zero, List.set_cons_succ] at z)
    exact z)
  have Z101 : Hid (∀ (W : World) (g0 : Nat) (g6 : Nat), Below W0.heap.size W0 W → W.ownsRow W0.heap.size 51 8 (.slice (some ⟨g0, 0, none⟩) 0 0) 0 [] → ArrAt W g6 9 zf → W0.heap.size ≤ g6 → Gv (.slice (some ⟨g0, 0, none⟩) 0 0) g6 → G 5 #[true, true, true, false, true, true, false, true, true, true, true, false, false, true, false] (Act.put (Act.put A (some 9) (.slice (some ⟨g0, 0, none⟩) 0 0)) (some 6) (.pointer (some ⟨g6, 0, none⟩))) W) := Lib.hid (by
    intro W g0 g6 B o1 zz zg x6
    have H : Held w [.cell (w.heap.size + 2) 0 (.bool false), .cell (w.heap.size + 2) 1 (.bool false), .cell (w.heap.size + 2) 2 (.bool false), .cell (w.heap.size + 2) 3 (.bool false), .cell (w.heap.size + 2) 4 (.bool false), .cell (w.heap.size + 2) 5 (.bool false), .cell (w.heap.size + 2) 6 (.bool false), .cell (w.heap.size + 2) 7 (.slice none 0 0), .cell (w.heap.size + 2) 8 (.slice none 0 0), .free (w.heap.size + 2) 0, .free (w.heap.size + 2) 1, .free (w.heap.size + 2) 2, .free (w.heap.size + 2) 3, .free (w.heap.size + 2) 4, .free (w.heap.size + 2) 5, .free (w.heap.size + 2) 6, .free (w.heap.size + 2) 7, .free (w.heap.size + 2) 8, .cell (w.heap.size + 1) 0 (.bool (b.o 0)), .cell (w.heap.size + 1) 1 (.bool (b.o 1)), .cell (w.heap.size + 1) 2 (.bool (b.o 2)), .cell (w.heap.size + 1) 3 (.bool (b.o 3)), .cell (w.heap.size + 1) 4 (.bool (b.o 4)), .cell (w.heap.size + 1) 5 (.bool (b.o 5)), .cell (w.heap.size + 1) 6 (.bool (b.o 6)), .cell (w.heap.size + 1) 7 (.slice aRb b.nr cRb), .cell (w.heap.size + 1) 8 (.slice aDb b.nd cDb), .free (w.heap.size + 1) 0, .free (w.heap.size + 1) 1, .free (w.heap.size + 1) 2, .free (w.heap.size + 1) 3, .free (w.heap.size + 1) 4, .free (w.heap.size + 1) 5, .free (w.heap.size + 1) 6, .free (w.heap.size + 1) 7, .free (w.heap.size + 1) 8, .cell (w.heap.size) 0 (.bool (a.o 0)), .cell (w.heap.size) 1 (.bool (a.o 1)), .cell (w.heap.size) 2 (.bool (a.o 2)), .cell (w.heap.size) 3 (.bool (a.o 3)), .cell (w.heap.size) 4 (.bool (a.o 4)), .cell (w.heap.size) 5 (.bool (a.o 5)), .cell (w.heap.size) 6 (.bool (a.o 6)), .cell (w.heap.size) 7 (.slice aRa a.nr cRa), .cell (w.heap.size) 8 (.slice aDa a.nd cDa), .free (w.heap.size) 0, .free (w.heap.size) 1, .free (w.heap.size) 2, .free (w.heap.size) 3, .free (w.heap.size) 4, .free (w.heap.size) 5, .free (w.heap.size) 6, .free (w.heap.size) 7, .free (w.heap.size) 8, calF b aRb cRb aDb cDb, calF a aRa cRa aDa cDa, factsVF] W := H0.out.below B
    rw [HG.out, HA.out]
    (try simp only [Act.put, List.setIfInBounds_toArray, List.set_cons_zero, List.set_cons_succ])
    refine wpAnyH_ready (rs := [3]) (by kernel_rfl) (by simp) ?_
    refine AllReadyH.cons (o := ⟨some 12, _, _, _, _, _⟩) rfl (fun K hK => ?_) AllReadyH.nil
    obtain ⟨v2, w2, hr, ho, hg, hx⟩ := app14 W0.heap.size 23 23 51 i0 (.agg #[.int .i64 0, .int .i64 0, .int .i64 0, .int .i64 0, .int .i64 0, .int .i64 0, .int .i64 0, .int .i64 0]) 8 64 Tryd.underlying23 hi hz0 hz1 hz2 rfl (by decide) _ _ _ o1 aRa a.nr cRa (rl a.R a.nr) (RA.out.below B) (by omega) (by decide) B.size
    have B2 := B.trans (grown_own B.size o1 hg)
    rw [Nat.zero_add, List.nil_append] at ho
    have z := Lib.hid (Z201.out w2 g0 v2 g6 B2 ho (zz.grown hg x6) zg (x6.next (cell_lt (zz 0 (by decide)).1) hx))
    refine Lib.wp_append_run _ (.tmp 9) (.tmp 11) 23 23 rfl _ _ rfl rfl _ _ hr ?_
    refine hK.out _ _ (KS.out _ (H0.out.below B2)) (fun hHeld => ?_)
    clear hK K
    replace z := z.out
    (try simp only [Act.put, List.setIfInBounds_toArray, List.set_cons_zero, List.set_cons_succ])
    rw [HG.out, HA.out] at z
    (try simp only [Act.put, List.setIfInBounds_toArray, List.set_cons_zero, List.set_cons_succ] at z)
    exact z)
  have Z200 : Hid (∀ (W : World) (g0 : Nat) (v1 : Value), Below W0.heap.size W0 W → W.ownsRow W0.heap.size 51 8 v1 a.nr (rl a.R a.nr) → G 5 #[true, true, true, true, true, true, false, true, true, true, true, false, false, false, false] (Act.put (Act.put A (some 9) (.slice (some ⟨g0, 0, none⟩) 0 0)) (some 12) v1) W) := Lib.hid (by
    intro W g0 v1 B o1
    have H : Held w [.cell (w.heap.size + 2) 0 (.bool false), .cell (w.heap.size + 2) 1 (.bool false), .cell (w.heap.size + 2) 2 (.bool false), .cell (w.heap.size + 2) 3 (.bool false), .cell (w.heap.size + 2) 4 (.bool false), .cell (w.heap.size + 2) 5 (.bool false), .cell (w.heap.size + 2) 6 (.bool false), .cell (w.heap.size + 2) 7 (.slice none 0 0), .cell (w.heap.size + 2) 8 (.slice none 0 0), .free (w.heap.size + 2) 0, .free (w.heap.size + 2) 1, .free (w.heap.size + 2) 2, .free (w.heap.size + 2) 3, .free (w.heap.size + 2) 4, .free (w.heap.size + 2) 5, .free (w.heap.size + 2) 6, .free (w.heap.size + 2) 7, .free (w.heap.size + 2) 8, .cell (w.heap.size + 1) 0 (.bool (b.o 0)), .cell (w.heap.size + 1) 1 (.bool (b.o 1)), .cell (w.heap.size + 1) 2 (.bool (b.o 2)), .cell (w.heap.size + 1) 3 (.bool (b.o 3)), .cell (w.heap.size + 1) 4 (.bool (b.o 4)), .cell (w.heap.size + 1) 5 (.bool (b.o 5)), .cell (w.heap.size + 1) 6 (.bool (b.o 6)), .cell (w.heap.size + 1) 7 (.slice aRb b.nr cRb), .cell (w.heap.size + 1) 8 (.slice aDb b.nd cDb), .free (w.heap.size + 1) 0, .free (w.heap.size + 1) 1, .free (w.heap.size + 1) 2, .free (w.heap.size + 1) 3, .free (w.heap.size + 1) 4, .free (w.heap.size + 1) 5, .free (w.heap.size + 1) 6, .free (w.heap.size + 1) 7, .free (w.heap.size + 1) 8, .cell (w.heap.size) 0 (.bool (a.o 0)), .cell (w.heap.size) 1 (.bool (a.o 1)), .cell (w.heap.size) 2 (.bool (a.o 2)), .cell (w.heap.size) 3 (.bool (a.o 3)), .cell (w.heap.size) 4 (.bool (a.o 4)), .cell (w.heap.size) 5 (.bool (a.o 5)), .cell (w.heap.size) 6 (.bool (a.o 6)), .cell (w.heap.size) 7 (.slice aRa a.nr cRa), .cell (w.heap.size) 8 (.slice aDa a.nd cDa), .free (w.heap.size) 0, .free (w.heap.size) 1, .free (w.heap.size) 2, .free (w.heap.size) 3, .free (w.heap.size) 4, .free (w.heap.size) 5, .free (w.heap.size) 6, .free (w.heap.size) 7, .free (w.heap.size) 8, calF b aRb cRb aDb cDb, calF a aRa cRa aDa cDa, factsVF] W := H0.out.below B
    rw [HG.out, HA.out]
    (try simp only [Act.put, List.setIfInBounds_toArray, List.set_cons_zero, List.set_cons_succ])
    refine wpAnyH_ready (rs := [6, 13]) (by kernel_rfl) (by simp) ?_
    refine AllReadyH.cons (o := ⟨some 15, _, _, _, _, _⟩) rfl (fun K hK => ?_) ?_
    · skip
      obtain ⟨v2, w2, hr, ho, hg, hx⟩ := app14 W0.heap.size 23 23 51 i0 (.agg #[.int .i64 0, .int .i64 0, .int .i64 0, .int .i64 0, .int .i64 0, .int .i64 0, .int .i64 0, .int .i64 0]) 8 64 Tryd.underlying23 hi hz0 hz1 hz2 rfl (by decide) _ _ _ o1 aRb b.nr cRb (rl b.R b.nr) (RB.out.below B) (by omega) (by decide) B.size
      have B2 := B.trans (grown_own B.size o1 hg)
      rw [rl_app] at ho
      obtain ⟨ao2, cap2, rfl, r2⟩ := own_rules ho
      have k2 : Rj W0.heap.size w2 ao2 := fun p hp => by subst hp; exact World.ownsRow.lt ho p.block rfl
      have z := Lib.hid (Z300.out w2 g0 v1 ao2 cap2 B2 r2 k2)
      refine Lib.wp_append_run _ (.tmp 12) (.tmp 14) 23 23 rfl _ _ rfl rfl _ _ hr ?_
      refine hK.out _ _ (KS.out _ (H0.out.below B2)) (fun hHeld => ?_)
      clear hK K
      replace z := z.out
      (try simp only [Act.put, List.setIfInBounds_toArray, List.set_cons_zero, List.set_cons_succ])
      rw [HG.out, HA.out] at z
      (try simp only [Act.put, List.setIfInBounds_toArray, List.set_cons_zero, List.set_cons_succ] at z)
      exact z
    refine AllReadyH.cons (o := ⟨some 6, _, _, _, _, _⟩) rfl (fun K hK => ?_) AllReadyH.nil
    have z := Lib.hid (Z201.out (W.alloc (.cells #[.bool false, .bool false, .bool false, .bool false, .bool false, .bool false, .bool false, .slice none 0 0, .slice none 0 0] 26)) g0 v1 W.heap.size (B.alloc B.size _) (o1.alloc _) (z_new _) B.size (Gv.far o1))
    go_wp2_with fail
    refine hK.out _ _ (KS.out _ (H.alloc _)) (fun _ => ?_)
    clear hK K
    replace z := z.out
    (try simp only [Act.put, List.setIfInBounds_toArray, List.set_cons_zero, List.set_cons_succ])
    rw [HG.out, HA.out] at z
    (try simp only [Act.put, List.setIfInBounds_toArray, List.set_cons_zero, List.set_cons_succ] at z)
    exact z)
  have Z001 : Hid (∀ (W : World) (g6 : Nat), Below W0.heap.size W0 W → ArrAt W g6 9 zf → W0.heap.size ≤ g6 → G 6 #[false, true, true, false, true, true, false, true, true, true, true, false, false, true, false] (Act.put A (some 6) (.pointer (some ⟨g6, 0, none⟩))) W) := Lib.hid (by
    intro W g6 B zz zg
    have H : Held w [.cell (w.heap.size + 2) 0 (.bool false), .cell (w.heap.size + 2) 1 (.bool false), .cell (w.heap.size + 2) 2 (.bool false), .cell (w.heap.size + 2) 3 (.bool false), .cell (w.heap.size + 2) 4 (.bool false), .cell (w.heap.size + 2) 5 (.bool false), .cell (w.heap.size + 2) 6 (.bool false), .cell (w.heap.size + 2) 7 (.slice none 0 0), .cell (w.heap.size + 2) 8 (.slice none 0 0), .free (w.heap.size + 2) 0, .free (w.heap.size + 2) 1, .free (w.heap.size + 2) 2, .free (w.heap.size + 2) 3, .free (w.heap.size + 2) 4, .free (w.heap.size + 2) 5, .free (w.heap.size + 2) 6, .free (w.heap.size + 2) 7, .free (w.heap.size + 2) 8, .cell (w.heap.size + 1) 0 (.bool (b.o 0)), .cell (w.heap.size + 1) 1 (.bool (b.o 1)), .cell (w.heap.size + 1) 2 (.bool (b.o 2)), .cell (w.heap.size + 1) 3 (.bool (b.o 3)), .cell (w.heap.size + 1) 4 (.bool (b.o 4)), .cell (w.heap.size + 1) 5 (.bool (b.o 5)), .cell (w.heap.size + 1) 6 (.bool (b.o 6)), .cell (w.heap.size + 1) 7 (.slice aRb b.nr cRb), .cell (w.heap.size + 1) 8 (.slice aDb b.nd cDb), .free (w.heap.size + 1) 0, .free (w.heap.size + 1) 1, .free (w.heap.size + 1) 2, .free (w.heap.size + 1) 3, .free (w.heap.size + 1) 4, .free (w.heap.size + 1) 5, .free (w.heap.size + 1) 6, .free (w.heap.size + 1) 7, .free (w.heap.size + 1) 8, .cell (w.heap.size) 0 (.bool (a.o 0)), .cell (w.heap.size) 1 (.bool (a.o 1)), .cell (w.heap.size) 2 (.bool (a.o 2)), .cell (w.heap.size) 3 (.bool (a.o 3)), .cell (w.heap.size) 4 (.bool (a.o 4)), .cell (w.heap.size) 5 (.bool (a.o 5)), .cell (w.heap.size) 6 (.bool (a.o 6)), .cell (w.heap.size) 7 (.slice aRa a.nr cRa), .cell (w.heap.size) 8 (.slice aDa a.nd cDa), .free (w.heap.size) 0, .free (w.heap.size) 1, .free (w.heap.size) 2, .free (w.heap.size) 3, .free (w.heap.size) 4, .free (w.heap.size) 5, .free (w.heap.size) 6, .free (w.heap.size) 7, .free (w.heap.size) 8, calF b aRb cRb aDb cDb, calF a aRa cRa aDa cDa, factsVF] W := H0.out.below B
    rw [HG.out, HA.out]
    (try simp only [Act.put, List.setIfInBounds_toArray, List.set_cons_zero, List.set_cons_succ])
    refine wpAnyH_ready (rs := [0]) (by kernel_rfl) (by simp) ?_
    refine AllReadyH.cons (o := ⟨some 9, _, _, _, _, _⟩) rfl (fun K hK => ?_) AllReadyH.nil
    have z := Lib.hid (Z101.out (W.alloc (.cells #[] 51)) W.heap.size g6 (B.alloc B.size _) (World.ownsRow_made W #[] 0 B.size (Nat.zero_le _) rfl) (zz.below (b_alloc _ _)) zg (Gv.new (cell_lt (zz 0 (by decide)).1) 0 0))
    go_wp2_with fail
    refine hK.out _ _ (KS.out _ (H.alloc _)) (fun _ => ?_)
    clear hK K
    replace z := z.out
    (try simp only [Act.put, List.setIfInBounds_toArray, List.set_cons_zero, List.set_cons_succ])
    rw [HG.out, HA.out] at z
    (try simp only [Act.put, List.setIfInBounds_toArray, List.set_cons_zero, List.set_cons_succ] at z)
    exact z)
  have Z100 : Hid (∀ (W : World) (g0 : Nat), Below W0.heap.size W0 W → W.ownsRow W0.heap.size 51 8 (.slice (some ⟨g0, 0, none⟩) 0 0) 0 [] → G 6 #[true, true, true, false, true, true, false, true, true, true, true, false, false, false, false] (Act.put A (some 9) (.slice (some ⟨g0, 0, none⟩) 0 0)) W) := Lib.hid (by
    intro W g0 B o1
    have H : Held w [.cell (w.heap.size + 2) 0 (.bool false), .cell (w.heap.size + 2) 1 (.bool false), .cell (w.heap.size + 2) 2 (.bool false), .cell (w.heap.size + 2) 3 (.bool false), .cell (w.heap.size + 2) 4 (.bool false), .cell (w.heap.size + 2) 5 (.bool false), .cell (w.heap.size + 2) 6 (.bool false), .cell (w.heap.size + 2) 7 (.slice none 0 0), .cell (w.heap.size + 2) 8 (.slice none 0 0), .free (w.heap.size + 2) 0, .free (w.heap.size + 2) 1, .free (w.heap.size + 2) 2, .free (w.heap.size + 2) 3, .free (w.heap.size + 2) 4, .free (w.heap.size + 2) 5, .free (w.heap.size + 2) 6, .free (w.heap.size + 2) 7, .free (w.heap.size + 2) 8, .cell (w.heap.size + 1) 0 (.bool (b.o 0)), .cell (w.heap.size + 1) 1 (.bool (b.o 1)), .cell (w.heap.size + 1) 2 (.bool (b.o 2)), .cell (w.heap.size + 1) 3 (.bool (b.o 3)), .cell (w.heap.size + 1) 4 (.bool (b.o 4)), .cell (w.heap.size + 1) 5 (.bool (b.o 5)), .cell (w.heap.size + 1) 6 (.bool (b.o 6)), .cell (w.heap.size + 1) 7 (.slice aRb b.nr cRb), .cell (w.heap.size + 1) 8 (.slice aDb b.nd cDb), .free (w.heap.size + 1) 0, .free (w.heap.size + 1) 1, .free (w.heap.size + 1) 2, .free (w.heap.size + 1) 3, .free (w.heap.size + 1) 4, .free (w.heap.size + 1) 5, .free (w.heap.size + 1) 6, .free (w.heap.size + 1) 7, .free (w.heap.size + 1) 8, .cell (w.heap.size) 0 (.bool (a.o 0)), .cell (w.heap.size) 1 (.bool (a.o 1)), .cell (w.heap.size) 2 (.bool (a.o 2)), .cell (w.heap.size) 3 (.bool (a.o 3)), .cell (w.heap.size) 4 (.bool (a.o 4)), .cell (w.heap.size) 5 (.bool (a.o 5)), .cell (w.heap.size) 6 (.bool (a.o 6)), .cell (w.heap.size) 7 (.slice aRa a.nr cRa), .cell (w.heap.size) 8 (.slice aDa a.nd cDa), .free (w.heap.size) 0, .free (w.heap.size) 1, .free (w.heap.size) 2, .free (w.heap.size) 3, .free (w.heap.size) 4, .free (w.heap.size) 5, .free (w.heap.size) 6, .free (w.heap.size) 7, .free (w.heap.size) 8, calF b aRb cRb aDb cDb, calF a aRa cRa aDa cDa, factsVF] W := H0.out.below B
    rw [HG.out, HA.out]
    (try simp only [Act.put, List.setIfInBounds_toArray, List.set_cons_zero, List.set_cons_succ])
    refine wpAnyH_ready (rs := [3, 13]) (by kernel_rfl) (by simp) ?_
    refine AllReadyH.cons (o := ⟨some 12, _, _, _, _, _⟩) rfl (fun K hK => ?_) ?_
    · skip
      obtain ⟨v2, w2, hr, ho, hg, hx⟩ := app14 W0.heap.size 23 23 51 i0 (.agg #[.int .i64 0, .int .i64 0, .int .i64 0, .int .i64 0, .int .i64 0, .int .i64 0, .int .i64 0, .int .i64 0]) 8 64 Tryd.underlying23 hi hz0 hz1 hz2 rfl (by decide) _ _ _ o1 aRa a.nr cRa (rl a.R a.nr) (RA.out.below B) (by omega) (by decide) B.size
      have B2 := B.trans (grown_own B.size o1 hg)
      rw [Nat.zero_add, List.nil_append] at ho
      have z := Lib.hid (Z200.out w2 g0 v2 B2 ho)
      refine Lib.wp_append_run _ (.tmp 9) (.tmp 11) 23 23 rfl _ _ rfl rfl _ _ hr ?_
      refine hK.out _ _ (KS.out _ (H0.out.below B2)) (fun hHeld => ?_)
      clear hK K
      replace z := z.out
      (try simp only [Act.put, List.setIfInBounds_toArray, List.set_cons_zero, List.set_cons_succ])
      rw [HG.out, HA.out] at z
      (try simp only [Act.put, List.setIfInBounds_toArray, List.set_cons_zero, List.set_cons_succ] at z)
      exact z
    refine AllReadyH.cons (o := ⟨some 6, _, _, _, _, _⟩) rfl (fun K hK => ?_) AllReadyH.nil
    have z := Lib.hid (Z101.out (W.alloc (.cells #[.bool false, .bool false, .bool false, .bool false, .bool false, .bool false, .bool false, .slice none 0 0, .slice none 0 0] 26)) g0 W.heap.size (B.alloc B.size _) (o1.alloc _) (z_new _) B.size (Gv.far o1))
    go_wp2_with fail
    refine hK.out _ _ (KS.out _ (H.alloc _)) (fun _ => ?_)
    clear hK K
    replace z := z.out
    (try simp only [Act.put, List.setIfInBounds_toArray, List.set_cons_zero, List.set_cons_succ])
    rw [HG.out, HA.out] at z
    (try simp only [Act.put, List.setIfInBounds_toArray, List.set_cons_zero, List.set_cons_succ] at z)
    exact z)
  have Z000 : Hid (∀ (W : World), Below W0.heap.size W0 W → G 7 #[false, true, true, false, true, true, false, true, true, true, true, false, false, false, false] A W) := Lib.hid (by
    intro W B
    have H : Held w [.cell (w.heap.size + 2) 0 (.bool false), .cell (w.heap.size + 2) 1 (.bool false), .cell (w.heap.size + 2) 2 (.bool false), .cell (w.heap.size + 2) 3 (.bool false), .cell (w.heap.size + 2) 4 (.bool false), .cell (w.heap.size + 2) 5 (.bool false), .cell (w.heap.size + 2) 6 (.bool false), .cell (w.heap.size + 2) 7 (.slice none 0 0), .cell (w.heap.size + 2) 8 (.slice none 0 0), .free (w.heap.size + 2) 0, .free (w.heap.size + 2) 1, .free (w.heap.size + 2) 2, .free (w.heap.size + 2) 3, .free (w.heap.size + 2) 4, .free (w.heap.size + 2) 5, .free (w.heap.size + 2) 6, .free (w.heap.size + 2) 7, .free (w.heap.size + 2) 8, .cell (w.heap.size + 1) 0 (.bool (b.o 0)), .cell (w.heap.size + 1) 1 (.bool (b.o 1)), .cell (w.heap.size + 1) 2 (.bool (b.o 2)), .cell (w.heap.size + 1) 3 (.bool (b.o 3)), .cell (w.heap.size + 1) 4 (.bool (b.o 4)), .cell (w.heap.size + 1) 5 (.bool (b.o 5)), .cell (w.heap.size + 1) 6 (.bool (b.o 6)), .cell (w.heap.size + 1) 7 (.slice aRb b.nr cRb), .cell (w.heap.size + 1) 8 (.slice aDb b.nd cDb), .free (w.heap.size + 1) 0, .free (w.heap.size + 1) 1, .free (w.heap.size + 1) 2, .free (w.heap.size + 1) 3, .free (w.heap.size + 1) 4, .free (w.heap.size + 1) 5, .free (w.heap.size + 1) 6, .free (w.heap.size + 1) 7, .free (w.heap.size + 1) 8, .cell (w.heap.size) 0 (.bool (a.o 0)), .cell (w.heap.size) 1 (.bool (a.o 1)), .cell (w.heap.size) 2 (.bool (a.o 2)), .cell (w.heap.size) 3 (.bool (a.o 3)), .cell (w.heap.size) 4 (.bool (a.o 4)), .cell (w.heap.size) 5 (.bool (a.o 5)), .cell (w.heap.size) 6 (.bool (a.o 6)), .cell (w.heap.size) 7 (.slice aRa a.nr cRa), .cell (w.heap.size) 8 (.slice aDa a.nd cDa), .free (w.heap.size) 0, .free (w.heap.size) 1, .free (w.heap.size) 2, .free (w.heap.size) 3, .free (w.heap.size) 4, .free (w.heap.size) 5, .free (w.heap.size) 6, .free (w.heap.size) 7, .free (w.heap.size) 8, calF b aRb cRb aDb cDb, calF a aRa cRa aDa cDa, factsVF] W := H0.out.below B
    rw [HG.out, HA.out]
    (try simp only [Act.put, List.setIfInBounds_toArray, List.set_cons_zero, List.set_cons_succ])
    refine wpAnyH_ready (rs := [0, 13]) (by kernel_rfl) (by simp) ?_
    refine AllReadyH.cons (o := ⟨some 9, _, _, _, _, _⟩) rfl (fun K hK => ?_) ?_
    · skip
      have z := Lib.hid (Z100.out (W.alloc (.cells #[] 51)) W.heap.size (B.alloc B.size _) (World.ownsRow_made W #[] 0 B.size (Nat.zero_le _) rfl))
      go_wp2_with fail
      refine hK.out _ _ (KS.out _ (H.alloc _)) (fun _ => ?_)
      clear hK K
      replace z := z.out
      (try simp only [Act.put, List.setIfInBounds_toArray, List.set_cons_zero, List.set_cons_succ])
      rw [HG.out, HA.out] at z
      (try simp only [Act.put, List.setIfInBounds_toArray, List.set_cons_zero, List.set_cons_succ] at z)
      exact z
    refine AllReadyH.cons (o := ⟨some 6, _, _, _, _, _⟩) rfl (fun K hK => ?_) AllReadyH.nil
    have z := Lib.hid (Z001.out (W.alloc (.cells #[.bool false, .bool false, .bool false, .bool false, .bool false, .bool false, .bool false, .slice none 0 0, .slice none 0 0] 26)) W.heap.size (B.alloc B.size _) (z_new _) B.size)
    go_wp2_with fail
    refine hK.out _ _ (KS.out _ (H.alloc _)) (fun _ => ?_)
    clear hK K
    replace z := z.out
    (try simp only [Act.put, List.setIfInBounds_toArray, List.set_cons_zero, List.set_cons_succ])
    rw [HG.out, HA.out] at z
    (try simp only [Act.put, List.setIfInBounds_toArray, List.set_cons_zero, List.set_cons_succ] at z)
    exact z)
  exact Z000.out W0 (Below.refl _ _)
end Go.Proofs.YtkadodkdbopgnaaDoor
