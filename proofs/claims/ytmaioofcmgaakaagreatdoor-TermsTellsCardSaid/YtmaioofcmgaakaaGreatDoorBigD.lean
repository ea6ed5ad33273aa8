/- The reference's numbers of any size: the sum. -/
import Derived.Test.YtmaioofcmgaakaaGreatDoorBigC
namespace Go.Proofs.YtmaioofcmgaakaaGreatDoor
open Go.RowKit

/-- What stays true of the memory while two numbers are gone through: the two, the row that is made (v, ds), and the variable of the result. -/
structure Going (w : World) (B : Nat) (va vb : Value) (da db : List Int) (v : Value) (ds : List Int) (W : World) : Prop where
  a : Big W va da
  b : Big W vb db
  own : W.ownsRow (B + 3) 3 1 v ds.length (ds.map (Value.int .i64))
  ra : W.cell? ⟨B, 0, none⟩ = some va
  rb : W.cell? ⟨B + 1, 0, none⟩ = some vb
  rc : W.cell? ⟨B + 2, 0, none⟩ = some (.slice none 0 0)
  rf : W.frozen? ⟨B + 2, 0, none⟩ = false
  old : Below B w W
  size : B + 3 ≤ W.heap.size

theorem own_below {W W' : World} {base : Nat} {e : TypeId} {size n : Nat} {v : Value} {xs : List Value} (h : W.ownsRow base e size v n xs) (hb : Below W.heap.size W W') : W'.ownsRow base e size v n xs := by
  obtain ⟨h1, h2⟩ := h
  refine ⟨h1, ?_⟩
  rcases h2 with h2 | ⟨g, cap, cur, hv, hg, hh, hr⟩
  · exact .inl h2
  · exact .inr ⟨g, cap, cur, hv, hg, by rw [hb.block g ((Array.getElem?_eq_some_iff.1 hh).1)]; exact hh, hr⟩

theorem Going.below {w : World} {B : Nat} {va vb v : Value} {da db ds : List Int} {W W' : World} (h : Going w B va vb da db v ds W) (hb : Below W.heap.size W W') : Going w B va vb da db v ds W' :=
  ⟨h.a.below hb, h.b.below hb, own_below h.own hb, keep hb (by have := h.size; omega) h.ra, keep hb (by have := h.size; omega) h.rb, keep hb (by have := h.size; omega) h.rc, frozen_below hb (by have := h.size; omega) h.rf, h.old.trans (hb.mono (by have := h.size; omega)), by have := h.size; have := hb.size; omega⟩
theorem Going.drew {w : World} {B : Nat} {va vb v : Value} {da db ds : List Int} {W : World} (h : Going w B va vb da db v ds W) : Going w B va vb da db v ds W.drew :=
  ⟨h.a, h.b, h.own, h.ra, h.rb, h.rc, h.rf, h.old.drew, h.size⟩
/-- A part more is appended. -/
theorem Going.more {w : World} {B : Nat} {va vb v v' : Value} {da db ds : List Int} {W W' : World} {x : Int} {o : Obj} (h : Going w B va vb da db v ds W) (fa : ∀ k, va.ownBlock = some k → k < B) (fb : ∀ k, vb.ownBlock = some k → k < B)
    (hown : W'.ownsRow (B + 3) 3 1 v' (ds.length + 1) (ds.map (Value.int .i64) ++ [.int .i64 x])) (hg : (W.alloc o).grownBy W' v.ownBlock) : Going w B va vb da db v' (ds ++ [x]) W' := by
  have R : Below (B + 3) W W' := grown_row h.size h.own hg
  have far : ∀ {u : Value} {es : List Int}, Big W u es → (∀ k, u.ownBlock = some k → k < B) → Big W' u es := by
    intro u es hu fu
    obtain ⟨h1, h2⟩ := hu
    refine ⟨h1, ?_⟩
    rcases h2 with h2 | ⟨g, cap, cur, hv, hgg, hh, hr⟩
    · exact .inl h2
    · have := fu g (by rw [hv]; rfl)
      exact .inr ⟨g, cap, cur, hv, hgg, by rw [R.block g (by omega)]; exact hh, hr⟩
  refine ⟨far h.a fa, far h.b fb, by simpa using hown, (R.cell (p := ⟨B, 0, none⟩) (by simp)).trans h.ra, (R.cell (p := ⟨B + 1, 0, none⟩) (by simp)).trans h.rb, (R.cell (p := ⟨B + 2, 0, none⟩) (by simp)).trans h.rc,
    (R.frozen (p := ⟨B + 2, 0, none⟩) (by simp)).trans h.rf, h.old.trans (R.mono (by omega)), by have := R.size; have := h.size; omega⟩
theorem Big.old {w : World} {v : Value} {ds : List Int} (h : Big w v ds) : ∀ k, v.ownBlock = some k → k < w.heap.size := fun k hk => (World.ownsRow.lt h k hk).2
theorem goingS {w : World} {B : Nat} {va vb v : Value} {da db ds : List Int} {W : World} (h : W.cell? ⟨B, 0, none⟩ = some va ∧ W.cell? ⟨B + 1, 0, none⟩ = some vb ∧ Going w B va vb da db v ds W) : Going w B va vb da db v ds W := h.2.2
theorem goingS' {w : World} {B : Nat} {va vb v : Value} {da db ds : List Int} {W : World} (h : Going w B va vb da db v ds W) : W.cell? ⟨B, 0, none⟩ = some va ∧ W.cell? ⟨B + 1, 0, none⟩ = some vb ∧ Going w B va vb da db v ds W := ⟨h.ra, h.rb, h⟩

theorem going_start {w : World} {va vb : Value} {da db : List Int} {t : TypeId} (ha : Big w va da) (hb : Big w vb db) :
    Going w w.heap.size va vb da db (.slice none 0 0) [] (((w.alloc (.cells #[va] t)).alloc (.cells #[vb] t)).alloc (.cells #[.slice none 0 0] t)) :=
  ⟨((ha.alloc _).alloc _).alloc _, ((hb.alloc _).alloc _).alloc _, World.ownsRow_nil _ _ _ _, by simp [go_sem], by simp [go_sem], by simp [go_sem], by simp [go_sem], (((Below.refl _ _).alloc (Nat.le_refl _) _).alloc (by simp) _).alloc (by simp <;> omega) _, by simp⟩

def PlusRel (w : World) (B : Nat) (va vb : Value) (da db : List Int) (v c i : Value) (wr : World) : Prop :=
  ∃ (k : Nat) (cc : Int) (ds : List Int), i = .int .i64 k ∧ c = .int .i64 cc ∧ ds.length = k ∧ 0 ≤ cc ∧ cc ≤ 1 ∧ Dig ds ∧ bv ds + p4 k * cc = bv (pad da k) + bv (pad db k) ∧ k ≤ max da.length db.length + 1 ∧ (max da.length db.length < k → cc = 0) ∧ Going w B va vb da db v ds wr

theorem plus_step {da db ds : List Int} {k : Nat} {cc : Int} (ha : Dig da) (hb : Dig db) (hl : ds.length = k) (hd : Dig ds) (hv : bv ds + p4 k * cc = bv (pad da k) + bv (pad db k)) :
    Dig (ds ++ [(da.getD k 0 + db.getD k 0 + cc) % 10000]) ∧ bv (ds ++ [(da.getD k 0 + db.getD k 0 + cc) % 10000]) + p4 (k + 1) * ((da.getD k 0 + db.getD k 0 + cc) / 10000) = bv (pad da (k + 1)) + bv (pad db (k + 1)) := by
  have x := dig_getD ha k
  have y := dig_getD hb k
  refine ⟨dig_snoc hd (by omega) (by omega), ?_⟩
  rw [bv_snoc, hl, bv_pad_succ, bv_pad_succ, p4_succ]
  generalize da.getD k 0 = X at *
  generalize db.getD k 0 = Y at *
  have e : X + Y + cc = (X + Y + cc) % 10000 + 10000 * ((X + Y + cc) / 10000) := by omega
  have : p4 k * (X + Y + cc) = p4 k * ((X + Y + cc) % 10000) + 10000 * p4 k * ((X + Y + cc) / 10000) := by
    conv => lhs; rw [e]
    rw [Int.mul_add, ← Int.mul_assoc, Int.mul_comm (p4 k) 10000]
  rw [Int.mul_add, Int.mul_add] at this
  omega

end Go.Proofs.YtmaioofcmgaakaaGreatDoor
