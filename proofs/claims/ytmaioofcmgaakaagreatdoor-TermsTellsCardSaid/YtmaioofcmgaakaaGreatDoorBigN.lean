/- The reference's numbers of any size, told by what they are: contracts over plain numbers. -/
import Derived.Test.YtmaioofcmgaakaaGreatDoorProd
namespace Go.Proofs.YtmaioofcmgaakaaGreatDoor
open Go.RowKit

/-- A slice of the reference's own is the number n, of at most m parts. -/
def BigN (W : World) (v : Value) (n : Int) (m : Nat) : Prop := ∃ ds, Big W v ds ∧ Dig ds ∧ bv ds = n ∧ ds.length ≤ m ∧ (bv ds = 0 → ds = [])
/-- The number n, of at most m parts, is handed back, in new memory. -/
def NumOut (n : Int) (m : Nat) (w : World) (e : Ending) (w' : World) : Prop := ∃ a k c, e = .returned (.agg #[.slice a k c]) ∧ BigN w' (.slice a k c) n m ∧ (∀ g, (Value.slice a k c).ownBlock = some g → w.heap.size ≤ g) ∧ Below w.heap.size w w'

theorem BigN.below {w w' : World} {v : Value} {n : Int} {m : Nat} (h : BigN w v n m) (hb : Below w.heap.size w w') : BigN w' v n m := by
  obtain ⟨ds, h1, h2, h3, h4⟩ := h
  exact ⟨ds, h1.below hb, h2, h3, h4⟩
theorem BigN.alloc {w : World} {v : Value} {n : Int} {m : Nat} (h : BigN w v n m) (o : Obj) : BigN (w.alloc o) v n m := by
  obtain ⟨ds, h1, h2, h3, h4⟩ := h
  exact ⟨ds, h1.alloc o, h2, h3, h4⟩
theorem BigN.drew {w : World} {v : Value} {n : Int} {m : Nat} (h : BigN w v n m) : BigN w.drew v n m := h
theorem BigN.nonneg {w : World} {v : Value} {n : Int} {m : Nat} (h : BigN w v n m) : 0 ≤ n := by
  obtain ⟨ds, _, h2, rfl, _⟩ := h
  exact (bv_bd h2).1
theorem BigN.more {w : World} {v : Value} {n : Int} {m m' : Nat} (h : BigN w v n m) (hm : m ≤ m') : BigN w v n m' := by
  obtain ⟨ds, h1, h2, h3, h4⟩ := h
  exact ⟨ds, h1, h2, h3, Nat.le_trans h4.1 hm, h4.2⟩
theorem BigN.nil (w : World) : BigN w (.slice none 0 0) 0 0 := ⟨[], World.ownsRow_nil _ _ _ _, dig_nil, rfl, Nat.le_refl _, fun _ => rfl⟩
/-- A store into a block that the number does not lie in. -/
theorem Big.setCell {W : World} {v : Value} {ds : List Int} (h : Big W v ds) {p : Addr} (hp : v.ownBlock ≠ some p.block) (u : Value) : Big (W.setCell p u) v ds := by
  obtain ⟨h1, h2⟩ := h
  refine ⟨h1, ?_⟩
  rcases h2 with h2 | ⟨g, cap, cur, hv, hg, hh, hr⟩
  · exact .inl h2
  · refine .inr ⟨g, cap, cur, hv, hg, ?_, hr⟩
    rw [Below.heap_setCell _ _ _ _ (by rintro rfl; exact hp (by rw [hv]; rfl))]
    exact hh
theorem BigN.setCell {W : World} {v : Value} {n : Int} {m : Nat} (h : BigN W v n m) {p : Addr} (hp : v.ownBlock ≠ some p.block) (u : Value) : BigN (W.setCell p u) v n m := by
  obtain ⟨ds, h1, h2, h3, h4⟩ := h
  exact ⟨ds, h1.setCell hp u, h2, h3, h4⟩
theorem BigN.old {w : World} {v : Value} {n : Int} {m : Nat} (h : BigN w v n m) : ∀ k, v.ownBlock = some k → k < w.heap.size := by
  obtain ⟨ds, h1, _⟩ := h
  exact h1.old

theorem num_out {P : List Int → Prop} {w : World} {n : Int} {m : Nat} {e : Ending} {w' : World} (h : BigOut P w e w') (hp : ∀ ds, P ds → bv ds = n ∧ ds.length ≤ m ∧ (bv ds = 0 → ds = [])) : NumOut n m w e w' := by
  obtain ⟨v, ds, rfl, hown, hd, hP, hb⟩ := h
  obtain ⟨a, k, c, rfl⟩ := own_slice hown
  exact ⟨a, k, c, rfl, ⟨ds, World.ownsRow.mono hown (Nat.zero_le _), hd, (hp ds hP).1, (hp ds hP).2⟩, fun g hg => (World.ownsRow.lt hown g hg).1, hb⟩

theorem fromU_n (n : Int) (w : World) (h0 : 0 ≤ n) (h1 : n < 18446744073709551616) : Calls Tryz.prog 32 #[.int .u64 n] w (NumOut n 5 w) :=
  (fromU n w h0 h1).mono fun _ _ h => num_out h fun _ h => h
theorem prod_n (va vb : Value) (x y : Int) (a b : Nat) (w : World) (ha : BigN w va x a) (hb : BigN w vb y b) (la : a ≤ 40000) (lb : b ≤ 40000) :
    Calls Tryz.prog 21 #[.agg #[va], .agg #[vb]] w (NumOut (x * y) (a + b + 1) w) := by
  obtain ⟨da, a1, a2, rfl, a4⟩ := ha
  obtain ⟨db, b1, b2, rfl, b4⟩ := hb
  exact (prodB va vb da db w a1 b1 a2 b2 (by omega) (by omega)).mono fun _ _ h => num_out h fun _ h => ⟨h.1, by omega, h.2.2⟩
theorem cmp_n (va vb : Value) (x y : Int) (a b : Nat) (w : World) (ha : BigN w va x a) (hb : BigN w vb y b) (la : a ≤ 100000) (lb : b ≤ 100000) :
    Calls Tryz.prog 23 #[.agg #[va], .agg #[vb]] w fun e w' => e = .returned (.int .i64 (cmpI x y)) ∧ Below w.heap.size w w' := by
  obtain ⟨da, a1, a2, rfl, a4⟩ := ha
  obtain ⟨db, b1, b2, rfl, b4⟩ := hb
  exact cmpB va vb da db w a1 b1 a2 b2 (by omega) (by omega)

theorem bigN_set_old {W : World} {v : Value} {n : Int} {m : Nat} {B : Nat} {p : Addr} {u : Value} (h : BigN W v n m) (hv : ∀ g, v.ownBlock = some g → B ≤ g) (hp : p.block < B) : BigN (W.setCell p u) v n m :=
  h.setCell (fun e => by have := hv _ e; omega) u
end Go.Proofs.YtmaioofcmgaakaaGreatDoor
