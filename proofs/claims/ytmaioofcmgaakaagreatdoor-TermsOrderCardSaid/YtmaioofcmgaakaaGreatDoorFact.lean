/- What is known of the memory, as one list of facts that is carried from call to call; boxes of one and two cells. -/
import Derived.Test.YtmaioofcmgaakaaGreatDoorShown
import Derived.Test.YtmaioofcmgaakaaGreatDoorOrders
namespace Go.Proofs.YtmaioofcmgaakaaGreatDoor
open Go.RowKit

theorem frozen_below {W W' : World} {p k : Nat} {b : Bool} (hb : Below W.heap.size W W') (hp : p < W.heap.size) (h : W.frozen? ⟨p, k, none⟩ = b) : W'.frozen? ⟨p, k, none⟩ = b := (hb.frozen (p := ⟨p, k, none⟩) hp).trans h
theorem cell_lt {W : World} {p k : Nat} {v : Value} (h : W.cell? ⟨p, k, none⟩ = some v) : p < W.heap.size := World.block_lt_of_cell? W ⟨p, k, none⟩ h

/-- A fact of the memory: a cell's content, a cell that may be written, a cell that is there, or whatever else stays true where only memory is made. -/
inductive Fact
  | cell (b o : Nat) (v : Value)
  | free (b o : Nat)
  | is (b o : Nat)
  | that (P : World → Prop) (h : ∀ W W' : World, Below W.heap.size W W' → P W → P W')
def Fact.at (W : World) : Fact → Prop
  | .cell b o v => W.cell? ⟨b, o, none⟩ = some v
  | .free b o => b < W.heap.size ∧ W.frozen? ⟨b, o, none⟩ = false
  | .is b o => (W.cell? ⟨b, o, none⟩).isSome = true
  | .that P _ => P W
theorem Fact.below {W W' : World} (hb : Below W.heap.size W W') : ∀ {f : Fact}, f.at W → f.at W'
  | .cell _ _ _, h => keep hb (cell_lt h) h
  | .free _ _, h => ⟨Nat.lt_of_lt_of_le h.1 hb.size, frozen_below hb h.1 h.2⟩
  | .is b o, h => by
    obtain ⟨v, hv⟩ := Option.isSome_iff_exists.1 h
    exact Option.isSome_iff_exists.2 ⟨v, keep hb (cell_lt hv) hv⟩
  | .that _ k, h => k _ _ hb h
/-- Since the call began nothing old has turned, and these facts hold. -/
structure Held (w : World) (fs : List Fact) (W : World) : Prop where
  old : Below w.heap.size w W
  all : ∀ f ∈ fs, f.at W
theorem Held.start (w : World) : Held w [] w := ⟨Below.refl _ _, fun _ h => by cases h⟩
theorem Held.below {w W W' : World} {fs : List Fact} (h : Held w fs W) (hb : Below W.heap.size W W') : Held w fs W' :=
  ⟨h.old.trans (hb.mono h.old.size), fun f hf => Fact.below hb (h.all f hf)⟩
theorem Held.drew {w W : World} {fs : List Fact} (h : Held w fs W) : Held w fs W.drew :=
  h.below ((Below.refl _ _).drew)
theorem Held.add {w W : World} {fs : List Fact} (h : Held w fs W) {f : Fact} (hf : f.at W) : Held w (f :: fs) W :=
  ⟨h.old, fun g hg => (List.mem_cons.1 hg).elim (fun e => e ▸ hf) (h.all g)⟩
theorem Held.sub {w W : World} {fs gs : List Fact} (h : Held w fs W) (hs : ∀ f ∈ gs, f ∈ fs) : Held w gs W := ⟨h.old, fun f hf => h.all f (hs f hf)⟩
theorem Held.alloc {w W : World} {fs : List Fact} (h : Held w fs W) (o : Obj) : Held w fs (W.alloc o) := h.below ((Below.refl _ _).alloc (Nat.le_refl _) _)
theorem Held.box1 {w W : World} {fs : List Fact} (h : Held w fs W) (v : Value) (t : TypeId) : Held w (.cell W.heap.size 0 v :: fs) (W.alloc (.cells #[v] t)) :=
  (h.alloc _).add (show (W.alloc _).cell? ⟨W.heap.size, 0, none⟩ = some v by simp [World.cell?_alloc_new])
theorem Held.box2 {w W : World} {fs : List Fact} (h : Held w fs W) (u v : Value) (t : TypeId) : Held w (.cell W.heap.size 0 u :: .cell W.heap.size 1 v :: fs) (W.alloc (.cells #[u, v] t)) :=
  ((h.alloc _).add (f := .cell W.heap.size 1 v) (show (W.alloc _).cell? ⟨W.heap.size, 1, none⟩ = some v by simp [World.cell?_alloc_new])).add (f := .cell W.heap.size 0 u) (show (W.alloc _).cell? ⟨W.heap.size, 0, none⟩ = some u by simp [World.cell?_alloc_new])
theorem Held.cell {w W : World} {fs : List Fact} (h : Held w fs W) (b o : Nat) (v : Value) (hm : Fact.cell b o v ∈ fs) : W.cell? ⟨b, o, none⟩ = some v := h.all _ hm
theorem Held.lt {w W : World} {fs : List Fact} (h : Held w fs W) (b o : Nat) (v : Value) (hm : Fact.cell b o v ∈ fs) : b < W.heap.size := cell_lt (h.cell b o v hm)
theorem Held.pair {w W : World} {fs : List Fact} (h : Held w fs W) (B : Nat) (u v : Value) (t : TypeId) (hB : W.heap.size = B) :
    Held w (.cell B 0 u :: .cell B 1 v :: .free B 0 :: .free B 1 :: fs) (W.alloc (.cells #[u, v] t)) := by
  subst hB
  exact ((((h.alloc _).add (f := .free W.heap.size 1) ⟨by simp, by simp [go_sem]⟩).add (f := .free W.heap.size 0) ⟨by simp, by simp [go_sem]⟩).add (f := .cell W.heap.size 1 v) (by simp [Fact.at, World.cell?_alloc_new])).add (f := .cell W.heap.size 0 u) (by simp [Fact.at, World.cell?_alloc_new])
theorem Held.lone {w W : World} {fs : List Fact} (h : Held w fs W) (B : Nat) (u : Value) (t : TypeId) (hB : W.heap.size = B) :
    Held w (.cell B 0 u :: .free B 0 :: fs) (W.alloc (.cells #[u] t)) := by
  subst hB
  exact ((h.alloc _).add (f := .free W.heap.size 0) ⟨by simp, by simp [go_sem]⟩).add (f := .cell W.heap.size 0 u) (by simp [Fact.at, World.cell?_alloc_new])
theorem Held.frozen {w W : World} {fs : List Fact} (h : Held w fs W) (b o : Nat) (hm : Fact.free b o ∈ fs) : W.frozen? ⟨b, o, none⟩ = false := (h.all _ hm).2
theorem Held.size {w W : World} {fs : List Fact} (h : Held w fs W) : w.heap.size ≤ W.heap.size := h.old.size
theorem Held.drewN {w W : World} {fs : List Fact} (h : Held w fs W) (n : Nat) : Held w fs (W.drewN n) :=
  h.below (belowDrewN (Below.refl _ _) n)
theorem Held.is {w W : World} {fs : List Fact} (h : Held w fs W) (b o : Nat) (v : Value) (hm : Fact.cell b o v ∈ fs) : Held w (.is b o :: fs) W :=
  h.add (f := .is b o) (Option.isSome_iff_exists.2 ⟨v, h.cell b o v hm⟩)
/-- A fact that a store into a block does not turn. -/
def Fact.off (B : Nat) : Fact → Prop
  | .cell b _ _ => b ≠ B
  | .free _ _ => True
  | .is _ _ => True
  | .that P _ => ∀ (W : World) (o : Nat) (u : Value), P W → P (W.setCell ⟨B, o, none⟩ u)
theorem Held.set {w W : World} {fs : List Fact} (h : Held w fs W) (B o : Nat) (u : Value) (hB : w.heap.size ≤ B) (hoff : ∀ f ∈ fs, f.off B) : Held w fs (W.setCell ⟨B, o, none⟩ u) := by
  refine ⟨h.old.setCell hB _, fun f hf => ?_⟩
  have a := h.all f hf
  have k := hoff f hf
  cases f with
  | cell b i v => exact (World.cell?_setCell_far W ⟨B, o, none⟩ ⟨b, i, none⟩ u (Ne.symm k)).trans a
  | free b i => exact ⟨by simpa using a.1, by simpa [go_sem] using a.2⟩
  | is b i =>
    obtain ⟨v, hv⟩ := Option.isSome_iff_exists.1 a
    obtain ⟨v', hv'⟩ := cell?_setCell_some (p := ⟨B, o, none⟩) (x := u) hv
    exact Option.isSome_iff_exists.2 ⟨v', hv'⟩
  | that P h => exact k W o u a
theorem Held.some {w W : World} {fs : List Fact} (h : Held w fs W) (b o : Nat) (hm : Fact.is b o ∈ fs) : (W.cell? ⟨b, o, none⟩).isSome = true := h.all _ hm
end Go.Proofs.YtmaioofcmgaakaaGreatDoor
