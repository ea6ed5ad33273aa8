/- What is known of the memory, as one list of facts that is carried from call to call. -/
import Derived.Test.YtcpifgoglcoeeaaLimit
namespace Go.Proofs.Ytcpifgoglcoeeaa
open Go.RowKit

/-- A fact of the memory: a cell's content, a cell that may be written, a number of the reference's. -/
inductive Fact
  | cell (b o : Nat) (v : Value)
  | free (b o : Nat)
  | num (v : Value) (n : Int) (m : Nat)
def Fact.at (W : World) : Fact → Prop
  | .cell b o v => W.cell? ⟨b, o, none⟩ = some v
  | .free b o => b < W.heap.size ∧ W.frozen? ⟨b, o, none⟩ = false
  | .num v n m => BigN W v n m
theorem Fact.below {W W' : World} (hb : Below W.heap.size W W') : ∀ {f : Fact}, f.at W → f.at W'
  | .cell _ _ _, h => keep hb (cell_lt h) h
  | .free _ _, h => ⟨Nat.lt_of_lt_of_le h.1 hb.size, frozen_below hb h.1 h.2⟩
  | .num _ _ _, h => BigN.below h hb
/-- Since the call began nothing old has turned, and these facts hold. -/
structure Held (w : World) (fs : List Fact) (W : World) : Prop where
  old : Below w.heap.size w W
  all : ∀ f ∈ fs, f.at W
theorem Held.start (w : World) : Held w [] w := ⟨Below.refl _ _, fun _ h => by cases h⟩
theorem Held.below {w W W' : World} {fs : List Fact} (h : Held w fs W) (hb : Below W.heap.size W W') : Held w fs W' :=
  ⟨h.old.trans (hb.mono h.old.size), fun f hf => Fact.below hb (h.all f hf)⟩
theorem Held.drew {w W : World} {fs : List Fact} (h : Held w fs W) : Held w fs W.drew :=
  ⟨h.old.drew, fun f hf => by cases f <;> exact h.all _ hf⟩
theorem Held.add {w W : World} {fs : List Fact} (h : Held w fs W) {f : Fact} (hf : f.at W) : Held w (f :: fs) W :=
  ⟨h.old, fun g hg => (List.mem_cons.1 hg).elim (fun e => e ▸ hf) (h.all g)⟩
theorem Held.num {w W : World} {fs : List Fact} (h : Held w fs W) {v : Value} {n : Int} {m : Nat} (hf : BigN W v n m) : Held w (.num v n m :: fs) W := h.add (f := .num v n m) hf
theorem Held.sub {w W : World} {fs gs : List Fact} (h : Held w fs W) (hs : ∀ f ∈ gs, f ∈ fs) : Held w gs W := ⟨h.old, fun f hf => h.all f (hs f hf)⟩
theorem Held.alloc {w W : World} {fs : List Fact} (h : Held w fs W) (o : Obj) : Held w fs (W.alloc o) := h.below ((Below.refl _ _).alloc (Nat.le_refl _) _)
theorem Held.box1 {w W : World} {fs : List Fact} (h : Held w fs W) (v : Value) (t : TypeId) : Held w (.cell W.heap.size 0 v :: fs) (W.alloc (.cells #[v] t)) :=
  (h.alloc _).add (show (W.alloc _).cell? ⟨W.heap.size, 0, none⟩ = some v by simp [World.cell?_alloc_new])
theorem Held.box2 {w W : World} {fs : List Fact} (h : Held w fs W) (u v : Value) (t : TypeId) : Held w (.cell W.heap.size 0 u :: .cell W.heap.size 1 v :: fs) (W.alloc (.cells #[u, v] t)) :=
  ((h.alloc _).add (f := .cell W.heap.size 1 v) (show (W.alloc _).cell? ⟨W.heap.size, 1, none⟩ = some v by simp [World.cell?_alloc_new])).add (f := .cell W.heap.size 0 u) (show (W.alloc _).cell? ⟨W.heap.size, 0, none⟩ = some u by simp [World.cell?_alloc_new])
theorem Held.cell {w W : World} {fs : List Fact} (h : Held w fs W) (b o : Nat) (v : Value) (hm : Fact.cell b o v ∈ fs) : W.cell? ⟨b, o, none⟩ = some v := h.all _ hm
theorem Held.big {w W : World} {fs : List Fact} (h : Held w fs W) (v : Value) (n : Int) (m : Nat) (hm : Fact.num v n m ∈ fs) : BigN W v n m := h.all _ hm
theorem Held.lt {w W : World} {fs : List Fact} (h : Held w fs W) (b o : Nat) (v : Value) (hm : Fact.cell b o v ∈ fs) : b < W.heap.size := cell_lt (h.cell b o v hm)
end Go.Proofs.Ytcpifgoglcoeeaa
