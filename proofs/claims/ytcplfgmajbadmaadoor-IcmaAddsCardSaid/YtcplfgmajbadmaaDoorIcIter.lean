/- The periods' shares, one by one: the iterator's contract. -/
import Derived.RangeFuncNested
import Derived.RangeFuncBound
import Derived.RangeFuncCalls
import Derived.RangeFuncLeaves
import Derived.Shelf.Abstract
import Derived.Shelf.RegionOpen
import Derived.OwnWalkIn
import Derived.TacticsInMore
import Derived.LoopNIn
import Derived.LoopIn
import Derived.Test.YtcplfgmajbadmaaDoorIcCheck
namespace Go.Proofs.YtcplfgmajbadmaaDoor
open Go.RowKit Go.Shelf
set_option linter.unusedVariables false
set_option linter.unusedSimpArgs false
attribute [local go_sem] Oper.semAt_some

theorem dy_sh {X : Nat → Int} {a b : Int} {k m : Nat} (hX : Rising X (m + 1)) (hk : k < m) (hab : a ≤ b) (h : 0 < dy a b (X k) (X (k + 1))) : 0 < dy a b (X k) (X (k + 1)) ∧ dy a b (X k) (X (k + 1)) ≤ X (k + 1) - X k ∧ X (k + 1) - X k ≤ 3652058 := by
  have b0 := hX.1 k (by omega)
  have b1 := hX.1 (k + 1) (by omega)
  have hle := hX.2 k (by omega)
  exact ⟨h, (dy_yes hab hle h).2.1, by omega⟩

/-- All blocks below n₀ but one are as they were. -/
def KpS (n₀ S : Nat) (W W' : World) : Prop := ∀ k, k < n₀ → k ≠ S → W'.heap[k]? = W.heap[k]?
theorem KpS.refl (n₀ S : Nat) (W : World) : KpS n₀ S W W := fun _ _ _ => rfl
theorem KpS.trans {n₀ S : Nat} {A B C : World} (h : KpS n₀ S A B) (k : KpS n₀ S B C) : KpS n₀ S A C := fun i hi hs => (k i hi hs).trans (h i hi hs)
theorem KpS.cell {n₀ S : Nat} {A B : World} (h : KpS n₀ S A B) {b o : Nat} (hb : b < n₀) (hs : b ≠ S) : B.cell? ⟨b, o, none⟩ = A.cell? ⟨b, o, none⟩ := World.cell?_of_block (a := ⟨b, o, none⟩) (h b hb hs)
theorem KpS.of_below {n₀ S B : Nat} {W W' : World} (h : Below B W W') (hn : n₀ ≤ B) : KpS n₀ S W W' := fun k hk _ => h.block k (by omega)

set_option maxRecDepth 100000 in
set_option maxHeartbeats 4000000 in
theorem shares1_in (n : Nat) (hn : 1 ≤ n) (l Br Bb Ba n₀ S b off m cap : Nat) (X : Nat → Int) (av bv : Int) (hX : Rising X (m + 1)) (hm1 : 1 ≤ m) (hm : m < 100) (hcap : m + 1 ≤ cap) (ha : 1 ≤ av ∧ av ≤ 3652059) (hb : 1 ≤ bv ∧ bv ≤ 3652059) (hab : av ≤ bv)
    (l1 : Br < n₀ ∧ Br ≠ S) (l2 : Bb < n₀ ∧ Bb ≠ S) (l3 : Ba < n₀ ∧ Ba ≠ S) (l4 : b < n₀ ∧ b ≠ S) (J Jx : List Sh → World → Prop)
    (hY : ∀ pre x W, J pre W → pre.length < m → YieldAt Fence.wide (n - 1) Tryd.prog l #[.int .i64 x.1.1, .int .i64 x.1.2] W fun e W' =>
      (e = .returned (.bool true) ∧ J (pre ++ [x]) W' ∧ KpS n₀ S W W') ∨ (e = .returned (.bool false) ∧ Jx (pre ++ [x]) W'))
    (W : World) (c1 : W.cell? ⟨Br, 0, none⟩ = some (.slice (some ⟨b, off, none⟩) (m + 1) cap)) (c2 : W.cell? ⟨Bb, 0, none⟩ = some (.int .i64 bv)) (c3 : W.cell? ⟨Ba, 0, none⟩ = some (.int .i64 av)) (hC : Cells W b off X (m + 1)) (h0 : J [] W) :
    CallsIn Fence.wide n Tryd.prog 32 #[.func (.yield l) #[] #[], .pointer (some ⟨Br, 0, none⟩), .pointer (some ⟨Bb, 0, none⟩), .pointer (some ⟨Ba, 0, none⟩)] W fun e W' => (∃ v, e = .returned v) ∧
      ((∃ ys, ys = sh X av bv m ∧ J ys W') ∨ (∃ pre, True ∧ Jx pre W')) := by
  have HX := Lib.hid hX
  have HC := Lib.hid hC
  have HAB := Lib.hid hab
  clear hX hC hab
  refine callsIn_of_wp Tryd.func32 rfl trivial ?_ rfl
  simp only [Tryd.ntmps32, List.size_toArray, List.length_cons, List.length_nil, Nat.reduceAdd, Nat.reduceSub, Array.replicate_succ, Array.replicate_zero, List.push_toArray, List.append_toArray, List.nil_append, List.cons_append]
  gi_wp2
  gi_loopw [5, 6, 7, 8, 12] (fun i t2 fr ds ix wr => ∃ k : Nat, k ≤ m ∧ ix = .int .i64 k ∧ J (sh X av bv k) wr ∧ KpS n₀ S W wr)
    (fun _ _ _ _ ix _ => m - (intOf ix).toNat)
  case atStart => exact ⟨0, Nat.zero_le _, rfl, h0, KpS.refl _ _ _⟩
  case round =>
    obtain ⟨k, hk, rfl, hJs, hnx⟩ := hrel
    have cc1 := (hnx.cell (o := 0) l1.1 l1.2).trans c1
    have cc2 := (hnx.cell (o := 0) l2.1 l2.2).trans c2
    have cc3 := (hnx.cell (o := 0) l3.1 l3.2).trans c3
    by_cases hlt : k < m
    · have ck := (hnx.cell (o := off + k) l4.1 l4.2).trans (HC.out k (by omega))
      have ck1 : wr.cell? ⟨b, off + 1 + k, none⟩ = some (.int .i64 (X (k + 1))) := by
        have := (hnx.cell (o := off + (k + 1)) l4.1 l4.2).trans (HC.out (k + 1) (by omega))
        rwa [show off + (k + 1) = off + 1 + k by omega] at this
      have b0 := HX.out.1 k (by omega)
      have b1 := HX.out.1 (k + 1) (by omega)
      have b2 := HX.out.2 k (by omega)
      by_cases hd : 0 < dy av bv (X k) (X (k + 1))
      · have hh := dy_sh HX.out hlt HAB.out hd
        obtain ⟨fn, tmps, assign, body, hy, hR⟩ := hY _ ⟨(dy av bv (X k) (X (k + 1)), X (k + 1) - X k), hh⟩ wr hJs (by have := sh_len X av bv k; omega)
        have ES := Lib.hid (sh_yes hh)
        dsimp only at hy
        rw [← ES.out] at hR
        clear hh ES
        unfold dy at hd hy
        obtain ⟨p, hp⟩ : ∃ p, min bv (X (k + 1)) = p := ⟨_, rfl⟩
        obtain ⟨q, hq⟩ : ∃ q, max av (X k) = q := ⟨_, rfl⟩
        have bp : -3652059 ≤ p - q ∧ p - q ≤ 3652059 := by omega
        rw [hp, hq] at hd hy
        gi_wp2
        refine hR.mono ?_
        rintro e W3 (⟨rfl, hJ3, hk3⟩ | ⟨rfl, hJx3⟩)
        · gi_wp2
          go_roundw
          case rel => exact ⟨k + 1, by omega, by go_num, hJ3, hnx.trans hk3⟩
          case measure => simp [intOf]; omega
        · gi_wp2
          refine bodyPost_ret (results_none rfl _ _ _) rfl ?_
          exact ⟨⟨_, rfl⟩, .inr ⟨_, trivial, hJx3⟩⟩
      · have ES := Lib.hid (sh_no hd)
        rw [← ES.out] at hJs
        clear ES
        unfold dy at hd
        obtain ⟨p, hp⟩ : ∃ p, min bv (X (k + 1)) = p := ⟨_, rfl⟩
        obtain ⟨q, hq⟩ : ∃ q, max av (X k) = q := ⟨_, rfl⟩
        have bp : -3652059 ≤ p - q ∧ p - q ≤ 3652059 := by omega
        rw [hp, hq] at hd
        gi_wp2
        refine ⟨fun _ h => (by cases h), ?_⟩
        gi_wp2
        go_roundw
        case rel => exact ⟨k + 1, by omega, by go_num, hJs, hnx⟩
        case measure => simp [intOf]; omega
    · obtain rfl : k = m := by omega
      gi_wp2
      go_end0
      exact ⟨⟨_, rfl⟩, .inl ⟨_, rfl, hJs⟩⟩

theorem shares_stops (n : Nat) (hn : 1 ≤ n) (Br Bb Ba n₀ S b off m cap : Nat) (X : Nat → Int) (av bv : Int) (hX : Rising X (m + 1)) (hm1 : 1 ≤ m) (hm : m < 100) (hcap : m + 1 ≤ cap) (ha : 1 ≤ av ∧ av ≤ 3652059) (hb : 1 ≤ bv ∧ bv ≤ 3652059) (hab : av ≤ bv)
    (l1 : Br < n₀ ∧ Br ≠ S) (l2 : Bb < n₀ ∧ Bb ≠ S) (l3 : Ba < n₀ ∧ Ba ≠ S) (l4 : b < n₀ ∧ b ≠ S) (w : World) (hn₀ : n₀ ≤ w.heap.size)
    (c1 : w.cell? ⟨Br, 0, none⟩ = some (.slice (some ⟨b, off, none⟩) (m + 1) cap)) (c2 : w.cell? ⟨Bb, 0, none⟩ = some (.int .i64 bv)) (c3 : w.cell? ⟨Ba, 0, none⟩ = some (.int .i64 av)) (hC : Cells w b off X (m + 1)) :
    SeqStopsK Fence.wide n Tryd.prog 32 #[.pointer (some ⟨Br, 0, none⟩), .pointer (some ⟨Bb, 0, none⟩), .pointer (some ⟨Ba, 0, none⟩)] (fun x : Sh => #[Value.int .i64 x.1.1, Value.int .i64 x.1.2]) (KpS n₀ S) (fun ys => ys = sh X av bv m)
      (fun _ => True) m w := fun l J Jx W hW _ _ hY h0 =>
  shares1_in n hn l Br Bb Ba n₀ S b off m cap X av bv hX hm1 hm hcap ha hb hab l1 l2 l3 l4 J Jx hY W (keep hW (by omega) c1) (keep hW (by omega) c2) (keep hW (by omega) c3) (hC.below hW) h0

theorem shares_any (a b : Int) (ao : Option Addr) (n cap : Nat) (w : World) : Calls Tryd.prog 20 #[.int .i64 a, .int .i64 b, .slice ao n cap] w fun e w' =>
    e = .returned (.func (.func 32) #[] #[.pointer (some ⟨w.heap.size + 2, 0, none⟩), .pointer (some ⟨w.heap.size + 1, 0, none⟩), .pointer (some ⟨w.heap.size, 0, none⟩)]) ∧
    w' = ((w.alloc (.cells #[.int .i64 a] 3)).alloc (.cells #[.int .i64 b] 3)).alloc (.cells #[.slice ao n cap] 22) := by
  go_enter Tryd.func20, Tryd.ntmps20
  go_wp2
  go_ret
  exact ⟨rfl, rfl⟩
end Go.Proofs.YtcplfgmajbadmaaDoor
