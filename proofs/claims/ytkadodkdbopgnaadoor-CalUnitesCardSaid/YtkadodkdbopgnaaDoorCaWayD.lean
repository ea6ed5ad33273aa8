/- Package cal: days of both, sorted, each once; what is off in either. -/
import Derived.Test.YtkadodkdbopgnaaDoorCaWayC
import Derived.Test.YtkadodkdbopgnaaDoorCaArr
namespace Go.Proofs.YtkadodkdbopgnaaDoor
open Go.RowKit
set_option linter.unusedVariables false
set_option linter.unusedSimpArgs false

theorem Held.box_7 {w W : World} {fs : List Fact} (h : Held w fs W) (B : Nat) (x0 x1 x2 x3 x4 x5 x6 : Value) (t : TypeId) (hB : W.heap.size = B) :
    Held w (.cell B 0 x0 :: .cell B 1 x1 :: .cell B 2 x2 :: .cell B 3 x3 :: .cell B 4 x4 :: .cell B 5 x5 :: .cell B 6 x6 :: .free B 0 :: .free B 1 :: .free B 2 :: .free B 3 :: .free B 4 :: .free B 5 :: .free B 6 :: fs) (W.alloc (.cells #[x0, x1, x2, x3, x4, x5, x6] t)) := by
  subst hB
  exact ((((((((((((((h.alloc _).add (f := .free W.heap.size 6) ⟨by simp, by simp [go_sem]⟩).add (f := .free W.heap.size 5) ⟨by simp, by simp [go_sem]⟩).add (f := .free W.heap.size 4) ⟨by simp, by simp [go_sem]⟩).add (f := .free W.heap.size 3) ⟨by simp, by simp [go_sem]⟩).add (f := .free W.heap.size 2) ⟨by simp, by simp [go_sem]⟩).add (f := .free W.heap.size 1) ⟨by simp, by simp [go_sem]⟩).add (f := .free W.heap.size 0) ⟨by simp, by simp [go_sem]⟩).add (f := .cell W.heap.size 6 x6) (by simp [Fact.at, World.cell?_alloc_new])).add (f := .cell W.heap.size 5 x5) (by simp [Fact.at, World.cell?_alloc_new])).add (f := .cell W.heap.size 4 x4) (by simp [Fact.at, World.cell?_alloc_new])).add (f := .cell W.heap.size 3 x3) (by simp [Fact.at, World.cell?_alloc_new])).add (f := .cell W.heap.size 2 x2) (by simp [Fact.at, World.cell?_alloc_new])).add (f := .cell W.heap.size 1 x1) (by simp [Fact.at, World.cell?_alloc_new])).add (f := .cell W.heap.size 0 x0) (by simp [Fact.at, World.cell?_alloc_new])
def mx13 (a b : Nat → Bool) (j k : Nat) : Bool := if k < j then a k || b k else a k
theorem mx13_up (a b : Nat → Bool) (j : Nat) : ∀ k, upd13 (fun k => .bool (mx13 a b j k)) j (.bool (a j || b j)) k = .bool (mx13 a b (j + 1) k) := fun k => by
  unfold upd13 mx13
  by_cases e : k = j
  · subst e
    rw [if_pos rfl, if_pos (by omega)]
  · rw [if_neg e]
    show Value.bool (if k < j then a k || b k else a k) = _
    by_cases g : k < j
    · rw [if_pos g, if_pos (by omega)]
    · rw [if_neg g, if_neg (by omega)]
open Go.Sort in
/-- A row of days that is sorted in its place. -/
theorem own_sorted13 {w w1 : World} {base g n cap k : Nat} {l : List Int} {os : Array Obj} (hbase : base ≤ g) (hg : g < w1.heap.size) (hb : Below w.heap.size w w1) (hbw : base = w.heap.size) (ho : w1.ownsRow base 3 1 (.slice (some ⟨g, 0, none⟩) n cap) n (il l)) (hl : l.length = n) :
    (grow (putRow (Value.int .i64) (Sort.ahead w1 k) g 0 (srt l).toArray) os).ownsRow base 3 1 (.slice (some ⟨g, 0, none⟩) n cap) n (il (srt l)) ∧ Below w.heap.size w (grow (putRow (Value.int .i64) (Sort.ahead w1 k) g 0 (srt l).toArray) os) := by
  subst hbw
  have hs : (srt l).length = n := by rw [srt_len, hl]
  have h1 := Lib.ownsRow_putRow (enc := Value.int .i64) (q := k) (k := n) (ys := srt l) ho hs (Nat.le_refl _)
  rw [List.take_of_length_le (by omega)] at h1
  have z : w1.heap.size = (putRow (Value.int .i64) (Sort.ahead w1 k) g 0 (srt l).toArray).heap.size := by simp [putRow, mapBlock, Sort.ahead]
  refine ⟨own_below13 h1 (below_grow13 (Below.refl _ _) (Nat.le_refl _) os), below_grow13 (Lib.below_putRow hb hbase) ?_ os⟩
  rw [← z]; exact hb.size
set_option maxHeartbeats 4000000 in
set_option maxRecDepth 100000 in
theorem ctog_is (B : Nat) (a1 : Option Addr) (n1 c1 : Nat) (X : Nat → Int) (a2 : Option Addr) (n2 c2 : Nat) (Y : Nat → Int) (w : World) (h1 : w.cell? ⟨B, 0, none⟩ = some (.slice a1 n1 c1)) (h2 : w.cell? ⟨B, 1, none⟩ = some (.slice a2 n2 c2))
    (r1 : DaysAt w a1 X n1 c1) (r2 : DaysAt w a2 Y n2 c2) (b1 : n1 ≤ 2000) (b2 : n2 ≤ 2000) (hX : ∀ j, j + 1 < n1 → X j < X (j + 1)) (hY : ∀ j, j + 1 < n2 → Y j < Y (j + 1)) :
    Calls Tryd.prog 36 #[.slice (some ⟨B, 0, none⟩) 2 2] w fun e w' => ∃ ao cap, e = .returned (.slice ao (mg (dl X n1) (dl Y n2)).length cap) ∧ DaysAt w' ao (ld (mg (dl X n1) (dl Y n2))) (mg (dl X n1) (dl Y n2)).length cap ∧ (∀ p, ao = some p → w.heap.size ≤ p.block ∧ p.block < w'.heap.size) ∧ Below w.heap.size w w' := by
  obtain ⟨l, hl⟩ : ∃ l, dl X n1 ++ dl Y n2 = l := ⟨_, rfl⟩
  have ll : l.length = n1 + n2 := by rw [← hl, List.length_append, dl_len, dl_len]
  have hm : Go.Lib.compact (srt l) = mg (dl X n1) (dl Y n2) := by rw [← hl]; exact comp_srt (dl_rise hX) (dl_rise hY)
  have C := ccat_d B a1 n1 c1 (il (dl X n1)) a2 n2 c2 (il (dl Y n2)) w h1 h2 (row_days r1) (row_days r2) b1 b2
  rw [show il (dl X n1) ++ il (dl Y n2) = il l by rw [← hl]; simp [il]] at C
  rw [← hm]
  have C1 := Lib.hid C
  clear C h1 h2 r1 r2 hX hY hl hm
  obtain ⟨n, hn⟩ : ∃ n, n1 + n2 = n := ⟨_, rfl⟩
  rw [hn] at C1 ll
  have n4 : n ≤ 4000 := by omega
  clear hn b1 b2
  go_enter Tryd.func36, Tryd.ntmps36
  go_wp2_with fail
  (with_reducible refine (C1.out).mono ?_)
  rintro e w1 ⟨v, rfl, hown, hB⟩
  clear C1
  by_cases hv : v = .slice none 0 0
  · subst hv
    have l0 : l = [] := by
      have := hown.1
      rw [il_len] at this
      rcases hown.2 with ⟨_, e⟩ | ⟨g, cap, cur, e, _⟩
      · subst e; exact List.length_eq_zero_iff.1 ll
      · cases e
    subst l0
    have C2 := Lib.hid (fun u => Tryd.slices_Sort_int_none none 0 u)
    have C3 := Lib.hid (fun u => Tryd.slices_Compact_int_empty none 0 u)
    clear hown
    go_wp2_with fail
    (with_reducible refine (C2.out _).mono ?_)
    rintro e w2 ⟨rfl, rfl⟩
    go_wp2_with fail
    (with_reducible refine (C3.out _).mono ?_)
    rintro e w3 ⟨rfl, rfl⟩
    go_wp2
    go_ret
    have z : (Go.Lib.compact (srt [])).length = 0 := by have := Go.Lib.compact_length_le (srt []); rw [srt_len] at this; simpa using this
    refine ⟨none, 0, ?_, ⟨by rw [z]; exact Nat.le_refl _, fun k => absurd k (by rw [z]; exact Nat.lt_irrefl _)⟩, (fun p hp => by cases hp), hB⟩
    rw [z]
    rfl
  · obtain ⟨g, cap, rfl, hbase, hg, hnc, hcm, _, hH⟩ := Lib.holds_of_ownsRow (enc := Value.int .i64) (zs := l) hown hv
    have C2 : Calls Tryd.prog 51 #[.slice (some ⟨g, 0, none⟩) l.length cap] w1 fun e w' => e = .returned (.tuple #[]) ∧ ∃ n os, w' = Go.Sort.grow (Go.Sort.putRow (Value.int .i64) (Go.Sort.ahead w1 n) g 0 (srt l).toArray) os := Tryd.slices_Sort_int g 0 cap l w1 hH hg (by omega)
    rw [ll] at C2
    have D2 := Lib.hid C2
    have OW := Lib.hid hown
    clear C2 hown hH hv
    go_wp2_with fail
    (with_reducible refine (D2.out).mono ?_)
    rintro e w2 ⟨rfl, k, os, rfl⟩
    clear D2
    obtain ⟨ho2, hB2⟩ := own_sorted13 (k := k) (os := os) hbase hg hB rfl OW.out ll
    have s2 : (srt l).length = n := by rw [srt_len, ll]
    have nv : (Value.slice (some ⟨g, 0, none⟩) n cap) ≠ .slice none 0 0 := fun e => by cases e
    obtain ⟨g', cap', e1, _, _, hnc2, _, _, hH2⟩ := Lib.holds_of_ownsRow (enc := Value.int .i64) (zs := srt l) ho2 nv
    injection e1 with e1 _ e3
    injection e1 with e1
    injection e1 with e1
    subst e1 e3
    have C3 := Tryd.slices_Compact_int g 0 cap (srt l) _ hH2 (by omega) (by omega)
    rw [s2] at C3
    have D3 := Lib.hid C3
    have OW2 := Lib.hid ho2
    clear C3 ho2 hH2 nv OW hB
    go_wp2_with fail
    (with_reducible refine (D3.out).mono ?_)
    rintro e w3 ⟨rfl, q, rfl⟩
    clear D3
    have kl := Go.Lib.compact_length_le (srt l)
    rw [s2] at kl
    have ho3 := Lib.ownsRow_putRow (enc := Value.int .i64) (q := q) (k := (Go.Lib.compact (srt l)).length) (ys := Go.Lib.compact (srt l) ++ List.replicate (n - (Go.Lib.compact (srt l)).length) 0) OW2.out (by rw [List.length_append, List.length_replicate]; omega) kl
    rw [List.take_left] at ho3
    have hB3 := Lib.below_putRow (enc := Value.int .i64) (q := q) (d := (Go.Lib.compact (srt l) ++ List.replicate (n - (Go.Lib.compact (srt l)).length) 0).toArray) hB2 hbase
    obtain ⟨ao, cap2, e, hd⟩ := own_days13 rfl ho3
    injection e with e1 _ e3
    subst e1 e3
    have HD := Lib.hid hd
    have HP := Lib.hid (World.ownsRow.lt ho3 g rfl)
    have HB3 := Lib.hid hB3
    clear hd hB3 ho3 OW2 hB2
    go_wp2
    go_ret
    exact ⟨_, _, rfl, HD.out, (fun p hp => by cases hp; exact HP.out), HB3.out⟩
theorem ix13_0 (b : Nat → Bool) (w : World) : (Instr.index 22 (.agg #[.bool (b 0), .bool (b 1), .bool (b 2), .bool (b 3), .bool (b 4), .bool (b 5), .bool (b 6)]) (.int .i64 ((0 : Nat) : Int))).run Tryd.prog w = .ok (.bool (b 0)) w := by kernel_rfl
theorem ix13_1 (b : Nat → Bool) (w : World) : (Instr.index 22 (.agg #[.bool (b 0), .bool (b 1), .bool (b 2), .bool (b 3), .bool (b 4), .bool (b 5), .bool (b 6)]) (.int .i64 ((1 : Nat) : Int))).run Tryd.prog w = .ok (.bool (b 1)) w := by kernel_rfl
theorem ix13_2 (b : Nat → Bool) (w : World) : (Instr.index 22 (.agg #[.bool (b 0), .bool (b 1), .bool (b 2), .bool (b 3), .bool (b 4), .bool (b 5), .bool (b 6)]) (.int .i64 ((2 : Nat) : Int))).run Tryd.prog w = .ok (.bool (b 2)) w := by kernel_rfl
theorem ix13_3 (b : Nat → Bool) (w : World) : (Instr.index 22 (.agg #[.bool (b 0), .bool (b 1), .bool (b 2), .bool (b 3), .bool (b 4), .bool (b 5), .bool (b 6)]) (.int .i64 ((3 : Nat) : Int))).run Tryd.prog w = .ok (.bool (b 3)) w := by kernel_rfl
theorem ix13_4 (b : Nat → Bool) (w : World) : (Instr.index 22 (.agg #[.bool (b 0), .bool (b 1), .bool (b 2), .bool (b 3), .bool (b 4), .bool (b 5), .bool (b 6)]) (.int .i64 ((4 : Nat) : Int))).run Tryd.prog w = .ok (.bool (b 4)) w := by kernel_rfl
theorem ix13_5 (b : Nat → Bool) (w : World) : (Instr.index 22 (.agg #[.bool (b 0), .bool (b 1), .bool (b 2), .bool (b 3), .bool (b 4), .bool (b 5), .bool (b 6)]) (.int .i64 ((5 : Nat) : Int))).run Tryd.prog w = .ok (.bool (b 5)) w := by kernel_rfl
theorem ix13_6 (b : Nat → Bool) (w : World) : (Instr.index 22 (.agg #[.bool (b 0), .bool (b 1), .bool (b 2), .bool (b 3), .bool (b 4), .bool (b 5), .bool (b 6)]) (.int .i64 ((6 : Nat) : Int))).run Tryd.prog w = .ok (.bool (b 6)) w := by kernel_rfl
set_option maxHeartbeats 4000000 in
set_option maxRecDepth 100000 in
theorem cei_is (a b : Nat → Bool) (w : World) :
    Calls Tryd.prog 34 #[.agg #[.bool (a 0), .bool (a 1), .bool (a 2), .bool (a 3), .bool (a 4), .bool (a 5), .bool (a 6)], .agg #[.bool (b 0), .bool (b 1), .bool (b 2), .bool (b 3), .bool (b 4), .bool (b 5), .bool (b 6)]] w fun e w' => e = .returned (.agg #[.bool (a 0 || b 0), .bool (a 1 || b 1), .bool (a 2 || b 2), .bool (a 3 || b 3), .bool (a 4 || b 4), .bool (a 5 || b 5), .bool (a 6 || b 6)]) ∧ Below w.heap.size w w' := by
  have H := Held.start w
  go_enter Tryd.func34, Tryd.ntmps34
  replace H := ((H.box_7 (w.heap.size) (.bool (a 0)) (.bool (a 1)) (.bool (a 2)) (.bool (a 3)) (.bool (a 4)) (.bool (a 5)) (.bool (a 6)) 22 rfl).box_7 (w.heap.size + 1) (.bool (b 0)) (.bool (b 1)) (.bool (b 2)) (.bool (b 3)) (.bool (b 4)) (.bool (b 5)) (.bool (b 6)) 22 (by simp)).box_7 (w.heap.size + 1 + 1) (.bool false) (.bool false) (.bool false) (.bool false) (.bool false) (.bool false) (.bool false) 22 (by simp)
  have A1 : ArrAt _ w.heap.size 7 (fun k => .bool (mx13 a b 0 k)) := fun k hk => by
    match k, hk with
    | 0, _ => exact ⟨H.cell (w.heap.size) 0 (.bool (a 0)) ((List.Mem.tail _ (List.Mem.tail _ (List.Mem.tail _ (List.Mem.tail _ (List.Mem.tail _ (List.Mem.tail _ (List.Mem.tail _ (List.Mem.tail _ (List.Mem.tail _ (List.Mem.tail _ (List.Mem.tail _ (List.Mem.tail _ (List.Mem.tail _ (List.Mem.tail _ (List.Mem.tail _ (List.Mem.tail _ (List.Mem.tail _ (List.Mem.tail _ (List.Mem.tail _ (List.Mem.tail _ (List.Mem.tail _ (List.Mem.tail _ (List.Mem.tail _ (List.Mem.tail _ (List.Mem.tail _ (List.Mem.tail _ (List.Mem.tail _ (List.Mem.tail _ (List.Mem.head _)))))))))))))))))))))))))))))), H.frozen (w.heap.size) 0 ((List.Mem.tail _ (List.Mem.tail _ (List.Mem.tail _ (List.Mem.tail _ (List.Mem.tail _ (List.Mem.tail _ (List.Mem.tail _ (List.Mem.tail _ (List.Mem.tail _ (List.Mem.tail _ (List.Mem.tail _ (List.Mem.tail _ (List.Mem.tail _ (List.Mem.tail _ (List.Mem.tail _ (List.Mem.tail _ (List.Mem.tail _ (List.Mem.tail _ (List.Mem.tail _ (List.Mem.tail _ (List.Mem.tail _ (List.Mem.tail _ (List.Mem.tail _ (List.Mem.tail _ (List.Mem.tail _ (List.Mem.tail _ (List.Mem.tail _ (List.Mem.tail _ (List.Mem.tail _ (List.Mem.tail _ (List.Mem.tail _ (List.Mem.tail _ (List.Mem.tail _ (List.Mem.tail _ (List.Mem.tail _ (List.Mem.head _)))))))))))))))))))))))))))))))))))))⟩
    | 1, _ => exact ⟨H.cell (w.heap.size) 1 (.bool (a 1)) ((List.Mem.tail _ (List.Mem.tail _ (List.Mem.tail _ (List.Mem.tail _ (List.Mem.tail _ (List.Mem.tail _ (List.Mem.tail _ (List.Mem.tail _ (List.Mem.tail _ (List.Mem.tail _ (List.Mem.tail _ (List.Mem.tail _ (List.Mem.tail _ (List.Mem.tail _ (List.Mem.tail _ (List.Mem.tail _ (List.Mem.tail _ (List.Mem.tail _ (List.Mem.tail _ (List.Mem.tail _ (List.Mem.tail _ (List.Mem.tail _ (List.Mem.tail _ (List.Mem.tail _ (List.Mem.tail _ (List.Mem.tail _ (List.Mem.tail _ (List.Mem.tail _ (List.Mem.tail _ (List.Mem.head _))))))))))))))))))))))))))))))), H.frozen (w.heap.size) 1 ((List.Mem.tail _ (List.Mem.tail _ (List.Mem.tail _ (List.Mem.tail _ (List.Mem.tail _ (List.Mem.tail _ (List.Mem.tail _ (List.Mem.tail _ (List.Mem.tail _ (List.Mem.tail _ (List.Mem.tail _ (List.Mem.tail _ (List.Mem.tail _ (List.Mem.tail _ (List.Mem.tail _ (List.Mem.tail _ (List.Mem.tail _ (List.Mem.tail _ (List.Mem.tail _ (List.Mem.tail _ (List.Mem.tail _ (List.Mem.tail _ (List.Mem.tail _ (List.Mem.tail _ (List.Mem.tail _ (List.Mem.tail _ (List.Mem.tail _ (List.Mem.tail _ (List.Mem.tail _ (List.Mem.tail _ (List.Mem.tail _ (List.Mem.tail _ (List.Mem.tail _ (List.Mem.tail _ (List.Mem.tail _ (List.Mem.tail _ (List.Mem.head _))))))))))))))))))))))))))))))))))))))⟩
    | 2, _ => exact ⟨H.cell (w.heap.size) 2 (.bool (a 2)) ((List.Mem.tail _ (List.Mem.tail _ (List.Mem.tail _ (List.Mem.tail _ (List.Mem.tail _ (List.Mem.tail _ (List.Mem.tail _ (List.Mem.tail _ (List.Mem.tail _ (List.Mem.tail _ (List.Mem.tail _ (List.Mem.tail _ (List.Mem.tail _ (List.Mem.tail _ (List.Mem.tail _ (List.Mem.tail _ (List.Mem.tail _ (List.Mem.tail _ (List.Mem.tail _ (List.Mem.tail _ (List.Mem.tail _ (List.Mem.tail _ (List.Mem.tail _ (List.Mem.tail _ (List.Mem.tail _ (List.Mem.tail _ (List.Mem.tail _ (List.Mem.tail _ (List.Mem.tail _ (List.Mem.tail _ (List.Mem.head _)))))))))))))))))))))))))))))))), H.frozen (w.heap.size) 2 ((List.Mem.tail _ (List.Mem.tail _ (List.Mem.tail _ (List.Mem.tail _ (List.Mem.tail _ (List.Mem.tail _ (List.Mem.tail _ (List.Mem.tail _ (List.Mem.tail _ (List.Mem.tail _ (List.Mem.tail _ (List.Mem.tail _ (List.Mem.tail _ (List.Mem.tail _ (List.Mem.tail _ (List.Mem.tail _ (List.Mem.tail _ (List.Mem.tail _ (List.Mem.tail _ (List.Mem.tail _ (List.Mem.tail _ (List.Mem.tail _ (List.Mem.tail _ (List.Mem.tail _ (List.Mem.tail _ (List.Mem.tail _ (List.Mem.tail _ (List.Mem.tail _ (List.Mem.tail _ (List.Mem.tail _ (List.Mem.tail _ (List.Mem.tail _ (List.Mem.tail _ (List.Mem.tail _ (List.Mem.tail _ (List.Mem.tail _ (List.Mem.tail _ (List.Mem.head _)))))))))))))))))))))))))))))))))))))))⟩
    | 3, _ => exact ⟨H.cell (w.heap.size) 3 (.bool (a 3)) ((List.Mem.tail _ (List.Mem.tail _ (List.Mem.tail _ (List.Mem.tail _ (List.Mem.tail _ (List.Mem.tail _ (List.Mem.tail _ (List.Mem.tail _ (List.Mem.tail _ (List.Mem.tail _ (List.Mem.tail _ (List.Mem.tail _ (List.Mem.tail _ (List.Mem.tail _ (List.Mem.tail _ (List.Mem.tail _ (List.Mem.tail _ (List.Mem.tail _ (List.Mem.tail _ (List.Mem.tail _ (List.Mem.tail _ (List.Mem.tail _ (List.Mem.tail _ (List.Mem.tail _ (List.Mem.tail _ (List.Mem.tail _ (List.Mem.tail _ (List.Mem.tail _ (List.Mem.tail _ (List.Mem.tail _ (List.Mem.tail _ (List.Mem.head _))))))))))))))))))))))))))))))))), H.frozen (w.heap.size) 3 ((List.Mem.tail _ (List.Mem.tail _ (List.Mem.tail _ (List.Mem.tail _ (List.Mem.tail _ (List.Mem.tail _ (List.Mem.tail _ (List.Mem.tail _ (List.Mem.tail _ (List.Mem.tail _ (List.Mem.tail _ (List.Mem.tail _ (List.Mem.tail _ (List.Mem.tail _ (List.Mem.tail _ (List.Mem.tail _ (List.Mem.tail _ (List.Mem.tail _ (List.Mem.tail _ (List.Mem.tail _ (List.Mem.tail _ (List.Mem.tail _ (List.Mem.tail _ (List.Mem.tail _ (List.Mem.tail _ (List.Mem.tail _ (List.Mem.tail _ (List.Mem.tail _ (List.Mem.tail _ (List.Mem.tail _ (List.Mem.tail _ (List.Mem.tail _ (List.Mem.tail _ (List.Mem.tail _ (List.Mem.tail _ (List.Mem.tail _ (List.Mem.tail _ (List.Mem.tail _ (List.Mem.head _))))))))))))))))))))))))))))))))))))))))⟩
    | 4, _ => exact ⟨H.cell (w.heap.size) 4 (.bool (a 4)) ((List.Mem.tail _ (List.Mem.tail _ (List.Mem.tail _ (List.Mem.tail _ (List.Mem.tail _ (List.Mem.tail _ (List.Mem.tail _ (List.Mem.tail _ (List.Mem.tail _ (List.Mem.tail _ (List.Mem.tail _ (List.Mem.tail _ (List.Mem.tail _ (List.Mem.tail _ (List.Mem.tail _ (List.Mem.tail _ (List.Mem.tail _ (List.Mem.tail _ (List.Mem.tail _ (List.Mem.tail _ (List.Mem.tail _ (List.Mem.tail _ (List.Mem.tail _ (List.Mem.tail _ (List.Mem.tail _ (List.Mem.tail _ (List.Mem.tail _ (List.Mem.tail _ (List.Mem.tail _ (List.Mem.tail _ (List.Mem.tail _ (List.Mem.tail _ (List.Mem.head _)))))))))))))))))))))))))))))))))), H.frozen (w.heap.size) 4 ((List.Mem.tail _ (List.Mem.tail _ (List.Mem.tail _ (List.Mem.tail _ (List.Mem.tail _ (List.Mem.tail _ (List.Mem.tail _ (List.Mem.tail _ (List.Mem.tail _ (List.Mem.tail _ (List.Mem.tail _ (List.Mem.tail _ (List.Mem.tail _ (List.Mem.tail _ (List.Mem.tail _ (List.Mem.tail _ (List.Mem.tail _ (List.Mem.tail _ (List.Mem.tail _ (List.Mem.tail _ (List.Mem.tail _ (List.Mem.tail _ (List.Mem.tail _ (List.Mem.tail _ (List.Mem.tail _ (List.Mem.tail _ (List.Mem.tail _ (List.Mem.tail _ (List.Mem.tail _ (List.Mem.tail _ (List.Mem.tail _ (List.Mem.tail _ (List.Mem.tail _ (List.Mem.tail _ (List.Mem.tail _ (List.Mem.tail _ (List.Mem.tail _ (List.Mem.tail _ (List.Mem.tail _ (List.Mem.head _)))))))))))))))))))))))))))))))))))))))))⟩
    | 5, _ => exact ⟨H.cell (w.heap.size) 5 (.bool (a 5)) ((List.Mem.tail _ (List.Mem.tail _ (List.Mem.tail _ (List.Mem.tail _ (List.Mem.tail _ (List.Mem.tail _ (List.Mem.tail _ (List.Mem.tail _ (List.Mem.tail _ (List.Mem.tail _ (List.Mem.tail _ (List.Mem.tail _ (List.Mem.tail _ (List.Mem.tail _ (List.Mem.tail _ (List.Mem.tail _ (List.Mem.tail _ (List.Mem.tail _ (List.Mem.tail _ (List.Mem.tail _ (List.Mem.tail _ (List.Mem.tail _ (List.Mem.tail _ (List.Mem.tail _ (List.Mem.tail _ (List.Mem.tail _ (List.Mem.tail _ (List.Mem.tail _ (List.Mem.tail _ (List.Mem.tail _ (List.Mem.tail _ (List.Mem.tail _ (List.Mem.tail _ (List.Mem.head _))))))))))))))))))))))))))))))))))), H.frozen (w.heap.size) 5 ((List.Mem.tail _ (List.Mem.tail _ (List.Mem.tail _ (List.Mem.tail _ (List.Mem.tail _ (List.Mem.tail _ (List.Mem.tail _ (List.Mem.tail _ (List.Mem.tail _ (List.Mem.tail _ (List.Mem.tail _ (List.Mem.tail _ (List.Mem.tail _ (List.Mem.tail _ (List.Mem.tail _ (List.Mem.tail _ (List.Mem.tail _ (List.Mem.tail _ (List.Mem.tail _ (List.Mem.tail _ (List.Mem.tail _ (List.Mem.tail _ (List.Mem.tail _ (List.Mem.tail _ (List.Mem.tail _ (List.Mem.tail _ (List.Mem.tail _ (List.Mem.tail _ (List.Mem.tail _ (List.Mem.tail _ (List.Mem.tail _ (List.Mem.tail _ (List.Mem.tail _ (List.Mem.tail _ (List.Mem.tail _ (List.Mem.tail _ (List.Mem.tail _ (List.Mem.tail _ (List.Mem.tail _ (List.Mem.tail _ (List.Mem.head _))))))))))))))))))))))))))))))))))))))))))⟩
    | 6, _ => exact ⟨H.cell (w.heap.size) 6 (.bool (a 6)) ((List.Mem.tail _ (List.Mem.tail _ (List.Mem.tail _ (List.Mem.tail _ (List.Mem.tail _ (List.Mem.tail _ (List.Mem.tail _ (List.Mem.tail _ (List.Mem.tail _ (List.Mem.tail _ (List.Mem.tail _ (List.Mem.tail _ (List.Mem.tail _ (List.Mem.tail _ (List.Mem.tail _ (List.Mem.tail _ (List.Mem.tail _ (List.Mem.tail _ (List.Mem.tail _ (List.Mem.tail _ (List.Mem.tail _ (List.Mem.tail _ (List.Mem.tail _ (List.Mem.tail _ (List.Mem.tail _ (List.Mem.tail _ (List.Mem.tail _ (List.Mem.tail _ (List.Mem.tail _ (List.Mem.tail _ (List.Mem.tail _ (List.Mem.tail _ (List.Mem.tail _ (List.Mem.tail _ (List.Mem.head _)))))))))))))))))))))))))))))))))))), H.frozen (w.heap.size) 6 ((List.Mem.tail _ (List.Mem.tail _ (List.Mem.tail _ (List.Mem.tail _ (List.Mem.tail _ (List.Mem.tail _ (List.Mem.tail _ (List.Mem.tail _ (List.Mem.tail _ (List.Mem.tail _ (List.Mem.tail _ (List.Mem.tail _ (List.Mem.tail _ (List.Mem.tail _ (List.Mem.tail _ (List.Mem.tail _ (List.Mem.tail _ (List.Mem.tail _ (List.Mem.tail _ (List.Mem.tail _ (List.Mem.tail _ (List.Mem.tail _ (List.Mem.tail _ (List.Mem.tail _ (List.Mem.tail _ (List.Mem.tail _ (List.Mem.tail _ (List.Mem.tail _ (List.Mem.tail _ (List.Mem.tail _ (List.Mem.tail _ (List.Mem.tail _ (List.Mem.tail _ (List.Mem.tail _ (List.Mem.tail _ (List.Mem.tail _ (List.Mem.tail _ (List.Mem.tail _ (List.Mem.tail _ (List.Mem.tail _ (List.Mem.tail _ (List.Mem.head _)))))))))))))))))))))))))))))))))))))))))))⟩
  have A2 : ArrAt _ (w.heap.size + 1 + 1) 7 (fun _ => .bool false) := fun k hk => by
    match k, hk with
    | 0, _ => exact ⟨H.cell (w.heap.size + 1 + 1) 0 (.bool false) ((List.Mem.head _)), H.frozen (w.heap.size + 1 + 1) 0 ((List.Mem.tail _ (List.Mem.tail _ (List.Mem.tail _ (List.Mem.tail _ (List.Mem.tail _ (List.Mem.tail _ (List.Mem.tail _ (List.Mem.head _)))))))))⟩
    | 1, _ => exact ⟨H.cell (w.heap.size + 1 + 1) 1 (.bool false) ((List.Mem.tail _ (List.Mem.head _))), H.frozen (w.heap.size + 1 + 1) 1 ((List.Mem.tail _ (List.Mem.tail _ (List.Mem.tail _ (List.Mem.tail _ (List.Mem.tail _ (List.Mem.tail _ (List.Mem.tail _ (List.Mem.tail _ (List.Mem.head _))))))))))⟩
    | 2, _ => exact ⟨H.cell (w.heap.size + 1 + 1) 2 (.bool false) ((List.Mem.tail _ (List.Mem.tail _ (List.Mem.head _)))), H.frozen (w.heap.size + 1 + 1) 2 ((List.Mem.tail _ (List.Mem.tail _ (List.Mem.tail _ (List.Mem.tail _ (List.Mem.tail _ (List.Mem.tail _ (List.Mem.tail _ (List.Mem.tail _ (List.Mem.tail _ (List.Mem.head _)))))))))))⟩
    | 3, _ => exact ⟨H.cell (w.heap.size + 1 + 1) 3 (.bool false) ((List.Mem.tail _ (List.Mem.tail _ (List.Mem.tail _ (List.Mem.head _))))), H.frozen (w.heap.size + 1 + 1) 3 ((List.Mem.tail _ (List.Mem.tail _ (List.Mem.tail _ (List.Mem.tail _ (List.Mem.tail _ (List.Mem.tail _ (List.Mem.tail _ (List.Mem.tail _ (List.Mem.tail _ (List.Mem.tail _ (List.Mem.head _))))))))))))⟩
    | 4, _ => exact ⟨H.cell (w.heap.size + 1 + 1) 4 (.bool false) ((List.Mem.tail _ (List.Mem.tail _ (List.Mem.tail _ (List.Mem.tail _ (List.Mem.head _)))))), H.frozen (w.heap.size + 1 + 1) 4 ((List.Mem.tail _ (List.Mem.tail _ (List.Mem.tail _ (List.Mem.tail _ (List.Mem.tail _ (List.Mem.tail _ (List.Mem.tail _ (List.Mem.tail _ (List.Mem.tail _ (List.Mem.tail _ (List.Mem.tail _ (List.Mem.head _)))))))))))))⟩
    | 5, _ => exact ⟨H.cell (w.heap.size + 1 + 1) 5 (.bool false) ((List.Mem.tail _ (List.Mem.tail _ (List.Mem.tail _ (List.Mem.tail _ (List.Mem.tail _ (List.Mem.head _))))))), H.frozen (w.heap.size + 1 + 1) 5 ((List.Mem.tail _ (List.Mem.tail _ (List.Mem.tail _ (List.Mem.tail _ (List.Mem.tail _ (List.Mem.tail _ (List.Mem.tail _ (List.Mem.tail _ (List.Mem.tail _ (List.Mem.tail _ (List.Mem.tail _ (List.Mem.tail _ (List.Mem.head _))))))))))))))⟩
    | 6, _ => exact ⟨H.cell (w.heap.size + 1 + 1) 6 (.bool false) ((List.Mem.tail _ (List.Mem.tail _ (List.Mem.tail _ (List.Mem.tail _ (List.Mem.tail _ (List.Mem.tail _ (List.Mem.head _)))))))), H.frozen (w.heap.size + 1 + 1) 6 ((List.Mem.tail _ (List.Mem.tail _ (List.Mem.tail _ (List.Mem.tail _ (List.Mem.tail _ (List.Mem.tail _ (List.Mem.tail _ (List.Mem.tail _ (List.Mem.tail _ (List.Mem.tail _ (List.Mem.tail _ (List.Mem.tail _ (List.Mem.tail _ (List.Mem.head _)))))))))))))))⟩
  have k0 := H.cell (w.heap.size + 1) 0 (.bool (b 0)) ((List.Mem.tail _ (List.Mem.tail _ (List.Mem.tail _ (List.Mem.tail _ (List.Mem.tail _ (List.Mem.tail _ (List.Mem.tail _ (List.Mem.tail _ (List.Mem.tail _ (List.Mem.tail _ (List.Mem.tail _ (List.Mem.tail _ (List.Mem.tail _ (List.Mem.tail _ (List.Mem.head _))))))))))))))))
  have k1 := H.cell (w.heap.size + 1) 1 (.bool (b 1)) ((List.Mem.tail _ (List.Mem.tail _ (List.Mem.tail _ (List.Mem.tail _ (List.Mem.tail _ (List.Mem.tail _ (List.Mem.tail _ (List.Mem.tail _ (List.Mem.tail _ (List.Mem.tail _ (List.Mem.tail _ (List.Mem.tail _ (List.Mem.tail _ (List.Mem.tail _ (List.Mem.tail _ (List.Mem.head _)))))))))))))))))
  have k2 := H.cell (w.heap.size + 1) 2 (.bool (b 2)) ((List.Mem.tail _ (List.Mem.tail _ (List.Mem.tail _ (List.Mem.tail _ (List.Mem.tail _ (List.Mem.tail _ (List.Mem.tail _ (List.Mem.tail _ (List.Mem.tail _ (List.Mem.tail _ (List.Mem.tail _ (List.Mem.tail _ (List.Mem.tail _ (List.Mem.tail _ (List.Mem.tail _ (List.Mem.tail _ (List.Mem.head _))))))))))))))))))
  have k3 := H.cell (w.heap.size + 1) 3 (.bool (b 3)) ((List.Mem.tail _ (List.Mem.tail _ (List.Mem.tail _ (List.Mem.tail _ (List.Mem.tail _ (List.Mem.tail _ (List.Mem.tail _ (List.Mem.tail _ (List.Mem.tail _ (List.Mem.tail _ (List.Mem.tail _ (List.Mem.tail _ (List.Mem.tail _ (List.Mem.tail _ (List.Mem.tail _ (List.Mem.tail _ (List.Mem.tail _ (List.Mem.head _)))))))))))))))))))
  have k4 := H.cell (w.heap.size + 1) 4 (.bool (b 4)) ((List.Mem.tail _ (List.Mem.tail _ (List.Mem.tail _ (List.Mem.tail _ (List.Mem.tail _ (List.Mem.tail _ (List.Mem.tail _ (List.Mem.tail _ (List.Mem.tail _ (List.Mem.tail _ (List.Mem.tail _ (List.Mem.tail _ (List.Mem.tail _ (List.Mem.tail _ (List.Mem.tail _ (List.Mem.tail _ (List.Mem.tail _ (List.Mem.tail _ (List.Mem.head _))))))))))))))))))))
  have k5 := H.cell (w.heap.size + 1) 5 (.bool (b 5)) ((List.Mem.tail _ (List.Mem.tail _ (List.Mem.tail _ (List.Mem.tail _ (List.Mem.tail _ (List.Mem.tail _ (List.Mem.tail _ (List.Mem.tail _ (List.Mem.tail _ (List.Mem.tail _ (List.Mem.tail _ (List.Mem.tail _ (List.Mem.tail _ (List.Mem.tail _ (List.Mem.tail _ (List.Mem.tail _ (List.Mem.tail _ (List.Mem.tail _ (List.Mem.tail _ (List.Mem.head _)))))))))))))))))))))
  have k6 := H.cell (w.heap.size + 1) 6 (.bool (b 6)) ((List.Mem.tail _ (List.Mem.tail _ (List.Mem.tail _ (List.Mem.tail _ (List.Mem.tail _ (List.Mem.tail _ (List.Mem.tail _ (List.Mem.tail _ (List.Mem.tail _ (List.Mem.tail _ (List.Mem.tail _ (List.Mem.tail _ (List.Mem.tail _ (List.Mem.tail _ (List.Mem.tail _ (List.Mem.tail _ (List.Mem.tail _ (List.Mem.tail _ (List.Mem.tail _ (List.Mem.tail _ (List.Mem.head _))))))))))))))))))))))
  have HK := H.old
  have z := H.lt (w.heap.size + 1 + 1) 0 (.bool false) ((List.Mem.head _))
  clear H
  go_wp2_with fail
  clear k0 k1 k2 k3 k4 k5 k6
  go_loopw [8] (fun i W' => ∃ j : Nat, j ≤ 7 ∧ i = .int .i64 j ∧ ArrAt W' w.heap.size 7 (fun k => .bool (mx13 a b j k)) ∧ ArrAt W' (w.heap.size + 1 + 1) 7 (fun _ => .bool false) ∧ Below w.heap.size w W') (fun i _ => 7 - (intOf i).toNat)
  case atStart => exact ⟨0, by omega, rfl, A1, A2, HK⟩
  case round =>
    clear A1 A2 HK z
    obtain ⟨j, j7, rfl, A1, A2, HB⟩ := hrel
    match j, j7 with
    | 0, _ =>
      have ix := ix13_0 b
      have iy : ∀ w, (Instr.index 22 (.agg #[.bool (b 0), .bool (b 1), .bool (b 2), .bool (b 3), .bool (b 4), .bool (b 5), .bool (b 6)]) (.int .i64 0)).run Tryd.prog w = .ok (.bool (b 0)) w := ix13_0 b
      have q : wr.cell? ⟨w.heap.size, 0, none⟩ = some (.bool (a 0)) := (A1 0 (by decide)).1
      have f := (A1 0 (by decide)).2
      have N1 := Lib.hid ((A1.set (j := 0) (by decide) (.bool (a 0 || b 0))).ext (fun k _ => mx13_up a b 0 k))
      have N2 := Lib.hid (A2.far (C := w.heap.size) (o := 0) (by omega) (.bool (a 0 || b 0)))
      have N3 := Lib.hid (HB.setCell (p := ⟨w.heap.size, 0, none⟩) (Nat.le_refl _) (.bool (a 0 || b 0)))
      clear A1 A2
      cases ha : a 0 with
      | true =>
        rw [ha] at q N1 N2 N3
        rw [Bool.true_or] at N1 N2 N3
        go_wp2
        go_roundw
        case rel => exact ⟨0 + 1, by omega, rfl, N1.out, N2.out, N3.out⟩
        case measure => simp [intOf]
      | false =>
        rw [ha] at q N1 N2 N3
        rw [Bool.false_or] at N1 N2 N3
        go_wp2
        go_roundw
        case rel => exact ⟨0 + 1, by omega, rfl, N1.out, N2.out, N3.out⟩
        case measure => simp [intOf]
    | 1, _ =>
      have ix := ix13_1 b
      have iy : ∀ w, (Instr.index 22 (.agg #[.bool (b 0), .bool (b 1), .bool (b 2), .bool (b 3), .bool (b 4), .bool (b 5), .bool (b 6)]) (.int .i64 1)).run Tryd.prog w = .ok (.bool (b 1)) w := ix13_1 b
      have q : wr.cell? ⟨w.heap.size, 1, none⟩ = some (.bool (a 1)) := (A1 1 (by decide)).1
      have f := (A1 1 (by decide)).2
      have N1 := Lib.hid ((A1.set (j := 1) (by decide) (.bool (a 1 || b 1))).ext (fun k _ => mx13_up a b 1 k))
      have N2 := Lib.hid (A2.far (C := w.heap.size) (o := 1) (by omega) (.bool (a 1 || b 1)))
      have N3 := Lib.hid (HB.setCell (p := ⟨w.heap.size, 1, none⟩) (Nat.le_refl _) (.bool (a 1 || b 1)))
      clear A1 A2
      cases ha : a 1 with
      | true =>
        rw [ha] at q N1 N2 N3
        rw [Bool.true_or] at N1 N2 N3
        go_wp2
        go_roundw
        case rel => exact ⟨1 + 1, by omega, rfl, N1.out, N2.out, N3.out⟩
        case measure => simp [intOf]
      | false =>
        rw [ha] at q N1 N2 N3
        rw [Bool.false_or] at N1 N2 N3
        go_wp2
        go_roundw
        case rel => exact ⟨1 + 1, by omega, rfl, N1.out, N2.out, N3.out⟩
        case measure => simp [intOf]
    | 2, _ =>
      have ix := ix13_2 b
      have iy : ∀ w, (Instr.index 22 (.agg #[.bool (b 0), .bool (b 1), .bool (b 2), .bool (b 3), .bool (b 4), .bool (b 5), .bool (b 6)]) (.int .i64 2)).run Tryd.prog w = .ok (.bool (b 2)) w := ix13_2 b
      have q : wr.cell? ⟨w.heap.size, 2, none⟩ = some (.bool (a 2)) := (A1 2 (by decide)).1
      have f := (A1 2 (by decide)).2
      have N1 := Lib.hid ((A1.set (j := 2) (by decide) (.bool (a 2 || b 2))).ext (fun k _ => mx13_up a b 2 k))
      have N2 := Lib.hid (A2.far (C := w.heap.size) (o := 2) (by omega) (.bool (a 2 || b 2)))
      have N3 := Lib.hid (HB.setCell (p := ⟨w.heap.size, 2, none⟩) (Nat.le_refl _) (.bool (a 2 || b 2)))
      clear A1 A2
      cases ha : a 2 with
      | true =>
        rw [ha] at q N1 N2 N3
        rw [Bool.true_or] at N1 N2 N3
        go_wp2
        go_roundw
        case rel => exact ⟨2 + 1, by omega, rfl, N1.out, N2.out, N3.out⟩
        case measure => simp [intOf]
      | false =>
        rw [ha] at q N1 N2 N3
        rw [Bool.false_or] at N1 N2 N3
        go_wp2
        go_roundw
        case rel => exact ⟨2 + 1, by omega, rfl, N1.out, N2.out, N3.out⟩
        case measure => simp [intOf]
    | 3, _ =>
      have ix := ix13_3 b
      have iy : ∀ w, (Instr.index 22 (.agg #[.bool (b 0), .bool (b 1), .bool (b 2), .bool (b 3), .bool (b 4), .bool (b 5), .bool (b 6)]) (.int .i64 3)).run Tryd.prog w = .ok (.bool (b 3)) w := ix13_3 b
      have q : wr.cell? ⟨w.heap.size, 3, none⟩ = some (.bool (a 3)) := (A1 3 (by decide)).1
      have f := (A1 3 (by decide)).2
      have N1 := Lib.hid ((A1.set (j := 3) (by decide) (.bool (a 3 || b 3))).ext (fun k _ => mx13_up a b 3 k))
      have N2 := Lib.hid (A2.far (C := w.heap.size) (o := 3) (by omega) (.bool (a 3 || b 3)))
      have N3 := Lib.hid (HB.setCell (p := ⟨w.heap.size, 3, none⟩) (Nat.le_refl _) (.bool (a 3 || b 3)))
      clear A1 A2
      cases ha : a 3 with
      | true =>
        rw [ha] at q N1 N2 N3
        rw [Bool.true_or] at N1 N2 N3
        go_wp2
        go_roundw
        case rel => exact ⟨3 + 1, by omega, rfl, N1.out, N2.out, N3.out⟩
        case measure => simp [intOf]
      | false =>
        rw [ha] at q N1 N2 N3
        rw [Bool.false_or] at N1 N2 N3
        go_wp2
        go_roundw
        case rel => exact ⟨3 + 1, by omega, rfl, N1.out, N2.out, N3.out⟩
        case measure => simp [intOf]
    | 4, _ =>
      have ix := ix13_4 b
      have iy : ∀ w, (Instr.index 22 (.agg #[.bool (b 0), .bool (b 1), .bool (b 2), .bool (b 3), .bool (b 4), .bool (b 5), .bool (b 6)]) (.int .i64 4)).run Tryd.prog w = .ok (.bool (b 4)) w := ix13_4 b
      have q : wr.cell? ⟨w.heap.size, 4, none⟩ = some (.bool (a 4)) := (A1 4 (by decide)).1
      have f := (A1 4 (by decide)).2
      have N1 := Lib.hid ((A1.set (j := 4) (by decide) (.bool (a 4 || b 4))).ext (fun k _ => mx13_up a b 4 k))
      have N2 := Lib.hid (A2.far (C := w.heap.size) (o := 4) (by omega) (.bool (a 4 || b 4)))
      have N3 := Lib.hid (HB.setCell (p := ⟨w.heap.size, 4, none⟩) (Nat.le_refl _) (.bool (a 4 || b 4)))
      clear A1 A2
      cases ha : a 4 with
      | true =>
        rw [ha] at q N1 N2 N3
        rw [Bool.true_or] at N1 N2 N3
        go_wp2
        go_roundw
        case rel => exact ⟨4 + 1, by omega, rfl, N1.out, N2.out, N3.out⟩
        case measure => simp [intOf]
      | false =>
        rw [ha] at q N1 N2 N3
        rw [Bool.false_or] at N1 N2 N3
        go_wp2
        go_roundw
        case rel => exact ⟨4 + 1, by omega, rfl, N1.out, N2.out, N3.out⟩
        case measure => simp [intOf]
    | 5, _ =>
      have ix := ix13_5 b
      have iy : ∀ w, (Instr.index 22 (.agg #[.bool (b 0), .bool (b 1), .bool (b 2), .bool (b 3), .bool (b 4), .bool (b 5), .bool (b 6)]) (.int .i64 5)).run Tryd.prog w = .ok (.bool (b 5)) w := ix13_5 b
      have q : wr.cell? ⟨w.heap.size, 5, none⟩ = some (.bool (a 5)) := (A1 5 (by decide)).1
      have f := (A1 5 (by decide)).2
      have N1 := Lib.hid ((A1.set (j := 5) (by decide) (.bool (a 5 || b 5))).ext (fun k _ => mx13_up a b 5 k))
      have N2 := Lib.hid (A2.far (C := w.heap.size) (o := 5) (by omega) (.bool (a 5 || b 5)))
      have N3 := Lib.hid (HB.setCell (p := ⟨w.heap.size, 5, none⟩) (Nat.le_refl _) (.bool (a 5 || b 5)))
      clear A1 A2
      cases ha : a 5 with
      | true =>
        rw [ha] at q N1 N2 N3
        rw [Bool.true_or] at N1 N2 N3
        go_wp2
        go_roundw
        case rel => exact ⟨5 + 1, by omega, rfl, N1.out, N2.out, N3.out⟩
        case measure => simp [intOf]
      | false =>
        rw [ha] at q N1 N2 N3
        rw [Bool.false_or] at N1 N2 N3
        go_wp2
        go_roundw
        case rel => exact ⟨5 + 1, by omega, rfl, N1.out, N2.out, N3.out⟩
        case measure => simp [intOf]
    | 6, _ =>
      have ix := ix13_6 b
      have iy : ∀ w, (Instr.index 22 (.agg #[.bool (b 0), .bool (b 1), .bool (b 2), .bool (b 3), .bool (b 4), .bool (b 5), .bool (b 6)]) (.int .i64 6)).run Tryd.prog w = .ok (.bool (b 6)) w := ix13_6 b
      have q : wr.cell? ⟨w.heap.size, 6, none⟩ = some (.bool (a 6)) := (A1 6 (by decide)).1
      have f := (A1 6 (by decide)).2
      have N1 := Lib.hid ((A1.set (j := 6) (by decide) (.bool (a 6 || b 6))).ext (fun k _ => mx13_up a b 6 k))
      have N2 := Lib.hid (A2.far (C := w.heap.size) (o := 6) (by omega) (.bool (a 6 || b 6)))
      have N3 := Lib.hid (HB.setCell (p := ⟨w.heap.size, 6, none⟩) (Nat.le_refl _) (.bool (a 6 || b 6)))
      clear A1 A2
      cases ha : a 6 with
      | true =>
        rw [ha] at q N1 N2 N3
        rw [Bool.true_or] at N1 N2 N3
        go_wp2
        go_roundw
        case rel => exact ⟨6 + 1, by omega, rfl, N1.out, N2.out, N3.out⟩
        case measure => simp [intOf]
      | false =>
        rw [ha] at q N1 N2 N3
        rw [Bool.false_or] at N1 N2 N3
        go_wp2
        go_roundw
        case rel => exact ⟨6 + 1, by omega, rfl, N1.out, N2.out, N3.out⟩
        case measure => simp [intOf]
    | 7, _ =>
      have k0 : wr.cell? ⟨w.heap.size, 0, none⟩ = some (.bool (a 0 || b 0)) := (A1 0 (by decide)).1
      have k1 : wr.cell? ⟨w.heap.size, 1, none⟩ = some (.bool (a 1 || b 1)) := (A1 1 (by decide)).1
      have k2 : wr.cell? ⟨w.heap.size, 2, none⟩ = some (.bool (a 2 || b 2)) := (A1 2 (by decide)).1
      have k3 : wr.cell? ⟨w.heap.size, 3, none⟩ = some (.bool (a 3 || b 3)) := (A1 3 (by decide)).1
      have k4 : wr.cell? ⟨w.heap.size, 4, none⟩ = some (.bool (a 4 || b 4)) := (A1 4 (by decide)).1
      have k5 : wr.cell? ⟨w.heap.size, 5, none⟩ = some (.bool (a 5 || b 5)) := (A1 5 (by decide)).1
      have k6 : wr.cell? ⟨w.heap.size, 6, none⟩ = some (.bool (a 6 || b 6)) := (A1 6 (by decide)).1
      have r0 := (A2 0 (by decide)).1
      have s0 := (A2 0 (by decide)).2
      have r1 := (A2 1 (by decide)).1
      have s1 := (A2 1 (by decide)).2
      have r2 := (A2 2 (by decide)).1
      have s2 := (A2 2 (by decide)).2
      have r3 := (A2 3 (by decide)).1
      have s3 := (A2 3 (by decide)).2
      have r4 := (A2 4 (by decide)).1
      have s4 := (A2 4 (by decide)).2
      have r5 := (A2 5 (by decide)).1
      have s5 := (A2 5 (by decide)).2
      have r6 := (A2 6 (by decide)).1
      have s6 := (A2 6 (by decide)).2
      have lr := cell_lt r0
      go_wp2_with fail
      have R := (((((((A2.set (j := 0) (by decide) (.bool (a 0 || b 0))).set (j := 1) (by decide) (.bool (a 1 || b 1))).set (j := 2) (by decide) (.bool (a 2 || b 2))).set (j := 3) (by decide) (.bool (a 3 || b 3))).set (j := 4) (by decide) (.bool (a 4 || b 4))).set (j := 5) (by decide) (.bool (a 5 || b 5))).set (j := 6) (by decide) (.bool (a 6 || b 6)))
      have HB9 := (((((((HB.setCell (p := ⟨w.heap.size + 1 + 1, 0, none⟩) (show w.heap.size ≤ w.heap.size + 1 + 1 by omega) (.bool (a 0 || b 0))).setCell (p := ⟨w.heap.size + 1 + 1, 1, none⟩) (show w.heap.size ≤ w.heap.size + 1 + 1 by omega) (.bool (a 1 || b 1))).setCell (p := ⟨w.heap.size + 1 + 1, 2, none⟩) (show w.heap.size ≤ w.heap.size + 1 + 1 by omega) (.bool (a 2 || b 2))).setCell (p := ⟨w.heap.size + 1 + 1, 3, none⟩) (show w.heap.size ≤ w.heap.size + 1 + 1 by omega) (.bool (a 3 || b 3))).setCell (p := ⟨w.heap.size + 1 + 1, 4, none⟩) (show w.heap.size ≤ w.heap.size + 1 + 1 by omega) (.bool (a 4 || b 4))).setCell (p := ⟨w.heap.size + 1 + 1, 5, none⟩) (show w.heap.size ≤ w.heap.size + 1 + 1 by omega) (.bool (a 5 || b 5))).setCell (p := ⟨w.heap.size + 1 + 1, 6, none⟩) (show w.heap.size ≤ w.heap.size + 1 + 1 by omega) (.bool (a 6 || b 6)))
      revert R HB9
      generalize World.setCell _ _ _ = W9
      intro R HB9
      have r0 : W9.cell? ⟨w.heap.size + 1 + 1, 0, none⟩ = some (.bool (a 0 || b 0)) := (R 0 (by decide)).1
      have r1 : W9.cell? ⟨w.heap.size + 1 + 1, 1, none⟩ = some (.bool (a 1 || b 1)) := (R 1 (by decide)).1
      have r2 : W9.cell? ⟨w.heap.size + 1 + 1, 2, none⟩ = some (.bool (a 2 || b 2)) := (R 2 (by decide)).1
      have r3 : W9.cell? ⟨w.heap.size + 1 + 1, 3, none⟩ = some (.bool (a 3 || b 3)) := (R 3 (by decide)).1
      have r4 : W9.cell? ⟨w.heap.size + 1 + 1, 4, none⟩ = some (.bool (a 4 || b 4)) := (R 4 (by decide)).1
      have r5 : W9.cell? ⟨w.heap.size + 1 + 1, 5, none⟩ = some (.bool (a 5 || b 5)) := (R 5 (by decide)).1
      have r6 : W9.cell? ⟨w.heap.size + 1 + 1, 6, none⟩ = some (.bool (a 6 || b 6)) := (R 6 (by decide)).1
      have lr := cell_lt r0
      clear R
      exact bodyPost_ret (v := .agg #[.bool (a 0 || b 0), .bool (a 1 || b 1), .bool (a 2 || b 2), .bool (a 3 || b 3), .bool (a 4 || b 4), .bool (a 5 || b 5), .bool (a 6 || b 6)]) (by simp [results, Tryd.results34, go_sem, r0, r1, r2, r3, r4, r5, r6, lr]) rfl ⟨rfl, HB9⟩
end Go.Proofs.YtkadodkdbopgnaaDoor
