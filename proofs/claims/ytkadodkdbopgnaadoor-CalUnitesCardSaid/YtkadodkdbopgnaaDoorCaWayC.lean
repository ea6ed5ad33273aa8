/- Package cal: rows of both, laid in one by the library's Concat; days of both, sorted, each once. -/
import Derived.Test.YtkadodkdbopgnaaDoorCaWayB
import Derived.Test.YtkadodkdbopgnaaDoorCaRows
import Derived.Lib.AppendZeros
import Derived.Lib.OwnBridge
namespace Go.Proofs.YtkadodkdbopgnaaDoor
open Go.RowKit
set_option linter.unusedVariables false
set_option linter.unusedSimpArgs false

open Go.Sort in
theorem below_grow13 {B : Nat} {w0 w : World} (h : Below B w0 w) (hB : B ≤ w.heap.size) (os : Array Obj) : Below B w0 (grow w os) :=
  ⟨h.os, h.tape, h.output, by simp [grow]; have := h.size; omega, fun k hk => by
    rw [← h.block k hk]
    simp [grow, Array.getElem?_append, show k < w.heap.size by omega]⟩
/-- A row of cells, wherever it lies: what is laid behind another one. -/
def Row13 (W : World) (size : Nat) (ao : Option Addr) (n : Nat) (l : List Value) : Prop := l.length = n * size ∧ (∀ u ∈ l, u.oneCell' = true) ∧ (0 < n → ∃ b off, ao = some ⟨b, off, none⟩ ∧ ∀ j u, l[j]? = some u → W.cell? ((⟨b, off, none⟩ : Addr).add j) = some u)
theorem Row13.below {W W' : World} {size n : Nat} {ao : Option Addr} {l : List Value} (h : Row13 W size ao n l) (hb : Below W.heap.size W W') : Row13 W' size ao n l :=
  ⟨h.1, h.2.1, fun hn => by
    obtain ⟨b, off, e, hc⟩ := h.2.2 hn
    refine ⟨b, off, e, fun j u hu => ?_⟩
    have := hc j u hu
    rw [add_plain13] at this ⊢
    exact keep hb (cell_lt this) this⟩
theorem row_rules {W : World} {ao : Option Addr} {R : Nat → Ru} {n cap : Nat} (h : RulesAt W ao R n cap) : Row13 W 8 ao n (rl R n) :=
  ⟨rl_len R n, rl_one R n, fun hn => by obtain ⟨b, off, e, hc⟩ := h.2 hn; exact ⟨b, off, e, rl_news hc⟩⟩
theorem row_days {W : World} {ao : Option Addr} {X : Nat → Int} {n cap : Nat} (h : DaysAt W ao X n cap) : Row13 W 1 ao n (il (dl X n)) :=
  ⟨by rw [il_len, dl_len, Nat.mul_one], fun u hu => by simp [il] at hu; obtain ⟨a, _, rfl⟩ := hu; rfl, fun hn => by
    obtain ⟨b, off, e, hc⟩ := h.2 hn
    refine ⟨b, off, e, fun j u hu => ?_⟩
    have hj : j < n := by
      rcases Nat.lt_or_ge j n with k | k
      · exact k
      · rw [List.getElem?_eq_none (by rw [il_len, dl_len]; exact k)] at hu; cases hu
    rw [add_plain13, hc j hj]
    simpa [il, dl, hj] using hu⟩
theorem app_none {P : Program} {w : World} (base : Nat) (t ty e : TypeId) (i : TypeInfo) (size : Nat) (ht : P.underlying t = some (.slice e)) (hi : P.info? e = some i)
    (v : Value) (n : Nat) (xs : List Value) (hown : w.ownsRow base e size v n xs) (c : Nat) : (Builtin.append_ #[t, t] ty #[v, .slice none 0 c]).run P w = .ok v w := by
  rcases hown.2 with ⟨rfl, rfl⟩ | ⟨g, cap, cur, rfl, _, _, hnc, _⟩
  · simp [Builtin.append_, run_underlying ht, sizeOf, typeInfo, hi, Builtin.lenOf, Builtin.firstCells]
  · simp [Builtin.append_, run_underlying ht, sizeOf, typeInfo, hi, Builtin.lenOf, Builtin.firstCells, hnc, storeCells]
/-- append of any row to a row of the call's own. -/
theorem app13 {P : Program} {w : World} (base : Nat) (t ty e : TypeId) (i : TypeInfo) (z : Value) (size bytes : Nat) (ht : P.underlying t = some (.slice e)) (hi : P.info? e = some i) (hz : i.zero = some z)
    (hsize : i.size = size) (hby : i.bytes = bytes) (hzs : z.cells.size = size) (hsz : 0 < size)
    (v : Value) (n : Nat) (xs : List Value) (hown : w.ownsRow base e size v n xs) (ao : Option Addr) (m c : Nat) (l : List Value) (hl : Row13 w size ao m l)
    (h63 : n + m ≤ 100000) (hb : bytes ≤ 1000) (hbase : base ≤ w.heap.size) :
    ∃ v' w', (Builtin.append_ #[t, t] ty #[v, .slice ao m c]).run P w = .ok v' w' ∧ w'.ownsRow base e size v' (n + m) (xs ++ l) ∧ w.grownBy w' v.ownBlock := by
  have hbytes : (n + m) * bytes ≤ 140737488355328 := Nat.le_trans (Nat.mul_le_mul h63 hb) (by decide)
  have h63' : n + m ≤ maxLen := by unfold maxLen; omega
  rcases Nat.eq_zero_or_pos m with rfl | hm
  · have e0 : l = [] := List.length_eq_zero_iff.1 (by simpa using hl.1)
    subst e0
    cases ao with
    | none => exact ⟨v, w, app_none base t ty e i size ht hi v n xs hown c, by simpa using hown, rfl, rfl, rfl, Nat.le_refl _, fun _ _ _ => rfl⟩
    | some ad =>
      obtain ⟨v', w', h1, h2, h3, _⟩ := run_append_own w base t ty e i z size bytes ht hi hz hsize hby hzs hsz v n xs hown ad 0 c [] (by simp) (fun j u hu => by simp at hu) (fun u hu => by cases hu) h63' hbytes hbase
      exact ⟨v', w', h1, h2, h3⟩
  · obtain ⟨b, off, rfl, hc⟩ := hl.2.2 hm
    obtain ⟨v', w', h1, h2, h3, _⟩ := run_append_own w base t ty e i z size bytes ht hi hz hsize hby hzs hsz v n xs hown ⟨b, off, none⟩ m c l hl.1 hc hl.2.1 h63' hbytes hbase
    exact ⟨v', w', h1, h2, h3⟩
theorem grown_own {wr w1 : World} {base : Nat} {e : TypeId} {size n : Nat} {v : Value} {xs : List Value} (hsz : base ≤ wr.heap.size) (hown : wr.ownsRow base e size v n xs) (hg : wr.grownBy w1 v.ownBlock) : Below base wr w1 :=
  (Below.refl base wr).grown hg hsz (fun k hk => (World.ownsRow.lt hown k hk).1)
def pick3 {α : Type} (a b c : α) : Nat → α
  | 0 => a
  | 1 => b
  | _ => c
theorem pick3_0 {α : Type} (a b c : α) : pick3 a b c 0 = a := rfl
theorem pick3_1 {α : Type} (a b c : α) : pick3 a b c 1 = b := rfl
theorem pick3_2 {α : Type} (a b c : α) : pick3 a b c 2 = c := rfl
set_option maxHeartbeats 4000000 in
set_option maxRecDepth 100000 in
theorem cgrow_r (n : Nat) (m : Int) (w : World) (hm : m = n) (hn : n ≤ 4000) : Calls Tryd.prog 49 #[.slice none 0 0, .int .i64 m] w fun e w' => ∃ v, e = .returned v ∧ w'.ownsRow w.heap.size 51 8 v 0 [] ∧ Below w.heap.size w w' := by
  obtain ⟨i0, hi, hz0, hz1, hz2⟩ := info_parts infoRule
  subst hm
  rcases Nat.eq_zero_or_pos n with rfl | hp
  · go_enter Tryd.func49, Tryd.ntmps49
    go_wp2
    go_ret
    exact ⟨_, rfl, World.ownsRow_nil _ _ _ _, Below.refl _ _⟩
  · have hr : ∀ ty v, (Builtin.append_ #[23, 3] ty #[.slice none 0 0, .int .i64 (n : Int)]).run Tryd.prog v = _ := fun ty v => Lib.run_append_nil_zeros v 23 3 ty 51 i0 (.agg #[.int .i64 0, .int .i64 0, .int .i64 0, .int .i64 0, .int .i64 0, .int .i64 0, .int .i64 0, .int .i64 0]) .i64 .i64 Tryd.underlying23 Tryd.underlying3 hi hz0 n hp (by rw [hz1]; decide) (by omega) (by rw [hz2]; omega)
    have HR := Lib.hid hr
    clear hr
    go_enter Tryd.func49, Tryd.ntmps49
    go_wp2_with (first
      | (at_builtin; refine Lib.wpList_append_run _ rfl _ _ _ _ rfl _ _ rfl rfl _ _ (HR.out _ _) ?_)
      | go_in)
    go_ret
    have g1 := grownCap_ge w n 0 51
    have g2 := grownCap_le_maxLen w n 0 51 (by unfold maxLen; omega)
    refine ⟨_, rfl, World.ownsRow_made w.drew _ _ (Nat.le_refl _) g2 ?_, ?_⟩
    · rw [Array.size_append, size_zeroCells, size_zeroCells]
      show n * 8 + (grownCap w n 0 51 - n) * 8 = _
      rw [← Nat.add_mul]
      congr 1
      omega
    · exact (drewN_below 1).alloc (Nat.le_refl _) _
set_option maxHeartbeats 8000000 in
set_option maxRecDepth 100000 in
theorem ccat_r (B : Nat) (a1 : Option Addr) (n1 c1 : Nat) (l1 : List Value) (a2 : Option Addr) (n2 c2 : Nat) (l2 : List Value) (w : World) (h1 : w.cell? ⟨B, 0, none⟩ = some (.slice a1 n1 c1)) (h2 : w.cell? ⟨B, 1, none⟩ = some (.slice a2 n2 c2))
    (r1 : Row13 w 8 a1 n1 l1) (r2 : Row13 w 8 a2 n2 l2) (b1 : n1 ≤ 2000) (b2 : n2 ≤ 2000) :
    Calls Tryd.prog 35 #[.slice (some ⟨B, 0, none⟩) 2 2] w fun e w' => ∃ v, e = .returned v ∧ w'.ownsRow w.heap.size 51 8 v (n1 + n2) (l1 ++ l2) ∧ Below w.heap.size w w' := by
  obtain ⟨i0, hi, hz0, hz1, hz2⟩ := info_parts infoRule
  have R1 := Lib.hid r1
  have R2 := Lib.hid r2
  have C := Lib.hid (fun v => cgrow_r (n1 + n2) ((n1 : Int) + (n2 : Int)) v (by omega) (by omega))
  clear r1 r2
  go_enter Tryd.func35, Tryd.ntmps35
  go_wp2_with fail
  go_loop [11, 3] (fun i u => ∃ j : Nat, j ≤ 2 ∧ i = .int .i64 j ∧ u = .int .i64 ((pick3 0 n1 (n1 + n2) j : Nat) : Int)) (fun i _ => 2 - (intOf i).toNat)
  case atStart => exact ⟨0, by omega, rfl, rfl⟩
  case round =>
    obtain ⟨j, j2, rfl, rfl⟩ := hrel
    match j, j2 with
    | 0, _ =>
      rw [pick3_0]
      go_wp2
      go_round
      case rel => exact ⟨1, by omega, rfl, by rw [pick3_1]; try simp⟩
      case measure => simp [intOf]
    | 1, _ =>
      rw [pick3_1]
      go_wp2
      go_round
      case rel => exact ⟨2, by omega, rfl, by rw [pick3_2]; try simp⟩
      case measure => simp [intOf]
    | 2, _ =>
      rw [pick3_2]
      go_wp2_with fail
      (with_reducible refine (C.out _).mono ?_)
      rintro e w1 ⟨v1, rfl, hown, hB⟩
      have HO := Lib.hid hown
      clear hown C
      go_wp2_with fail
      go_loopw [27, 6] (fun i v W' => ∃ j : Nat, j ≤ 2 ∧ i = .int .i64 j ∧ W'.ownsRow w.heap.size 51 8 v (pick3 0 n1 (n1 + n2) j) (pick3 [] l1 (l1 ++ l2) j) ∧ Below w.heap.size w W') (fun i _ _ => 2 - (intOf i).toNat)
      case atStart => exact ⟨0, by omega, rfl, HO.out, hB⟩
      case round =>
        clear hB
        obtain ⟨j, j2, rfl, hown, hB⟩ := hrel
        have hsz : w.heap.size ≤ wr.heap.size := hB.size
        have HO := Lib.hid hown
        clear hown
        match j, j2 with
        | 0, _ =>
          have k1 := keep hB (cell_lt h1) h1
          obtain ⟨v', w', hr, ho, hg⟩ := app13 w.heap.size 23 23 51 i0 (.agg #[.int .i64 0, .int .i64 0, .int .i64 0, .int .i64 0, .int .i64 0, .int .i64 0, .int .i64 0, .int .i64 0]) 8 64 Tryd.underlying23 hi hz0 hz1 hz2 rfl (by decide) _ _ _ HO.out a1 n1 c1 l1 (R1.out.below hB) (by rw [pick3_0]; omega) (by decide) hsz
          have hB2 := hB.trans (grown_own hsz HO.out hg)
          have HR := Lib.hid hr
          have HN := Lib.hid ho
          clear hr ho hg
          go_wp2_with (first
            | (at_builtin; refine Lib.wpList_append_run _ rfl _ _ _ _ rfl _ _ rfl rfl _ _ HR.out ?_)
            | go_in)
          go_roundw
          case rel => exact ⟨1, by omega, rfl, by have := HN.out; rw [pick3_0, pick3_0, Nat.zero_add, List.nil_append] at this; exact this, hB2⟩
          case measure => simp [intOf]
        | 1, _ =>
          have k1 := keep hB (cell_lt h2) h2
          obtain ⟨v', w', hr, ho, hg⟩ := app13 w.heap.size 23 23 51 i0 (.agg #[.int .i64 0, .int .i64 0, .int .i64 0, .int .i64 0, .int .i64 0, .int .i64 0, .int .i64 0, .int .i64 0]) 8 64 Tryd.underlying23 hi hz0 hz1 hz2 rfl (by decide) _ _ _ HO.out a2 n2 c2 l2 (R2.out.below hB) (by rw [pick3_1]; omega) (by decide) hsz
          have hB2 := hB.trans (grown_own hsz HO.out hg)
          have HR := Lib.hid hr
          have HN := Lib.hid ho
          clear hr ho hg
          go_wp2_with (first
            | (at_builtin; refine Lib.wpList_append_run _ rfl _ _ _ _ rfl _ _ rfl rfl _ _ HR.out ?_)
            | go_in)
          go_roundw
          case rel => exact ⟨2, by omega, rfl, HN.out, hB2⟩
          case measure => simp [intOf]
        | 2, _ =>
          go_wp2
          go_ret
          exact ⟨_, rfl, HO.out, hB⟩
set_option maxHeartbeats 4000000 in
set_option maxRecDepth 100000 in
theorem cgrow_d (n : Nat) (m : Int) (w : World) (hm : m = n) (hn : n ≤ 4000) : Calls Tryd.prog 63 #[.slice none 0 0, .int .i64 m] w fun e w' => ∃ v, e = .returned v ∧ w'.ownsRow w.heap.size 3 1 v 0 [] ∧ Below w.heap.size w w' := by
  obtain ⟨i0, hi, hz0, hz1, hz2⟩ := info_parts infoInt13
  subst hm
  rcases Nat.eq_zero_or_pos n with rfl | hp
  · go_enter Tryd.func63, Tryd.ntmps63
    go_wp2
    go_ret
    exact ⟨_, rfl, World.ownsRow_nil _ _ _ _, Below.refl _ _⟩
  · have hr : ∀ ty v, (Builtin.append_ #[24, 3] ty #[.slice none 0 0, .int .i64 (n : Int)]).run Tryd.prog v = _ := fun ty v => Lib.run_append_nil_zeros v 24 3 ty 3 i0 (.int .i64 0) .i64 .i64 Tryd.underlying24 Tryd.underlying3 hi hz0 n hp (by rw [hz1]; decide) (by omega) (by rw [hz2]; omega)
    have HR := Lib.hid hr
    clear hr
    go_enter Tryd.func63, Tryd.ntmps63
    go_wp2_with (first
      | (at_builtin; refine Lib.wpList_append_run _ rfl _ _ _ _ rfl _ _ rfl rfl _ _ (HR.out _ _) ?_)
      | go_in)
    go_ret
    have g1 := grownCap_ge w n 0 3
    have g2 := grownCap_le_maxLen w n 0 3 (by unfold maxLen; omega)
    refine ⟨_, rfl, World.ownsRow_made w.drew _ _ (Nat.le_refl _) g2 ?_, ?_⟩
    · rw [Array.size_append, size_zeroCells, size_zeroCells]
      show n * 1 + (grownCap w n 0 3 - n) * 1 = _
      rw [← Nat.add_mul]
      congr 1
      omega
    · exact (drewN_below 1).alloc (Nat.le_refl _) _
set_option maxHeartbeats 8000000 in
set_option maxRecDepth 100000 in
theorem ccat_d (B : Nat) (a1 : Option Addr) (n1 c1 : Nat) (l1 : List Value) (a2 : Option Addr) (n2 c2 : Nat) (l2 : List Value) (w : World) (h1 : w.cell? ⟨B, 0, none⟩ = some (.slice a1 n1 c1)) (h2 : w.cell? ⟨B, 1, none⟩ = some (.slice a2 n2 c2))
    (r1 : Row13 w 1 a1 n1 l1) (r2 : Row13 w 1 a2 n2 l2) (b1 : n1 ≤ 2000) (b2 : n2 ≤ 2000) :
    Calls Tryd.prog 50 #[.slice (some ⟨B, 0, none⟩) 2 2] w fun e w' => ∃ v, e = .returned v ∧ w'.ownsRow w.heap.size 3 1 v (n1 + n2) (l1 ++ l2) ∧ Below w.heap.size w w' := by
  obtain ⟨i0, hi, hz0, hz1, hz2⟩ := info_parts infoInt13
  have R1 := Lib.hid r1
  have R2 := Lib.hid r2
  have C := Lib.hid (fun v => cgrow_d (n1 + n2) ((n1 : Int) + (n2 : Int)) v (by omega) (by omega))
  clear r1 r2
  go_enter Tryd.func50, Tryd.ntmps50
  go_wp2_with fail
  go_loop [11, 3] (fun i u => ∃ j : Nat, j ≤ 2 ∧ i = .int .i64 j ∧ u = .int .i64 ((pick3 0 n1 (n1 + n2) j : Nat) : Int)) (fun i _ => 2 - (intOf i).toNat)
  case atStart => exact ⟨0, by omega, rfl, rfl⟩
  case round =>
    obtain ⟨j, j2, rfl, rfl⟩ := hrel
    match j, j2 with
    | 0, _ =>
      rw [pick3_0]
      go_wp2
      go_round
      case rel => exact ⟨1, by omega, rfl, by rw [pick3_1]; try simp⟩
      case measure => simp [intOf]
    | 1, _ =>
      rw [pick3_1]
      go_wp2
      go_round
      case rel => exact ⟨2, by omega, rfl, by rw [pick3_2]; try simp⟩
      case measure => simp [intOf]
    | 2, _ =>
      rw [pick3_2]
      go_wp2_with fail
      (with_reducible refine (C.out _).mono ?_)
      rintro e w1 ⟨v1, rfl, hown, hB⟩
      have HO := Lib.hid hown
      clear hown C
      go_wp2_with fail
      go_loopw [27, 6] (fun i v W' => ∃ j : Nat, j ≤ 2 ∧ i = .int .i64 j ∧ W'.ownsRow w.heap.size 3 1 v (pick3 0 n1 (n1 + n2) j) (pick3 [] l1 (l1 ++ l2) j) ∧ Below w.heap.size w W') (fun i _ _ => 2 - (intOf i).toNat)
      case atStart => exact ⟨0, by omega, rfl, HO.out, hB⟩
      case round =>
        clear hB
        obtain ⟨j, j2, rfl, hown, hB⟩ := hrel
        have hsz : w.heap.size ≤ wr.heap.size := hB.size
        have HO := Lib.hid hown
        clear hown
        match j, j2 with
        | 0, _ =>
          have k1 := keep hB (cell_lt h1) h1
          obtain ⟨v', w', hr, ho, hg⟩ := app13 w.heap.size 24 24 3 i0 (.int .i64 0) 1 8 Tryd.underlying24 hi hz0 hz1 hz2 rfl (by decide) _ _ _ HO.out a1 n1 c1 l1 (R1.out.below hB) (by rw [pick3_0]; omega) (by decide) hsz
          have hB2 := hB.trans (grown_own hsz HO.out hg)
          have HR := Lib.hid hr
          have HN := Lib.hid ho
          clear hr ho hg
          go_wp2_with (first
            | (at_builtin; refine Lib.wpList_append_run _ rfl _ _ _ _ rfl _ _ rfl rfl _ _ HR.out ?_)
            | go_in)
          go_roundw
          case rel => exact ⟨1, by omega, rfl, by have := HN.out; rw [pick3_0, pick3_0, Nat.zero_add, List.nil_append] at this; exact this, hB2⟩
          case measure => simp [intOf]
        | 1, _ =>
          have k1 := keep hB (cell_lt h2) h2
          obtain ⟨v', w', hr, ho, hg⟩ := app13 w.heap.size 24 24 3 i0 (.int .i64 0) 1 8 Tryd.underlying24 hi hz0 hz1 hz2 rfl (by decide) _ _ _ HO.out a2 n2 c2 l2 (R2.out.below hB) (by rw [pick3_1]; omega) (by decide) hsz
          have hB2 := hB.trans (grown_own hsz HO.out hg)
          have HR := Lib.hid hr
          have HN := Lib.hid ho
          clear hr ho hg
          go_wp2_with (first
            | (at_builtin; refine Lib.wpList_append_run _ rfl _ _ _ _ rfl _ _ rfl rfl _ _ HR.out ?_)
            | go_in)
          go_roundw
          case rel => exact ⟨2, by omega, rfl, HN.out, hB2⟩
          case measure => simp [intOf]
        | 2, _ =>
          go_wp2
          go_ret
          exact ⟨_, rfl, HO.out, hB⟩
end Go.Proofs.YtkadodkdbopgnaaDoor
