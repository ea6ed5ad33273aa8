/- Several texts in one: DaMem, DaSmall, DaIter, TeRef, TeWay. -/
import Derived.Test.YtpfgdfpaoldhcaaGreatDoorSoAO
import Derived.Lib.AppendZeros
import Derived.Lib.OwnBridge
import Derived.Maps.AppendAt
import Derived.RangeFuncBox
set_option maxHeartbeats 8000000
set_option maxRecDepth 100000
set_option linter.unusedVariables false
set_option linter.unusedSimpArgs false
namespace Go.Proofs.YtpfgdfpaoldhcaaGreatDoor
open Go.RowKit
def zA4 (ao : Option Addr) (X : Nat → Int) (n cap : Nat) : Fact := .that (fun W => DaysAt W ao X n cap) (fun _ _ hb h => h.below hb)
theorem Held.days {w W : World} {fs : List Fact} {ao : Option Addr} {X : Nat → Int} {n cap : Nat} (h : Held w fs W) (hm : zA4 ao X n cap ∈ fs := by repeat (first | with_reducible exact List.mem_cons_self | with_reducible apply List.mem_cons_of_mem)) : DaysAt W ao X n cap := h.all _ hm
theorem DaysAt.ext {W : World} {ao : Option Addr} {X Y : Nat → Int} {n cap : Nat} (h : DaysAt W ao X n cap) (e : ∀ i, i < n → X i = Y i) : DaysAt W ao Y n cap :=
 ⟨h.1, fun hn => by obtain ⟨b, off, e0, hc⟩ := h.2 hn; exact ⟨b, off, e0, fun j hj => by rw [← e j hj]; exact hc j hj⟩⟩
theorem DaysAt.none (W : World) (X : Nat → Int) (cap : Nat) : DaysAt W .none X 0 cap := ⟨Nat.zero_le _, fun h => absurd h (by omega)⟩
theorem zAg {W W' : World} {base : Nat} {e : TypeId} {size n : Nat} {v : Value} {xs : List Value} (h : W.ownsRow base e size v n xs) (hb : Below W.heap.size W W') : W'.ownsRow base e size v n xs := by
 obtain ⟨h1, h2⟩ := h
 refine ⟨h1, ?_⟩
 rcases h2 with h2 | ⟨g, cap, cur, hv, hg, hh, hr⟩
 ·exact .inl h2
 ·exact .inr ⟨g, cap, cur, hv, hg, by rw [hb.block g ((Array.getElem?_eq_some_iff.1 hh).1)]; exact hh, hr⟩
theorem zAt : (Tryz.prog.info? 3).map (fun i => (i.zero, i.size, i.bytes)) = some (some (.int .i64 0), 1, 8) := by kernel_rfl
def il (l : List Int) : List Value := l.map (Value.int .i64)
theorem il_len (l : List Int) : (il l).length = l.length := by simp [il]
theorem zC9 {W : World} {base n : Nat} {v : Value} {l : List Int} (hn : l.length = n) (h : W.ownsRow base 3 1 v n (il l)) : ∃ ao cap, v = .slice ao n cap ∧ DaysAt W ao (ld l) n cap := by
 have h0 := h
 subst hn
 rcases h.2 with ⟨rfl, e⟩ | ⟨g, cap, cur, rfl, _, _, hc, _⟩
 ·refine ⟨none, 0, by rw [e], by omega, fun k => absurd k (by omega)⟩
 ·refine ⟨_, _, rfl, hc, fun _ => ⟨g, 0, rfl, fun j hj => ?_⟩⟩
  have := World.ownsRow.cellAt h0 j (by omega)
  rw [Nat.zero_add, this]
  simp [il, ld, hj]
theorem zP6 (l : List Int) (x : Int) : il l ++ [.int .i64 x] = il (l ++ [x]) := by simp [il]
def Row13 (W : World) (size : Nat) (ao : Option Addr) (n : Nat) (l : List Value) : Prop := l.length = n * size ∧ (∀ u ∈ l, u.oneCell' = true) ∧ (0 < n → ∃ b off, ao = some ⟨b, off, none⟩ ∧ ∀ j u, l[j]? = some u → W.cell? ((⟨b, off, none⟩ : Addr).add j) = some u)
theorem Row13.below {W W' : World} {size n : Nat} {ao : Option Addr} {l : List Value} (h : Row13 W size ao n l) (hb : Below W.heap.size W W') : Row13 W' size ao n l :=
 ⟨h.1, h.2.1, fun hn => by
  obtain ⟨b, off, e, hc⟩ := h.2.2 hn
  refine ⟨b, off, e, fun j u hu => ?_⟩
  have := hc j u hu
  rw [zA7] at this ⊢
  exact keep hb (zA0 this) this⟩
theorem row_days {W : World} {ao : Option Addr} {X : Nat → Int} {n cap : Nat} (h : DaysAt W ao X n cap) : Row13 W 1 ao n (il (dl X n)) :=
 ⟨by rw [il_len, zAo, Nat.mul_one], fun u hu => by simp [il] at hu; obtain ⟨a, _, rfl⟩ := hu; rfl, fun hn => by
  obtain ⟨b, off, e, hc⟩ := h.2 hn
  refine ⟨b, off, e, fun j u hu => ?_⟩
  have hj : j < n := by
   rcases Nat.lt_or_ge j n with k | k
   ·exact k
   ·rw [List.getElem?_eq_none (by rw [il_len, zAo]; exact k)] at hu; cases hu
  rw [zA7, hc j hj]
  simpa [il, dl, hj] using hu⟩
theorem app_none {P : Program} {w : World} (base : Nat) (t ty e : TypeId) (i : TypeInfo) (size : Nat) (ht : P.underlying t = some (.slice e)) (hi : P.info? e = some i)
  (v : Value) (n : Nat) (xs : List Value) (hown : w.ownsRow base e size v n xs) (c : Nat) : (Builtin.append_ #[t, t] ty #[v, .slice none 0 c]).run P w = .ok v w := by
 rcases hown.2 with ⟨rfl, rfl⟩ | ⟨g, cap, cur, rfl, _, _, hnc, _⟩
 ·simp [Builtin.append_, run_underlying ht, sizeOf, typeInfo, hi, Builtin.lenOf, Builtin.firstCells]
 ·simp [Builtin.append_, run_underlying ht, sizeOf, typeInfo, hi, Builtin.lenOf, Builtin.firstCells, hnc, storeCells]
theorem app13 {P : Program} {w : World} (base : Nat) (t ty e : TypeId) (i : TypeInfo) (z : Value) (size bytes : Nat) (ht : P.underlying t = some (.slice e)) (hi : P.info? e = some i) (hz : i.zero = some z)
  (hsize : i.size = size) (hby : i.bytes = bytes) (hzs : z.cells.size = size) (hsz : 0 < size)
  (v : Value) (n : Nat) (xs : List Value) (hown : w.ownsRow base e size v n xs) (ao : Option Addr) (m c : Nat) (l : List Value) (hl : Row13 w size ao m l)
  (h63 : n + m ≤ 100000) (hb : bytes ≤ 1000) (hbase : base ≤ w.heap.size) :
  ∃ v' w', (Builtin.append_ #[t, t] ty #[v, .slice ao m c]).run P w = .ok v' w' ∧ w'.ownsRow base e size v' (n + m) (xs ++ l) ∧ w.grownBy w' v.ownBlock := by
 have hbytes : (n + m) * bytes ≤ 140737488355328 := Nat.le_trans (Nat.mul_le_mul h63 hb) (by decide)
 have h63' : n + m ≤ maxLen := by unfold maxLen; omega
 rcases Nat.eq_zero_or_pos m with rfl | hm
 ·have e0 : l = [] := List.length_eq_zero_iff.1 (by simpa using hl.1)
  subst e0
  cases ao with
  | none => exact ⟨v, w, app_none base t ty e i size ht hi v n xs hown c, by simpa using hown, rfl, rfl, rfl, Nat.le_refl _, fun _ _ _ => rfl⟩
  | some ad =>
   obtain ⟨v', w', h1, h2, h3, _⟩ := run_append_own w base t ty e i z size bytes ht hi hz hsize hby hzs hsz v n xs hown ad 0 c [] (by simp) (fun j u hu => by simp at hu) (fun u hu => by cases hu) h63' hbytes hbase
   exact ⟨v', w', h1, h2, h3⟩
 ·obtain ⟨b, off, rfl, hc⟩ := hl.2.2 hm
  obtain ⟨v', w', h1, h2, h3, _⟩ := run_append_own w base t ty e i z size bytes ht hi hz hsize hby hzs hsz v n xs hown ⟨b, off, none⟩ m c l hl.1 hc hl.2.1 h63' hbytes hbase
  exact ⟨v', w', h1, h2, h3⟩
theorem zF9 {wr w1 : World} {base : Nat} {e : TypeId} {size n : Nat} {v : Value} {xs : List Value} (hsz : base ≤ wr.heap.size) (hown : wr.ownsRow base e size v n xs) (hg : wr.grownBy w1 v.ownBlock) : Below base wr w1 :=
 (Below.refl base wr).grown hg hsz (fun k hk => (World.ownsRow.lt hown k hk).1)
theorem Row13.grown {W W' : World} {size n : Nat} {g : Nat} {l : List Value} {row : Option Nat} (h : Row13 W size (some ⟨g, 0, none⟩) n l) (hg : W.grownBy W' row) (hn : some g ≠ row) : Row13 W' size (some ⟨g, 0, none⟩) n l :=
 ⟨h.1, h.2.1, fun hp => by
  obtain ⟨b, off, e, hc⟩ := h.2.2 hp
  injection e with e
  injection e with e1 e2 _
  subst e1 e2
  refine ⟨g, 0, rfl, fun j u hu => ?_⟩
  have := hc j u hu
  rw [zA7] at this ⊢
  exact hg.cell this hn⟩
theorem Row13.alloc {W : World} {size n : Nat} {ao : Option Addr} {l : List Value} (h : Row13 W size ao n l) (o : Obj) : Row13 (W.alloc o) size ao n l := h.below ((Below.refl _ _).alloc (Nat.le_refl _) o)
theorem zQr (W : World) (x : Int) : Row13 (W.alloc (.cells #[.int .i64 x] 3)) 1 (some ⟨W.heap.size, 0, none⟩) 1 [.int .i64 x] :=
  ⟨rfl, fun u hu => by simp at hu; subst hu; rfl, fun _ => ⟨W.heap.size, 0, rfl, fun j u hu => by
    match j, hu with
    | 0, hu => obtain rfl : Value.int .i64 x = u := by simpa using hu
               simp [go_sem, World.cell?_alloc_new, Addr.add]
    | j + 1, hu => simp at hu⟩⟩
theorem DaysAt.drop {W : World} {X : Nat → Int} {n cap k : Nat} {b off : Nat} (h : DaysAt W (some ⟨b, off, .none⟩) X n cap) (hk : k ≤ n) : DaysAt W (some ⟨b, off + k, .none⟩) (fun i => X (k + i)) (n - k) (cap - k) :=
 ⟨by have := h.1; omega, fun hn => by
  obtain ⟨b', off', e, hc⟩ := h.2 (by omega)
  injection e with e
  injection e with e1 e2 _
  subst e1 e2
  exact ⟨b, off + k, rfl, fun j hj => by rw [Nat.add_assoc]; exact hc (k + j) (by omega)⟩⟩
theorem DaysAt.take {W : World} {ao : Option Addr} {X : Nat → Int} {n cap k : Nat} (h : DaysAt W ao X n cap) (hk : k ≤ n) : DaysAt W ao X k cap :=
 ⟨by have := h.1; omega, fun hn => by
  obtain ⟨b, off, e, hc⟩ := h.2 (by omega)
  exact ⟨b, off, e, fun j hj => hc j (by omega)⟩⟩
theorem cgrow_d (n : Nat) (m : Int) (w : World) (hm : m = n) (hn : n ≤ 4000) : Calls Tryz.prog 102 #[.slice none 0 0, .int .i64 m] w fun e w' => ∃ v, e = .returned v ∧ w'.ownsRow w.heap.size 3 1 v 0 [] ∧ Below w.heap.size w w' := by
 obtain ⟨i0, hi, hz0, hz1, hz2⟩ := info_parts zAt
 subst hm
 rcases Nat.eq_zero_or_pos n with rfl | hp
 ·go_enter Tryz.func102, Tryz.ntmps102
  go_wp2
  go_ret
  exact ⟨_, rfl, World.ownsRow_nil _ _ _ _, Below.refl _ _⟩
 ·have hr : ∀ ty v, (Builtin.append_ #[26, 3] ty #[.slice none 0 0, .int .i64 (n : Int)]).run Tryz.prog v = _ := fun ty v => Lib.run_append_nil_zeros v 26 3 ty 3 i0 (.int .i64 0) .i64 .i64 Tryz.underlying26 Tryz.underlying3 hi hz0 n hp (by rw [hz1]; decide) (by omega) (by rw [hz2]; omega)
  have HR := Lib.hid hr
  clear hr
  go_enter Tryz.func102, Tryz.ntmps102
  go_wp2_with (first
   | (at_builtin; refine Lib.wpList_append_run _ rfl _ _ _ _ rfl _ _ rfl rfl _ _ (HR.out _ _) ?_)
   | go_in)
  go_ret
  have g1 := grownCap_ge w n 0 3
  have g2 := grownCap_le_maxLen w n 0 3 (by unfold maxLen; omega)
  refine ⟨_, rfl, World.ownsRow_made w.drew _ _ (Nat.le_refl _) g2 ?_, ?_⟩
  ·rw [Array.size_append, size_zeroCells, size_zeroCells]
   show n * 1 + (grownCap w n 0 3 - n) * 1 = _
   rw [← Nat.add_mul]
   congr 1
   omega
  ·exact (zAz 1).alloc (Nat.le_refl _) _
def zJy {α : Type} (a b c d : α) : Nat → α
 | 0 => a
 | 1 => b
 | 2 => c
 | _ => d
theorem zH0 {α : Type} (a b c d : α) : zJy a b c d 0 = a := rfl
theorem zJz {α : Type} (a b c d : α) : zJy a b c d 1 = b := rfl
theorem zK0 {α : Type} (a b c d : α) : zJy a b c d 2 = c := rfl
theorem zPw {α : Type} (a b c d : α) : zJy a b c d 3 = d := rfl
theorem ccat_3 (B : Nat) (a1 : Option Addr) (n1 c1 : Nat) (l1 : List Value) (a2 : Option Addr) (n2 c2 : Nat) (l2 : List Value) (a3 : Option Addr) (n3 c3 : Nat) (l3 : List Value) (w : World) (h1 : w.cell? ⟨B, 0, none⟩ = some (.slice a1 n1 c1)) (h2 : w.cell? ⟨B, 1, none⟩ = some (.slice a2 n2 c2)) (h3 : w.cell? ⟨B, 2, none⟩ = some (.slice a3 n3 c3))
  (r1 : Row13 w 1 a1 n1 l1) (r2 : Row13 w 1 a2 n2 l2) (r3 : Row13 w 1 a3 n3 l3) (b1 : n1 ≤ 1300) (b2 : n2 ≤ 1300) (b3 : n3 ≤ 1300) :
  Calls Tryz.prog 92 #[.slice (some ⟨B, 0, none⟩) 3 3] w fun e w' => ∃ v, e = .returned v ∧ w'.ownsRow w.heap.size 3 1 v (n1 + n2 + n3) (l1 ++ l2 ++ l3) ∧ Below w.heap.size w w' := by
 obtain ⟨i0, hi, hz0, hz1, hz2⟩ := info_parts zAt
 have R1 := Lib.hid r1
 have R2 := Lib.hid r2
 have R3 := Lib.hid r3
 have C := Lib.hid (fun v => cgrow_d (n1 + n2 + n3) ((n1 : Int) + (n2 : Int) + (n3 : Int)) v (by omega) (by omega))
 clear r1 r2 r3
 go_enter Tryz.func92, Tryz.ntmps92
 go_wp2_with fail
 go_loop [11, 3] (fun i u => ∃ j : Nat, j ≤ 3 ∧ i = .int .i64 j ∧ u = .int .i64 ((zJy 0 n1 (n1 + n2) (n1 + n2 + n3) j : Nat) : Int)) (fun i _ => 3 - (intOf i).toNat)
 case atStart => exact ⟨0, by omega, rfl, rfl⟩
 case round =>
  obtain ⟨j, j2, rfl, rfl⟩ := hrel
  match j, j2 with
  | 0, _ =>
   rw [zH0]
   go_wp2
   go_round
   case rel => exact ⟨1, by omega, rfl, by rw [zJz]; try simp⟩
   case measure => simp [intOf]
  | 1, _ =>
   rw [zJz]
   go_wp2
   go_round
   case rel => exact ⟨2, by omega, rfl, by rw [zK0]; try simp⟩
   case measure => simp [intOf]
  | 2, _ =>
   rw [zK0]
   go_wp2
   go_round
   case rel => exact ⟨3, by omega, rfl, by rw [zPw]; try simp⟩
   case measure => simp [intOf]
  | 3, _ =>
   rw [zPw]
   go_wp2_with fail
   (with_reducible refine (C.out _).mono ?_)
   rintro e w1 ⟨v1, rfl, hown, hB⟩
   have HO := Lib.hid hown
   clear hown C
   go_wp2_with fail
   go_loopw [27, 6] (fun i v W' => ∃ j : Nat, j ≤ 3 ∧ i = .int .i64 j ∧ W'.ownsRow w.heap.size 3 1 v (zJy 0 n1 (n1 + n2) (n1 + n2 + n3) j) (zJy [] l1 (l1 ++ l2) (l1 ++ l2 ++ l3) j) ∧ Below w.heap.size w W') (fun i _ _ => 3 - (intOf i).toNat)
   case atStart => exact ⟨0, by omega, rfl, HO.out, hB⟩
   case round =>
    clear hB
    obtain ⟨j, j2, rfl, hown, hB⟩ := hrel
    have hsz : w.heap.size ≤ wr.heap.size := hB.size
    have HO := Lib.hid hown
    clear hown
    match j, j2 with
    | 0, _ =>
     have k1 := keep hB (zA0 h1) h1
     obtain ⟨v', w', hr, ho, hg⟩ := app13 w.heap.size 26 26 3 i0 (.int .i64 0) 1 8 Tryz.underlying26 hi hz0 hz1 hz2 rfl (by decide) _ _ _ HO.out a1 n1 c1 l1 (R1.out.below hB) (by rw [zH0]; omega) (by decide) hsz
     have hB2 := hB.trans (zF9 hsz HO.out hg)
     have HR := Lib.hid hr
     have HN := Lib.hid ho
     clear hr ho hg
     go_wp2_with (first
      | (at_builtin; refine Lib.wpList_append_run _ rfl _ _ _ _ rfl _ _ rfl rfl _ _ HR.out ?_)
      | go_in)
     go_roundw
     case rel => exact ⟨1, by omega, rfl, by have := HN.out; rw [zH0, zH0, Nat.zero_add, List.nil_append] at this; exact this, hB2⟩
     case measure => simp [intOf]
    | 1, _ =>
     have k1 := keep hB (zA0 h2) h2
     obtain ⟨v', w', hr, ho, hg⟩ := app13 w.heap.size 26 26 3 i0 (.int .i64 0) 1 8 Tryz.underlying26 hi hz0 hz1 hz2 rfl (by decide) _ _ _ HO.out a2 n2 c2 l2 (R2.out.below hB) (by rw [zJz]; omega) (by decide) hsz
     have hB2 := hB.trans (zF9 hsz HO.out hg)
     have HR := Lib.hid hr
     have HN := Lib.hid ho
     clear hr ho hg
     go_wp2_with (first
      | (at_builtin; refine Lib.wpList_append_run _ rfl _ _ _ _ rfl _ _ rfl rfl _ _ HR.out ?_)
      | go_in)
     go_roundw
     case rel => exact ⟨2, by omega, rfl, HN.out, hB2⟩
     case measure => simp [intOf]
    | 2, _ =>
     have k1 := keep hB (zA0 h3) h3
     obtain ⟨v', w', hr, ho, hg⟩ := app13 w.heap.size 26 26 3 i0 (.int .i64 0) 1 8 Tryz.underlying26 hi hz0 hz1 hz2 rfl (by decide) _ _ _ HO.out a3 n3 c3 l3 (R3.out.below hB) (by rw [zK0]; omega) (by decide) hsz
     have hB2 := hB.trans (zF9 hsz HO.out hg)
     have HR := Lib.hid hr
     have HN := Lib.hid ho
     clear hr ho hg
     go_wp2_with (first
      | (at_builtin; refine Lib.wpList_append_run _ rfl _ _ _ _ rfl _ _ rfl rfl _ _ HR.out ?_)
      | go_in)
     go_roundw
     case rel => exact ⟨3, by omega, rfl, HN.out, hB2⟩
     case measure => simp [intOf]
    | 3, _ =>
     go_wp2
     go_ret
     exact ⟨_, rfl, HO.out, hB⟩
theorem zF0 (mo ra ki co st en ms : Int) (bk lg eo : Bool) (ro : Int) (n : Int) (b : Bool) (w : World) (h : (Tm.mk mo ra ki co st en ms bk lg eo ro).btw n = b) :
  Calls Tryz.prog 99 #[.agg #[.int .i64 mo, .int .i64 ra, .int .i64 ki, .int .i64 co, .int .i64 st, .int .i64 en, .int .i64 ms, .bool bk, .bool lg, .bool eo, .int .i64 ro], .int .i64 n] w fun e w' => e = .returned (.bool b) ∧ Below w.heap.size w w' := by
 have H := Held.start w
 have e1 : (decide (st < n) && decide (n < en)) = b := h
 by_cases h1 : st < n
 ·have t1 : decide (st < n) = true := decide_eq_true h1
  rw [t1, Bool.true_and] at e1
  have HB := Lib.hid e1
  clear e1 h
  go_enter Tryz.func99, Tryz.ntmps99
  go_wp2_with fail
  replace H := H.box_11 (w.heap.size) (.int .i64 mo) (.int .i64 ra) (.int .i64 ki) (.int .i64 co) (.int .i64 st) (.int .i64 en) (.int .i64 ms) (.bool bk) (.bool lg) (.bool eo) (.int .i64 ro) 23 rfl
  go_ret
  exact ⟨retB HB.out, H.old⟩
 ·have t1 : decide (st < n) = false := decide_eq_false h1
  rw [t1, Bool.false_and] at e1
  have HB := Lib.hid e1
  clear e1 h
  go_enter Tryz.func99, Tryz.ntmps99
  go_wp2_with fail
  replace H := H.box_11 (w.heap.size) (.int .i64 mo) (.int .i64 ra) (.int .i64 ki) (.int .i64 co) (.int .i64 st) (.int .i64 en) (.int .i64 ms) (.bool bk) (.bool lg) (.bool eo) (.int .i64 ro) 23 rfl
  go_ret
  exact ⟨retB HB.out, H.old⟩
theorem zOr (mo ra ki co st en ms : Int) (lg eo : Bool) (ro : Int) (w : World) (hm : -100 ≤ ms ∧ ms ≤ 100) :
  Calls Tryz.prog 100 #[.agg #[.int .i64 mo, .int .i64 ra, .int .i64 ki, .int .i64 co, .int .i64 st, .int .i64 en, .int .i64 ms, .bool true, .bool lg, .bool eo, .int .i64 ro]] w fun e w' => e = .returned (.tuple #[.int .i64 en, .int .i64 st, .int .i64 (-ms)]) ∧ Below w.heap.size w w' := by
 have H := Held.start w
 go_enter Tryz.func100, Tryz.ntmps100
 go_wp2_with fail
 go_quiet (fail)
 go_wp2_with fail
 replace H := H.box_11 (w.heap.size) (.int .i64 mo) (.int .i64 ra) (.int .i64 ki) (.int .i64 co) (.int .i64 st) (.int .i64 en) (.int .i64 ms) (.bool true) (.bool lg) (.bool eo) (.int .i64 ro) 23 rfl
 go_ret3
 exact ⟨rfl, (H.drewN _).old⟩
theorem zMd (mo ra ki co st en ms : Int) (lg eo : Bool) (ro : Int) (w : World) (hm : -100 ≤ ms ∧ ms ≤ 100) :
  Calls Tryz.prog 100 #[.agg #[.int .i64 mo, .int .i64 ra, .int .i64 ki, .int .i64 co, .int .i64 st, .int .i64 en, .int .i64 ms, .bool false, .bool lg, .bool eo, .int .i64 ro]] w fun e w' => e = .returned (.tuple #[.int .i64 st, .int .i64 en, .int .i64 ms]) ∧ Below w.heap.size w w' := by
 have H := Held.start w
 go_enter Tryz.func100, Tryz.ntmps100
 go_wp2_with fail
 go_quiet (fail)
 go_wp2_with fail
 replace H := H.box_11 (w.heap.size) (.int .i64 mo) (.int .i64 ra) (.int .i64 ki) (.int .i64 co) (.int .i64 st) (.int .i64 en) (.int .i64 ms) (.bool false) (.bool lg) (.bool eo) (.int .i64 ro) 23 rfl
 go_ret3
 exact ⟨rfl, (H.drewN _).old⟩
theorem zL2 (mo ra ki co st en ms : Int) (bk lg eo : Bool) (ro : Int) (w : World) (hm : -100 ≤ ms ∧ ms ≤ 100) :
  Calls Tryz.prog 100 #[.agg #[.int .i64 mo, .int .i64 ra, .int .i64 ki, .int .i64 co, .int .i64 st, .int .i64 en, .int .i64 ms, .bool bk, .bool lg, .bool eo, .int .i64 ro]] w fun e w' => e = .returned (.tuple #[.int .i64 (Tm.mk mo ra ki co st en ms bk lg eo ro).an, .int .i64 (Tm.mk mo ra ki co st en ms bk lg eo ro).ot, .int .i64 (Tm.mk mo ra ki co st en ms bk lg eo ro).ap]) ∧ Below w.heap.size w w' := by
 cases bk
 ·exact zMd mo ra ki co st en ms lg eo ro w hm
 ·exact zOr mo ra ki co st en ms lg eo ro w hm
theorem zQw (mo ra ki co st en ms : Int) (bk lg eo : Bool) (ro : Int) (k : Int) (b : Bool) (w : World) (hs : 1 ≤ st ∧ st ≤ 3652059) (he : 1 ≤ en ∧ en ≤ 3652059) (ho : st < en) (hk : 0 ≤ k ∧ k ≤ 1000) (h : decide (en - st ≤ 31 * k) = b) :
  Calls Tryz.prog 25 #[.agg #[.int .i64 mo, .int .i64 ra, .int .i64 ki, .int .i64 co, .int .i64 st, .int .i64 en, .int .i64 ms, .bool bk, .bool lg, .bool eo, .int .i64 ro], .int .i64 k] w fun e w' => e = .returned (.bool b) ∧ Below w.heap.size w w' := by
 have H := Held.start w
 cases b
 ·go_enter Tryz.func25, Tryz.ntmps25
  go_wp2_with fail
  replace H := H.box_11 (w.heap.size) (.int .i64 mo) (.int .i64 ra) (.int .i64 ki) (.int .i64 co) (.int .i64 st) (.int .i64 en) (.int .i64 ms) (.bool bk) (.bool lg) (.bool eo) (.int .i64 ro) 23 rfl
  go_ret
  exact ⟨rfl, H.old⟩
 ·have h2 : decide (st ≤ en) = true := decide_eq_true (by omega)
  go_enter Tryz.func25, Tryz.ntmps25
  go_wp2_with fail
  replace H := H.box_11 (w.heap.size) (.int .i64 mo) (.int .i64 ra) (.int .i64 ki) (.int .i64 co) (.int .i64 st) (.int .i64 en) (.int .i64 ms) (.bool bk) (.bool lg) (.bool eo) (.int .i64 ro) 23 rfl
  go_ret
  exact ⟨rfl, H.old⟩
theorem zCe (aO : Option Addr) (n ca : Nat) (X : Nat → Int) (bO : Option Addr) (cb : Nat) (Y : Nat → Int) (w : World) (hn : n ≤ 2000) (hA : DaysAt w aO X n ca) (hB : DaysAt w bO Y n cb) (h : ∀ i, i < n → X i = Y i) :
  Calls Tryz.prog 20 #[.slice aO n ca, .slice bO n cb] w fun e w' => e = .returned (.bool true) ∧ Below w.heap.size w w' := by
 have KA := Lib.hid hA
 have KB := Lib.hid hB
 have KE := Lib.hid h
 clear hA hB h
 go_enter Tryz.func20, Tryz.ntmps20
 go_wp2_with fail
 go_loopw [5] (fun i wr => ∃ k : Nat, k ≤ n ∧ i = .int .i64 (k : Int) ∧ Below w.heap.size w wr) (fun i _ => n - (intOf i).toNat)
 case atStart => exact ⟨0, by omega, rfl, Below.refl _ _⟩
 case round =>
  obtain ⟨k, hk, rfl, hB⟩ := hrel
  have HB := Lib.hid hB
  by_cases hlt : k < n
  ·obtain ⟨bA, oA, rfl, da⟩ := (KA.out.below hB).2 (by omega)
   obtain ⟨bB, oB, rfl, db⟩ := (KB.out.below hB).2 (by omega)
   have ka := da k hlt
   have kb := db k hlt
   rw [← KE.out k hlt] at kb
   obtain ⟨x, hx⟩ : ∃ x, X k = x := ⟨_, rfl⟩
   rw [hx] at ka kb
   have n1 := KA.out.1
   have n2 := KB.out.1
   clear da db hB hx
   go_wp2_with fail
   go_quiet (fail)
   go_wp2
   go_roundw
   case rel => exact ⟨k + 1, by omega, by go_num, zAa HB.out _⟩
   case measure => simp [intOf]; omega
  ·obtain rfl : k = n := by omega
   clear hB
   go_wp2
   go_ret
   exact ⟨rfl, HB.out⟩
end Go.Proofs.YtpfgdfpaoldhcaaGreatDoor
namespace Go.Proofs.YtpfgdfpaoldhcaaGreatDoor
open Go.RowKit Go.Shelf
attribute [local go_sem] Oper.semAt_some
theorem zIm (mo ra ki co st en ms : Int) (bk lg eo : Bool) (ro : Int) (w : World) (hm : -100 ≤ ms ∧ ms ≤ 100) :
  Calls Tryz.prog 95 #[.agg #[.int .i64 mo, .int .i64 ra, .int .i64 ki, .int .i64 co, .int .i64 st, .int .i64 en, .int .i64 ms, .bool bk, .bool lg, .bool eo, .int .i64 ro]] w fun e w' => ∃ B, e = .returned (.func (.func 109) #[] #[.pointer (some ⟨B, 0, none⟩), .pointer (some ⟨B + 1, 0, none⟩), .pointer (some ⟨w.heap.size, 0, none⟩)]) ∧ w.heap.size < B ∧ w'.heap.size = B + 2 ∧ Held w (.cell (B + 1) 0 (.int .i64 (Tm.mk mo ra ki co st en ms bk lg eo ro).ap) :: .free (B + 1) 0 :: .cell B 0 (.int .i64 (Tm.mk mo ra ki co st en ms bk lg eo ro).an) :: .free B 0 :: .cell (w.heap.size) 0 (.int .i64 mo) :: .cell (w.heap.size) 1 (.int .i64 ra) :: .cell (w.heap.size) 2 (.int .i64 ki) :: .cell (w.heap.size) 3 (.int .i64 co) :: .cell (w.heap.size) 4 (.int .i64 st) :: .cell (w.heap.size) 5 (.int .i64 en) :: .cell (w.heap.size) 6 (.int .i64 ms) :: .cell (w.heap.size) 7 (.bool bk) :: .cell (w.heap.size) 8 (.bool lg) :: .cell (w.heap.size) 9 (.bool eo) :: .cell (w.heap.size) 10 (.int .i64 ro) :: .free (w.heap.size) 0 :: .free (w.heap.size) 1 :: .free (w.heap.size) 2 :: .free (w.heap.size) 3 :: .free (w.heap.size) 4 :: .free (w.heap.size) 5 :: .free (w.heap.size) 6 :: .free (w.heap.size) 7 :: .free (w.heap.size) 8 :: .free (w.heap.size) 9 :: .free (w.heap.size) 10 :: []) w' := by
 have H := Held.start w
 have EN := Lib.hid (fun v => zL2 mo ra ki co st en ms bk lg eo ro v hm)
 go_enter Tryz.func95, Tryz.ntmps95
 go_wp2_with fail
 replace H := H.box_11 (w.heap.size) (.int .i64 mo) (.int .i64 ra) (.int .i64 ki) (.int .i64 co) (.int .i64 st) (.int .i64 en) (.int .i64 ms) (.bool bk) (.bool lg) (.bool eo) (.int .i64 ro) 23 rfl
 (with_reducible refine (EN.out _).mono ?_)
 rintro e w1 ⟨rfl, hb⟩
 have hlt := hb.size
 rw [World.size_alloc] at hlt
 replace hlt : w.heap.size < w1.heap.size := hlt
 replace H := H.below hb
 clear hb
 obtain ⟨ct0, ct1, ct2, ct3, ct4, ct5, ct6, ct7, ct8, ct9, ct10⟩ := H.cells11 (w.heap.size)
 have lt := zA0 ct0
 go_wp2_with fail
 clear ct0 ct1 ct2 ct3 ct4 ct5 ct6 ct7 ct8 ct9 ct10 lt
 replace H := H.lone (w1.heap.size) (.int .i64 (Tm.mk mo ra ki co st en ms bk lg eo ro).an) 3 rfl
 replace H := H.lone (w1.heap.size + 1) (.int .i64 (Tm.mk mo ra ki co st en ms bk lg eo ro).ap) 3 (by simp)
 go_ret
 exact ⟨w1.heap.size, rfl, hlt, by simp, H⟩
theorem zJj {W W' : World} (h : Below W.heap.size W W') : W.grownBy W' none := ⟨h.os, h.tape, h.output, h.size, fun k hk _ => h.block k hk⟩
theorem zEd {β : Type} {B : Nat} {J : β → World → Prop} (hJ : AbidesFrom B J) {s : β} {W W' : World} (h : J s W) (hb : Below W.heap.size W W') : J s W' := hJ s W W' none h (zJj hb) (fun r e => by cases e)
theorem KpS.below {n₀ S : Nat} {W W' W'' : World} (h : KpS n₀ S W W') (hb : Below W'.heap.size W' W'') (hn : n₀ ≤ W'.heap.size) : KpS n₀ S W W'' := h.trans (KpS.of_below hb hn)
theorem Lens.kps {n₀ S : Nat} {W W' : World} (h : Lens W) (hk : KpS n₀ S W W') (hg : 9 < n₀ ∧ 9 ≠ S) : Lens W' := fun i hi => (hk.cell (o := i) hg.1 hg.2).trans (h i hi)
theorem mul_bd {k a : Int} (h0 : 0 ≤ k) (h1 : k ≤ 1100) (h2 : -100 ≤ a) (h3 : a ≤ 100) : -110000 ≤ k * a ∧ k * a ≤ 110000 := by
 have x := Int.mul_le_mul_of_nonneg_left h3 h0
 have y := Int.mul_le_mul_of_nonneg_left h2 h0
 omega
theorem zQy (n : Nat) (hn : 1 ≤ n) (l Ba Bp Bt n₀ S : Nat) (mo ra ki co st en ms : Int) (bk lg eo : Bool) (ro : Int) (X E : Nat → Int) (m : Nat) (HWk : Hid ((Tm.mk mo ra ki co st en ms bk lg eo ro).Walk X E m)) (ap : Int) (hap : (Tm.mk mo ra ki co st en ms bk lg eo ro).ap = ap) (an : Int) (han : (Tm.mk mo ra ki co st en ms bk lg eo ro).an = an) (hab : -100 ≤ ap ∧ ap ≤ 100)
  (la : Ba < n₀ ∧ Ba ≠ S) (lp : Bp < n₀ ∧ Bp ≠ S) (lt : Bt < n₀ ∧ Bt ≠ S) (lg' : 9 < n₀ ∧ 9 ≠ S) (hlast : Bp + 1 = n₀) (J Jx : List Int → World → Prop) (W : World) (hJ : AbidesFrom W.heap.size J)
  (hY : ∀ pre x W, J pre W → pre.length < gl E m → YieldAt Fence.wide (n - 1) Tryz.prog l #[.int .i64 x] W fun e W' =>
   (e = .returned (.bool true) ∧ J (pre ++ [x]) W' ∧ KpS n₀ S W W') ∨ (e = .returned (.bool false) ∧ Jx (pre ++ [x]) W'))
  (hL : Lens W) (ca : W.cell? ⟨Ba, 0, none⟩ = some (.int .i64 an)) (cp : W.cell? ⟨Bp, 0, none⟩ = some (.int .i64 ap)) (c0 : W.cell? ⟨Bt, 0, none⟩ = some (.int .i64 mo)) (c1 : W.cell? ⟨Bt, 1, none⟩ = some (.int .i64 ra)) (c2 : W.cell? ⟨Bt, 2, none⟩ = some (.int .i64 ki)) (c3 : W.cell? ⟨Bt, 3, none⟩ = some (.int .i64 co)) (c4 : W.cell? ⟨Bt, 4, none⟩ = some (.int .i64 st)) (c5 : W.cell? ⟨Bt, 5, none⟩ = some (.int .i64 en)) (c6 : W.cell? ⟨Bt, 6, none⟩ = some (.int .i64 ms)) (c7 : W.cell? ⟨Bt, 7, none⟩ = some (.bool bk)) (c8 : W.cell? ⟨Bt, 8, none⟩ = some (.bool lg)) (c9 : W.cell? ⟨Bt, 9, none⟩ = some (.bool eo)) (c10 : W.cell? ⟨Bt, 10, none⟩ = some (.int .i64 ro)) (h0 : J [] W) :
  CallsIn Fence.wide n Tryz.prog 109 #[.func (.yield l) #[] #[], .pointer (some ⟨Ba, 0, none⟩), .pointer (some ⟨Bp, 0, none⟩), .pointer (some ⟨Bt, 0, none⟩)] W fun e W' => (∃ v, e = .returned v) ∧
   ((∃ ys, ys = dl X (gl E m) ∧ J ys W') ∨ (∃ pre, True ∧ Jx pre W')) := by
 have HMv := Lib.hid (fun (k : Nat) (q : Int) (v : World) (hq : (k : Int) * ap = q) (h : Lens v) => move_any an q (X k) (E k) eo v h (by rw [← hq, ← hap, ← han]; exact HWk.out.mv k))
 have HBt := Lib.hid (fun x b v h => zF0 mo ra ki co st en ms bk lg eo ro x b v h)
 have one := HWk.out.one
 have top := HWk.out.top
 have HL := Lib.hid hL
 have HY := Lib.hid hY
 clear hL hap han hY
 refine callsIn_of_wp Tryz.func109 rfl trivial ?_ rfl
 simp only [Tryz.ntmps109, List.size_toArray, List.length_cons, List.length_nil, Nat.reduceAdd, Nat.reduceSub, Array.replicate_succ, Array.replicate_zero, List.push_toArray, List.append_toArray, List.nil_append, List.cons_append]
 gi_wp2
 gi_loopw [5, 6, 7] (fun kk dd ee wr => ∃ k : Nat, k ≤ m ∧ kk = .int .i64 k ∧ J (dl X k) wr ∧ KpS n₀ S W wr) (fun kk _ _ _ => m - (intOf kk).toNat)
 case atStart => exact ⟨0, Nat.zero_le _, rfl, h0, KpS.refl _ _ _⟩
 case round =>
  obtain ⟨k, hk, rfl, hJs, hnx⟩ := hrel
  have da := (hnx.cell (o := 0) la.1 la.2).trans ca
  have dp := (hnx.cell (o := 0) lp.1 lp.2).trans cp
  have d9 := (hnx.cell (o := 9) lt.1 lt.2).trans c9
  have hn0 : n₀ ≤ wr.heap.size := by have := zA0 dp; omega
  have hLr := Lib.hid (HL.out.kps hnx lg')
  obtain ⟨q, hq⟩ : ∃ q, (k : Int) * ap = q := ⟨_, rfl⟩
  have bq := mul_bd (k := (k : Int)) (by omega) (by omega) hab.1 hab.2
  rw [hq] at bq
  have MV := Lib.hid (fun v h => HMv.out k q v hq h)
  have HN := Lib.hid hnx
  clear hnx
  gi_wp2_with fail
  clear hq
  refine ⟨trivial, ?_⟩
  refine (callsIn_wide.2 (MV.out _ hLr.out)).mono ?_
  rintro e w2 ⟨rfl, hb⟩
  have hJ2 : J (dl X k) w2 := zEd hJ hJs hb
  have HN2 := Lib.hid (HN.out.below hb hn0)
  have hn2 : n₀ ≤ w2.heap.size := Nat.le_trans hn0 hb.size
  clear hJs HN MV hLr da dp d9 hb hn0
  by_cases hE : E k = 0
  ·have hlen : (dl X k).length < gl E m := by
    rw [zAo]
    unfold gl
    split
    ·omega
    ·next c =>
     have : k ≠ m := fun e => c (e ▸ hE)
     omega
   obtain ⟨fn, tmps, assign, body, hy, hR⟩ := HY.out (dl X k) (X k) w2 hJ2 hlen
   rw [← zE1] at hR
   have EZ := Lib.hid hE
   rw [hE]
   clear hE
   gi_wp2
   refine hR.mono ?_
   rintro e W3 (⟨rfl, hJ3, hk3⟩ | ⟨rfl, hJx3⟩)
   ·have HN3 := Lib.hid (HN2.out.trans hk3)
    clear hR hy hk3
    by_cases hz : k = 0
    ·subst hz
     gi_wp2
     refine ⟨trivial, ?_⟩
     gi_wp2
     go_roundw
     case rel => exact ⟨1, one, by go_num, hJ3, HN3.out⟩
     case measure => simp [intOf]; omega
    ·have d0 := (HN3.out.cell (o := 0) lt.1 lt.2).trans c0
     have d1 := (HN3.out.cell (o := 1) lt.1 lt.2).trans c1
     have d2 := (HN3.out.cell (o := 2) lt.1 lt.2).trans c2
     have d3 := (HN3.out.cell (o := 3) lt.1 lt.2).trans c3
     have d4 := (HN3.out.cell (o := 4) lt.1 lt.2).trans c4
     have d5 := (HN3.out.cell (o := 5) lt.1 lt.2).trans c5
     have d6 := (HN3.out.cell (o := 6) lt.1 lt.2).trans c6
     have d7 := (HN3.out.cell (o := 7) lt.1 lt.2).trans c7
     have d8 := (HN3.out.cell (o := 8) lt.1 lt.2).trans c8
     have d9 := (HN3.out.cell (o := 9) lt.1 lt.2).trans c9
     have d10 := (HN3.out.cell (o := 10) lt.1 lt.2).trans c10
     have n3 : n₀ ≤ W3.heap.size := by have := zA0 ((HN3.out.cell (o := 0) lp.1 lp.2).trans cp); omega
     obtain ⟨b, hb⟩ : ∃ b, (Tm.mk mo ra ki co st en ms bk lg eo ro).btw (X k) = b := ⟨_, rfl⟩
     have BT := Lib.hid (fun v => HBt.out (X k) b v hb)
     have HB := Lib.hid hb
     clear hb
     have kp : decide ((k : Int) > 0) = true := decide_eq_true (by omega)
     gi_wp2_with fail
     refine ⟨trivial, ?_⟩
     refine (callsIn_wide.2 (BT.out _)).mono ?_
     rintro e w4 ⟨rfl, hb4⟩
     have hJ4 : J (dl X (k + 1)) w4 := zEd hJ hJ3 hb4
     have HN4 := Lib.hid (HN3.out.below hb4 n3)
     clear hJ3 hb4 BT HN3 HN2 d0 d1 d2 d3 d4 d5 d6 d7 d8 d9 d10
     cases b
     ·have hkm : k = m := by
       rcases Nat.lt_or_ge k m with g | g
       ·have := (Tm.btw_iff _ _).2 (HWk.out.mid k (by omega) g).2
        rw [HB.out] at this
        cases this
       ·omega
      subst hkm
      have FIN := Lib.hid (show dl X (k + 1) = dl X (gl E k) by unfold gl; rw [if_pos EZ.out])
      gi_wp2
      refine bodyPost_ret (results_none rfl _ _ _) rfl ?_
      exact ⟨⟨_, rfl⟩, .inl ⟨_, FIN.out, hJ4⟩⟩
     ·have hkm : k < m := by
       rcases Nat.lt_or_ge k m with g | g
       ·exact g
       ·obtain rfl : k = m := by omega
        exact absurd ((Tm.btw_iff _ _).1 HB.out) (HWk.out.last EZ.out)
      gi_wp2
      go_roundw
      case rel => exact ⟨k + 1, hkm, by go_num, hJ4, HN4.out⟩
      case measure => simp [intOf]; omega
   ·gi_wp2
    refine bodyPost_ret (results_none rfl _ _ _) rfl ?_
    exact ⟨⟨_, rfl⟩, .inr ⟨_, trivial, hJx3⟩⟩
  ·have hkm : k = m := by
    rcases Nat.lt_or_ge k m with g | g
    ·rcases Nat.eq_zero_or_pos k with z | z
     ·subst z; exact absurd HWk.out.e0 hE
     ·exact absurd (HWk.out.mid k z g).1 hE
    ·omega
   subst hkm
   have e3 : E k = 3 := (HWk.out.code k).resolve_left hE
   have FIN := Lib.hid (show dl X k = dl X (gl E k) by unfold gl; rw [if_neg hE])
   rw [e3]
   clear hE e3
   gi_wp2
   refine ⟨fun _ h => (by cases h), ?_⟩
   gi_wp2
   refine bodyPost_ret (results_none rfl _ _ _) rfl ?_
   exact ⟨⟨_, rfl⟩, .inl ⟨_, FIN.out, hJ2⟩⟩
end Go.Proofs.YtpfgdfpaoldhcaaGreatDoor
namespace Go.Proofs.YtpfgdfpaoldhcaaGreatDoor
open Go.RowKit
theorem zQj (w : World) : Calls Tryz.prog 29 #[.int .i64 1] w fun e w' => e = .returned (.int .i64 12) ∧ w = w' := by
 go_enter Tryz.func29, Tryz.ntmps29
 go_wp2
 go_ret
 exact ⟨rfl, rfl⟩
theorem zQk (w : World) : Calls Tryz.prog 29 #[.int .i64 2] w fun e w' => e = .returned (.int .i64 6) ∧ w = w' := by
 go_enter Tryz.func29, Tryz.ntmps29
 go_wp2
 go_ret
 exact ⟨rfl, rfl⟩
theorem zQl (w : World) : Calls Tryz.prog 29 #[.int .i64 3] w fun e w' => e = .returned (.int .i64 4) ∧ w = w' := by
 go_enter Tryz.func29, Tryz.ntmps29
 go_wp2
 go_ret
 exact ⟨rfl, rfl⟩
theorem zQm (w : World) : Calls Tryz.prog 29 #[.int .i64 4] w fun e w' => e = .returned (.int .i64 3) ∧ w = w' := by
 go_enter Tryz.func29, Tryz.ntmps29
 go_wp2
 go_ret
 exact ⟨rfl, rfl⟩
theorem zQn (w : World) : Calls Tryz.prog 29 #[.int .i64 6] w fun e w' => e = .returned (.int .i64 2) ∧ w = w' := by
 go_enter Tryz.func29, Tryz.ntmps29
 go_wp2
 go_ret
 exact ⟨rfl, rfl⟩
theorem zMy (w : World) : Calls Tryz.prog 29 #[.int .i64 12] w fun e w' => e = .returned (.int .i64 1) ∧ w = w' := by
 go_enter Tryz.func29, Tryz.ntmps29
 go_wp2
 go_ret
 exact ⟨rfl, rfl⟩
theorem zK8 (m : Int) (w : World) (h : ¬ Mo m) : Calls Tryz.prog 29 #[.int .i64 m] w fun e w' => e = .returned (.int .i64 0) ∧ w = w' := by
 unfold Mo at h
 have n1 : (m == 1) = false := beq_eq_false_iff_ne.2 (by omega)
 have n2 : (m == 2) = false := beq_eq_false_iff_ne.2 (by omega)
 have n3 : (m == 3) = false := beq_eq_false_iff_ne.2 (by omega)
 have n4 : (m == 4) = false := beq_eq_false_iff_ne.2 (by omega)
 have n6 : (m == 6) = false := beq_eq_false_iff_ne.2 (by omega)
 have n12 : (m == 12) = false := beq_eq_false_iff_ne.2 (by omega)
 clear h
 go_enter Tryz.func29, Tryz.ntmps29
 go_wp2
 go_ret
 exact ⟨rfl, rfl⟩
theorem zC1 (m r : Int) (w : World) (h : fr m = r) : Calls Tryz.prog 29 #[.int .i64 m] w fun e w' => e = .returned (.int .i64 r) ∧ Below w.heap.size w w' := by
 subst h
 by_cases h : Mo m
 ·rcases h with rfl | rfl | rfl | rfl | rfl | rfl
  ·exact Calls.same (zQj w)
  ·exact Calls.same (zQk w)
  ·exact Calls.same (zQl w)
  ·exact Calls.same (zQm w)
  ·exact Calls.same (zQn w)
  ·exact Calls.same (zMy w)
 ·rw [fr_no h]
  exact Calls.same (zK8 m w h)
theorem zMz (w : World) (hL : FactsT w) : Calls Tryz.prog 121 #[.int .i64 0] w fun e w' => e = .returned (.string (rn 0)) ∧ w = w' := by
 have z := hL.2.1 0 (by decide)
 rw [show (((0 : Nat)) : Int) = 0 from rfl] at z
 have lz := zA0 z
 clear hL
 go_enter Tryz.func121, Tryz.ntmps121
 go_wp2
 go_ret
 exact ⟨rfl, rfl⟩
theorem zN0 (w : World) (hL : FactsT w) : Calls Tryz.prog 121 #[.int .i64 1] w fun e w' => e = .returned (.string (rn 1)) ∧ w = w' := by
 have z := hL.2.1 1 (by decide)
 rw [show (((1 : Nat)) : Int) = 1 from rfl] at z
 have lz := zA0 z
 clear hL
 go_enter Tryz.func121, Tryz.ntmps121
 go_wp2
 go_ret
 exact ⟨rfl, rfl⟩
theorem zN1 (w : World) (hL : FactsT w) : Calls Tryz.prog 121 #[.int .i64 2] w fun e w' => e = .returned (.string (rn 2)) ∧ w = w' := by
 have z := hL.2.1 2 (by decide)
 rw [show (((2 : Nat)) : Int) = 2 from rfl] at z
 have lz := zA0 z
 clear hL
 go_enter Tryz.func121, Tryz.ntmps121
 go_wp2
 go_ret
 exact ⟨rfl, rfl⟩
theorem zN2 (w : World) (hL : FactsT w) : Calls Tryz.prog 121 #[.int .i64 3] w fun e w' => e = .returned (.string (rn 3)) ∧ w = w' := by
 have z := hL.2.1 3 (by decide)
 rw [show (((3 : Nat)) : Int) = 3 from rfl] at z
 have lz := zA0 z
 clear hL
 go_enter Tryz.func121, Tryz.ntmps121
 go_wp2
 go_ret
 exact ⟨rfl, rfl⟩
theorem zN3 (w : World) (hL : FactsT w) : Calls Tryz.prog 121 #[.int .i64 4] w fun e w' => e = .returned (.string (rn 4)) ∧ w = w' := by
 have z := hL.2.1 4 (by decide)
 rw [show (((4 : Nat)) : Int) = 4 from rfl] at z
 have lz := zA0 z
 clear hL
 go_enter Tryz.func121, Tryz.ntmps121
 go_wp2
 go_ret
 exact ⟨rfl, rfl⟩
theorem zIf (k : Int) (w : World) (h : k < 0 ∨ 4 < k) : Calls Tryz.prog 121 #[.int .i64 k] w fun e w' => e = .returned (.string (rn k)) ∧ w = w' := by
 rw [rn_out k h]
 by_cases h0 : k < 0
 ·have t0 : decide (k < 0) = true := decide_eq_true h0
  go_enter Tryz.func121, Tryz.ntmps121
  go_wp2
  go_ret
  exact ⟨rfl, rfl⟩
 ·have t0 : decide (k < 0) = false := decide_eq_false h0
  have t1 : decide (k ≥ 5) = true := decide_eq_true (by omega)
  go_enter Tryz.func121, Tryz.ntmps121
  go_wp2
  go_ret
  exact ⟨rfl, rfl⟩
theorem zB7 (k : Int) (s : ByteArray) (w : World) (hL : FactsT w) (hs : rn k = s) : Calls Tryz.prog 121 #[.int .i64 k] w fun e w' => e = .returned (.string s) ∧ Below w.heap.size w w' := by
 subst hs
 by_cases h : k < 0 ∨ 4 < k
 ·exact Calls.same (zIf k w h)
 ·rcases of5 k (by omega) with rfl | rfl | rfl | rfl | rfl
  ·exact Calls.same (zMz w hL)
  ·exact Calls.same (zN0 w hL)
  ·exact Calls.same (zN1 w hL)
  ·exact Calls.same (zN2 w hL)
  ·exact Calls.same (zN3 w hL)
theorem zR8 (w : World) (hL : FactsT w) : Calls Tryz.prog 119 #[.int .i64 0] w fun e w' => e = .returned (.string (tn 0)) ∧ w = w' := by
 have z := hL.2.2.1 0 (by decide)
 rw [show (((0 : Nat)) : Int) = 0 from rfl] at z
 have lz := zA0 z
 clear hL
 go_enter Tryz.func119, Tryz.ntmps119
 go_wp2
 go_ret
 exact ⟨rfl, rfl⟩
theorem zR9 (w : World) (hL : FactsT w) : Calls Tryz.prog 119 #[.int .i64 1] w fun e w' => e = .returned (.string (tn 1)) ∧ w = w' := by
 have z := hL.2.2.1 1 (by decide)
 rw [show (((1 : Nat)) : Int) = 1 from rfl] at z
 have lz := zA0 z
 clear hL
 go_enter Tryz.func119, Tryz.ntmps119
 go_wp2
 go_ret
 exact ⟨rfl, rfl⟩
theorem zRa (w : World) (hL : FactsT w) : Calls Tryz.prog 119 #[.int .i64 2] w fun e w' => e = .returned (.string (tn 2)) ∧ w = w' := by
 have z := hL.2.2.1 2 (by decide)
 rw [show (((2 : Nat)) : Int) = 2 from rfl] at z
 have lz := zA0 z
 clear hL
 go_enter Tryz.func119, Tryz.ntmps119
 go_wp2
 go_ret
 exact ⟨rfl, rfl⟩
theorem zKp (k : Int) (w : World) (h : k < 0 ∨ 2 < k) : Calls Tryz.prog 119 #[.int .i64 k] w fun e w' => e = .returned (.string (tn k)) ∧ w = w' := by
 rw [tn_out k h]
 by_cases h0 : k < 0
 ·have t0 : decide (k < 0) = true := decide_eq_true h0
  go_enter Tryz.func119, Tryz.ntmps119
  go_wp2
  go_ret
  exact ⟨rfl, rfl⟩
 ·have t0 : decide (k < 0) = false := decide_eq_false h0
  have t1 : decide (k ≥ 3) = true := decide_eq_true (by omega)
  go_enter Tryz.func119, Tryz.ntmps119
  go_wp2
  go_ret
  exact ⟨rfl, rfl⟩
theorem zBd (k : Int) (s : ByteArray) (w : World) (hL : FactsT w) (hs : tn k = s) : Calls Tryz.prog 119 #[.int .i64 k] w fun e w' => e = .returned (.string s) ∧ Below w.heap.size w w' := by
 subst hs
 by_cases h : k < 0 ∨ 2 < k
 ·exact Calls.same (zKp k w h)
 ·rcases of3 k (by omega) with rfl | rfl | rfl
  ·exact Calls.same (zR8 w hL)
  ·exact Calls.same (zR9 w hL)
  ·exact Calls.same (zRa w hL)
theorem zR2 (w : World) : Calls Tryz.prog 87 #[.int .i64 1] w fun e w' => e = .returned (.int .i64 12) ∧ w = w' := by
 go_enter Tryz.func87, Tryz.ntmps87
 go_wp2
 go_ret
 exact ⟨rfl, rfl⟩
theorem zR3 (w : World) : Calls Tryz.prog 87 #[.int .i64 2] w fun e w' => e = .returned (.int .i64 6) ∧ w = w' := by
 go_enter Tryz.func87, Tryz.ntmps87
 go_wp2
 go_ret
 exact ⟨rfl, rfl⟩
theorem zR4 (w : World) : Calls Tryz.prog 87 #[.int .i64 3] w fun e w' => e = .returned (.int .i64 4) ∧ w = w' := by
 go_enter Tryz.func87, Tryz.ntmps87
 go_wp2
 go_ret
 exact ⟨rfl, rfl⟩
theorem zR5 (w : World) : Calls Tryz.prog 87 #[.int .i64 4] w fun e w' => e = .returned (.int .i64 3) ∧ w = w' := by
 go_enter Tryz.func87, Tryz.ntmps87
 go_wp2
 go_ret
 exact ⟨rfl, rfl⟩
theorem zR6 (w : World) : Calls Tryz.prog 87 #[.int .i64 6] w fun e w' => e = .returned (.int .i64 2) ∧ w = w' := by
 go_enter Tryz.func87, Tryz.ntmps87
 go_wp2
 go_ret
 exact ⟨rfl, rfl⟩
theorem zNc (w : World) : Calls Tryz.prog 87 #[.int .i64 12] w fun e w' => e = .returned (.int .i64 1) ∧ w = w' := by
 go_enter Tryz.func87, Tryz.ntmps87
 go_wp2
 go_ret
 exact ⟨rfl, rfl⟩
theorem zKo (m : Int) (w : World) (h : ¬ Mo m) : Calls Tryz.prog 87 #[.int .i64 m] w fun e w' => e = .returned (.int .i64 0) ∧ w = w' := by
 unfold Mo at h
 have n1 : (m == 1) = false := beq_eq_false_iff_ne.2 (by omega)
 have n2 : (m == 2) = false := beq_eq_false_iff_ne.2 (by omega)
 have n3 : (m == 3) = false := beq_eq_false_iff_ne.2 (by omega)
 have n4 : (m == 4) = false := beq_eq_false_iff_ne.2 (by omega)
 have n6 : (m == 6) = false := beq_eq_false_iff_ne.2 (by omega)
 have n12 : (m == 12) = false := beq_eq_false_iff_ne.2 (by omega)
 clear h
 go_enter Tryz.func87, Tryz.ntmps87
 go_wp2
 go_ret
 exact ⟨rfl, rfl⟩
theorem zBr (m r : Int) (w : World) (h : fr m = r) : Calls Tryz.prog 87 #[.int .i64 m] w fun e w' => e = .returned (.int .i64 r) ∧ Below w.heap.size w w' := by
 subst h
 by_cases h : Mo m
 ·rcases h with rfl | rfl | rfl | rfl | rfl | rfl
  ·exact Calls.same (zR2 w)
  ·exact Calls.same (zR3 w)
  ·exact Calls.same (zR4 w)
  ·exact Calls.same (zR5 w)
  ·exact Calls.same (zR6 w)
  ·exact Calls.same (zNc w)
 ·rw [fr_no h]
  exact Calls.same (zKo m w h)
end Go.Proofs.YtpfgdfpaoldhcaaGreatDoor
