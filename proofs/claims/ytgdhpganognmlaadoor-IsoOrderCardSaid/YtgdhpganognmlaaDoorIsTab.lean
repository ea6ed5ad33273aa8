/- Package iso: the two tables that stand (the months' lengths, the library's powers of ten), as one fact; a number with noughts ahead of it. -/
import Derived.Test.YtgdhpganognmlaaDoorIsPad
import Derived.Test.YtgdhpganognmlaaDoorShelf
import Derived.Lib.AppendIntMem
namespace Go.Proofs.YtgdhpganognmlaaDoor
open Go.RowKit
set_option linter.unusedVariables false
set_option linter.unusedSimpArgs false

/-- The library's powers of ten, as the program lays them. -/
def Pows (w : World) : Prop := Lib.TabIs Tryd.prog w "internal/strconv.uint64pow10" .u64 Lib.pow10Tab
theorem Pows.below {W W' : World} (h : Pows W) (hb : Below W.heap.size W W') : Pows W' := Lib.tabBelow_of_tabIs h _ hb
/-- Both tables stand. -/
def Tabs (w : World) : Prop := Lens w ∧ Pows w
theorem Tabs.below {W W' : World} (h : Tabs W) (hb : Below W.heap.size W W') : Tabs W' := ⟨h.1.below hb, h.2.below hb⟩
theorem Tabs.drewN {W : World} (h : Tabs W) (n : Nat) : Tabs (W.drewN n) := h.below (drewN_below n)
theorem Tabs.alloc {W : World} (h : Tabs W) (o : Obj) : Tabs (W.alloc o) := h.below ((Below.refl _ _).alloc (Nat.le_refl _) o)
def tabsF : Fact := .that Tabs (fun _ _ hb h => h.below hb)
theorem Held.tabs {w W : World} {fs : List Fact} (h : Held w fs W) (hm : tabsF ∈ fs) : Tabs W := h.all _ hm
theorem Held.tlens {w W : World} {fs : List Fact} (h : Held w fs W) (hm : tabsF ∈ fs) : Lens W := (h.tabs hm).1

/-- The digit's byte of a small number. -/
theorem dg_lit (n : Int) (j : Nat) (h : n % 10 = (j : Int)) : dg n = UInt8.ofNat (48 + j) := by
  unfold dg; rw [h]; rfl
/-- The numeral of a number of up to four digits, with noughts ahead of it, are its last four digits. -/
theorem pad4 (u : Nat) (h : u < 10000) : ∃ c : Nat, (Lib.decDigits u).length + c = 4 ∧ Lib.repeatL [48] c ++ Lib.decDigits u = digs (u : Int) 4 := by
  have e : digs (u : Int) 4 = [dg ((u : Int) / 1000), dg ((u : Int) / 100), dg ((u : Int) / 10), dg u] := by simp [digs]
  have z : (48 : UInt8) = UInt8.ofNat (48 + 0) := rfl
  rw [e]
  by_cases h1 : u < 10
  · refine ⟨3, by rw [Lib.decDigits_one h1]; rfl, ?_⟩
    rw [Lib.decDigits_one h1, dg_lit _ 0 (by omega), dg_lit _ 0 (by omega), dg_lit _ 0 (by omega), dg_lit _ u (by omega)]; rfl
  by_cases h2 : u < 100
  · refine ⟨2, by rw [Lib.decDigits_two h1 h2]; rfl, ?_⟩
    rw [Lib.decDigits_two h1 h2, dg_lit _ 0 (by omega), dg_lit _ 0 (by omega), dg_lit _ (u / 10) (by omega), dg_lit _ (u % 10) (by omega)]; rfl
  by_cases h3 : u < 1000
  · have d : Lib.decDigits u = [UInt8.ofNat (48 + u / 10 / 10), UInt8.ofNat (48 + u / 10 % 10), UInt8.ofNat (48 + u % 10)] := by
      rw [Lib.decDigits, dif_neg h1, Lib.decDigits_two (by omega) (by omega)]; rfl
    refine ⟨1, by rw [d]; rfl, ?_⟩
    rw [d, dg_lit _ 0 (by omega), dg_lit _ (u / 10 / 10) (by omega), dg_lit _ (u / 10 % 10) (by omega), dg_lit _ (u % 10) (by omega)]; rfl
  · have d : Lib.decDigits u = [UInt8.ofNat (48 + u / 10 / 10 / 10), UInt8.ofNat (48 + u / 10 / 10 % 10), UInt8.ofNat (48 + u / 10 % 10), UInt8.ofNat (48 + u % 10)] := by
      rw [Lib.decDigits, dif_neg h1, Lib.decDigits, dif_neg (by omega), Lib.decDigits_two (by omega) (by omega)]; rfl
    refine ⟨0, by rw [d]; rfl, ?_⟩
    rw [d, dg_lit _ (u / 10 / 10 / 10) (by omega), dg_lit _ (u / 10 / 10 % 10) (by omega), dg_lit _ (u / 10 % 10) (by omega), dg_lit _ (u % 10) (by omega)]; rfl
theorem pad2 (u : Nat) (h : u < 100) : ∃ c : Nat, (Lib.decDigits u).length + c = 2 ∧ Lib.repeatL [48] c ++ Lib.decDigits u = digs (u : Int) 2 := by
  have e : digs (u : Int) 2 = [dg ((u : Int) / 10), dg u] := by simp [digs]
  rw [e]
  by_cases h1 : u < 10
  · refine ⟨1, by rw [Lib.decDigits_one h1]; rfl, ?_⟩
    rw [Lib.decDigits_one h1, dg_lit _ 0 (by omega), dg_lit _ u (by omega)]; rfl
  · refine ⟨0, by rw [Lib.decDigits_two h1 h]; rfl, ?_⟩
    rw [Lib.decDigits_two h1 h, dg_lit _ (u / 10) (by omega), dg_lit _ (u % 10) (by omega)]; rfl

theorem itoa_any (n : Int) (l : List UInt8) (w : World) (hP : Pows w) (h1 : 0 ≤ n) (h2 : n ≤ 9999) (hl : Lib.itoa n = l) :
    Calls Tryd.prog 27 #[.int .i64 n] w fun e w' => e = .returned (.string ⟨l.toArray⟩) ∧ Below w.heap.size w w' := by
  refine (Tryd.strconv_Itoa n (by omega) (by omega) w hP).mono ?_
  rintro e w' ⟨rfl, k, os, rfl⟩
  exact ⟨by rw [hl], Lib.below_grow _ _ (Nat.le_refl _) _ _⟩
theorem repeat_any (c : Nat) (l : List UInt8) (w : World) (hc : c ≤ 4) (hl : Lib.repeatL [48] c = l) :
    Calls Tryd.prog 28 #[.string ⟨#[48]⟩, .int .i64 c] w fun e w' => e = .returned (.string ⟨l.toArray⟩) ∧ Below w.heap.size w w' := by
  refine (Tryd.strings_Repeat ⟨#[48]⟩ c w (by omega) (by have : (⟨#[48]⟩ : ByteArray).size = 1 := rfl; rw [this]; omega)).mono ?_
  rintro e w' ⟨rfl, hb⟩
  exact ⟨by rw [← hl], hb⟩
theorem padded_any (n k : Int) (c : Nat) (l r : List UInt8) (w : World) (hP : Pows w) (h1 : 0 ≤ n) (h2 : n ≤ 9999) (hl : Lib.itoa n = l) (hc : (l.length : Int) + c = k) (hk : k ≤ 4) (hr : Lib.repeatL [48] c ++ l = r) :
    Calls Tryd.prog 17 #[.int .i64 n, .int .i64 k] w fun e w' => e = .returned (.string ⟨r.toArray⟩) ∧ Below w.heap.size w w' := by
  obtain ⟨z, hz⟩ : ∃ z, Lib.repeatL [48] c = z := ⟨_, rfl⟩
  have hzl : z.length = c := by rw [← hz, Lib.repeatL_length]; simp
  rw [hz] at hr
  have hadd := fun v : World => add_lists z l (by omega) v
  rw [hr] at hadd
  have C1 := fun (v : World) (hv : Pows v) => itoa_any n l v hv h1 h2 hl
  have C2 := fun v : World => repeat_any c z v (by omega) hz
  have hw : wrap64 (k - (l.length : Int)) = (c : Int) := by unfold wrap64; omega
  have HC1 := Lib.hid C1
  have HC2 := Lib.hid C2
  clear C1 C2 hl hr hz hzl h1 h2 hc hk
  go_enter Tryd.func17, Tryd.ntmps17
  go_wp2_with fail
  (with_reducible refine (HC1.out _ hP).mono ?_)
  rintro e w1 ⟨rfl, hb1⟩
  go_wp2_with fail
  (with_reducible refine (HC2.out _).mono ?_)
  rintro e w2 ⟨rfl, hb2⟩
  go_wp2
  go_ret
  exact ⟨rfl, hb1.trans (hb2.mono hb1.size)⟩
theorem padded_4 (n : Int) (r : List UInt8) (w : World) (hP : Pows w) (h1 : 0 ≤ n) (h2 : n ≤ 9999) (hr : digs n 4 = r) :
    Calls Tryd.prog 17 #[.int .i64 n, .int .i64 4] w fun e w' => e = .returned (.string ⟨r.toArray⟩) ∧ Below w.heap.size w w' := by
  obtain ⟨u, rfl⟩ : ∃ u : Nat, n = u := ⟨n.toNat, by omega⟩
  obtain ⟨c, a, b⟩ := pad4 u (by omega)
  exact padded_any u 4 c _ r w hP h1 h2 (Lib.itoa_nonneg u) (by omega) (by decide) (b.trans hr)
theorem padded_2 (n : Int) (r : List UInt8) (w : World) (hP : Pows w) (h1 : 0 ≤ n) (h2 : n ≤ 99) (hr : digs n 2 = r) :
    Calls Tryd.prog 17 #[.int .i64 n, .int .i64 2] w fun e w' => e = .returned (.string ⟨r.toArray⟩) ∧ Below w.heap.size w w' := by
  obtain ⟨u, rfl⟩ : ∃ u : Nat, n = u := ⟨n.toNat, by omega⟩
  obtain ⟨c, a, b⟩ := pad2 u (by omega)
  exact padded_any u 2 c _ r w hP h1 (by omega) (Lib.itoa_nonneg u) (by omega) (by decide) (b.trans hr)
end Go.Proofs.YtgdhpganognmlaaDoor
