/- The reference of layer 6: Read, byte by byte. -/
import Derived.Test.YtgdhpganognmlaaDoorIsNum
import Derived.Test.YtgdhpganognmlaaDoorCShown
namespace Go.Proofs.YtgdhpganognmlaaDoor
open Go.RowKit
set_option linter.unusedVariables false
set_option linter.unusedSimpArgs false

/-- What is put together of the bytes at some places. -/
def V (S : Nat → Bool) (bs : Nat → Int) : Nat → Int
  | 0 => 0
  | t + 1 => if S t = true then 10 * V S bs t + bs t - 48 else V S bs t
def S0 (t : Nat) : Bool := decide (t < 4)
def S1 (t : Nat) : Bool := decide (t = 5 ∨ t = 6)
def S2 (t : Nat) : Bool := decide (t = 8 ∨ t = 9)
def KV (t : Nat) : Int := if t ≤ 4 then 0 else if t ≤ 7 then 1 else 2
/-- The byte at a place. -/
def bsl (l : List UInt8) (j : Nat) : Int := ((l.getD j 0).toNat : Int)
/-- Is the byte at a place one that may stand there? -/
def gd (bs : Nat → Int) (j : Nat) : Prop := if j = 4 ∨ j = 7 then bs j = 45 else 48 ≤ bs j ∧ bs j ≤ 57
theorem V_bd (S : Nat → Bool) (bs : Nat → Int) (h4 : S 4 = false) (h7 : S 7 = false) : ∀ t : Nat, t ≤ 10 → (∀ j, j < t → gd bs j) → 0 ≤ V S bs t ∧ V S bs t ≤ 10 ^ t - 1
  | 0, _, _ => by simp [V]
  | t + 1, ht, h => by
    have ih := V_bd S bs h4 h7 t (by omega) (fun j hj => h j (by omega))
    have g := h t (by omega)
    have p : (10 : Int) ^ (t + 1) = 10 * 10 ^ t := by rw [Int.pow_succ]; omega
    unfold V
    split
    · rename_i hs
      unfold gd at g
      have n4 : t ≠ 4 := by rintro rfl; rw [h4] at hs; cases hs
      have n7 : t ≠ 7 := by rintro rfl; rw [h7] at hs; cases hs
      rw [if_neg (by omega)] at g
      omega
    · have q : (0 : Int) < 10 ^ t := Int.pow_pos (by decide)
      omega
theorem V_small (S : Nat → Bool) (bs : Nat → Int) (h4 : S 4 = false) (h7 : S 7 = false) (t : Nat) (ht : t ≤ 10) (h : ∀ j, j < t → gd bs j) : 0 ≤ V S bs t ∧ V S bs t ≤ 9999999999 := by
  have a := V_bd S bs h4 h7 t ht h
  have b : (10 : Int) ^ t ≤ 10000000000 := (by decide : ∀ t : Fin 11, (10 : Int) ^ (t : Nat) ≤ 10000000000) ⟨t, by omega⟩
  omega
theorem isd_iff (b : UInt8) : isd b = true ↔ 48 ≤ (b.toNat : Int) ∧ (b.toNat : Int) ≤ 57 := by unfold isd; simp; omega
/-- All ten bytes may stand where they stand: what is told of the text. -/
theorem read_good (x0 x1 x2 x3 x4 x5 x6 x7 x8 x9 : UInt8) (n e : Int) (h : ReadIs [x0, x1, x2, x3, x4, x5, x6, x7, x8, x9] n e)
    (hg : ∀ j, j < 10 → gd (bsl [x0, x1, x2, x3, x4, x5, x6, x7, x8, x9]) j) :
    n = nN (V S0 (bsl [x0, x1, x2, x3, x4, x5, x6, x7, x8, x9]) 10) (V S1 (bsl [x0, x1, x2, x3, x4, x5, x6, x7, x8, x9]) 10) (V S2 (bsl [x0, x1, x2, x3, x4, x5, x6, x7, x8, x9]) 10) ∧
    e = nE (V S0 (bsl [x0, x1, x2, x3, x4, x5, x6, x7, x8, x9]) 10) (V S1 (bsl [x0, x1, x2, x3, x4, x5, x6, x7, x8, x9]) 10) (V S2 (bsl [x0, x1, x2, x3, x4, x5, x6, x7, x8, x9]) 10) := by
  have g0 := hg 0 (by decide)
  have g1 := hg 1 (by decide)
  have g2 := hg 2 (by decide)
  have g3 := hg 3 (by decide)
  have g4 := hg 4 (by decide)
  have g5 := hg 5 (by decide)
  have g6 := hg 6 (by decide)
  have g7 := hg 7 (by decide)
  have g8 := hg 8 (by decide)
  have g9 := hg 9 (by decide)
  simp [gd, bsl] at g0 g1 g2 g3 g4 g5 g6 g7 g8 g9
  rcases h with ⟨a, b, c, d, f, g, i, j, hl, hd, hn, he⟩ | ⟨hb, -, -⟩
  · simp only [List.cons.injEq, and_true] at hl
    obtain ⟨rfl, rfl, rfl, rfl, rfl, rfl, rfl, rfl, rfl, rfl⟩ := hl
    have e0 : V S0 (bsl [x0, x1, x2, x3, 45, x5, x6, 45, x8, x9]) 10 = v4 x0 x1 x2 x3 := by
      simp [V, S0, bsl, v4, dv]; omega
    have e1 : V S1 (bsl [x0, x1, x2, x3, 45, x5, x6, 45, x8, x9]) 10 = v2 x5 x6 := by
      simp [V, S1, bsl, v2, dv]; omega
    have e2 : V S2 (bsl [x0, x1, x2, x3, 45, x5, x6, 45, x8, x9]) 10 = v2 x8 x9 := by
      simp [V, S2, bsl, v2, dv]; omega
    rw [e0, e1, e2]
    exact ⟨hn, he⟩
  · exfalso
    have k4 : x4 = 45 := UInt8.toNat_inj.1 (by have : (45 : UInt8).toNat = 45 := rfl; omega)
    have k7 : x7 = 45 := UInt8.toNat_inj.1 (by have : (45 : UInt8).toNat = 45 := rfl; omega)
    subst k4 k7
    have := hb x0 x1 x2 x3 x5 x6 x8 x9 rfl
    rw [(isd_iff x0).2 g0, (isd_iff x1).2 g1, (isd_iff x2).2 g2, (isd_iff x3).2 g3, (isd_iff x5).2 g5, (isd_iff x6).2 g6, (isd_iff x8).2 g8, (isd_iff x9).2 g9] at this
    cases this
/-- A byte may not stand where it stands: the text is of another form. -/
theorem read_bad (l : List UInt8) (n e : Int) (h : ReadIs l n e) (j : Nat) (hj : j < 10) (hg : ¬ gd (bsl l) j) : n = 0 ∧ e = 10 := by
  rcases h with ⟨a, b, c, d, f, g, i, k, rfl, hd, hn, he⟩ | ⟨-, h1, h2⟩
  · exfalso
    simp only [Bool.and_eq_true, isd_iff] at hd
    obtain ⟨⟨⟨⟨⟨⟨⟨a1, b1⟩, c1⟩, d1⟩, f1⟩, g1⟩, i1⟩, j1⟩ := hd
    have q : (45 : UInt8).toNat = 45 := rfl
    have : j = 0 ∨ j = 1 ∨ j = 2 ∨ j = 3 ∨ j = 4 ∨ j = 5 ∨ j = 6 ∨ j = 7 ∨ j = 8 ∨ j = 9 := by omega
    rcases this with rfl | rfl | rfl | rfl | rfl | rfl | rfl | rfl | rfl | rfl <;> (apply hg; simp [gd, bsl]; try omega)
  · exact ⟨h1, h2⟩
theorem read_len (l : List UInt8) (n e : Int) (h : ReadIs l n e) (hl : l.length ≠ 10) : n = 0 ∧ e = 10 := by
  rcases h with ⟨a, b, c, d, f, g, i, k, rfl, hd, hn, he⟩ | ⟨-, h1, h2⟩
  · exact absurd rfl hl
  · exact ⟨h1, h2⟩
theorem list10 (l : List UInt8) (h : l.length = 10) : ∃ x0 x1 x2 x3 x4 x5 x6 x7 x8 x9 : UInt8, l = [x0, x1, x2, x3, x4, x5, x6, x7, x8, x9] := by
  match l, h with
  | [x0, x1, x2, x3, x4, x5, x6, x7, x8, x9], _ => exact ⟨_, _, _, _, _, _, _, _, _, _, rfl⟩

theorem rread_len (l : List UInt8) (w : World) (h : l.length ≠ 10) : Calls Tryd.prog 12 #[.string ⟨l.toArray⟩] w fun e w' => e = .returned (.tuple #[.int .i64 0, .int .i64 10]) ∧ Below w.heap.size w w' := by
  have h2 : ((l.length : Int) != 10) = true := by simp; omega
  go_enter Tryd.func12, Tryd.ntmps12
  go_wp2
  go_ret2
  exact ⟨rfl, Below.refl _ _⟩
theorem index_at (l : List UInt8) (t : Nat) (h : t < (⟨l.toArray⟩ : ByteArray).size) : (((⟨l.toArray⟩ : ByteArray)[t]'h).toNat : Int) = bsl l t := by
  have hz : (⟨l.toArray⟩ : ByteArray).size = l.length := by show l.toArray.size = _; simp
  have e : ((⟨l.toArray⟩ : ByteArray)[t]'h).toNat = (l.getD t 0).toNat := by
    show (l.toArray[t]'_).toNat = _
    rw [hz] at h
    simp [List.getD_eq_getElem?_getD, h]
  unfold bsl
  rw [e]
theorem bsl_bd (l : List UInt8) (t : Nat) : 0 ≤ bsl l t ∧ bsl l t ≤ 255 := by
  unfold bsl
  have := (l.getD t 0).toNat_lt
  omega
/-- A box of three cells, and a store into it. -/
def Box (w : World) (B : Nat) (x y z : Value) (W : World) : Prop := Held w [.cell B 0 x, .cell B 1 y, .cell B 2 z, .free B 0, .free B 1, .free B 2] W
theorem Box.put0 {w W : World} {B : Nat} {x y z : Value} (h : Box w B x y z W) (v : Value) (hB : w.heap.size ≤ B) : Box w B v y z (W.setCell ⟨B, 0, none⟩ v) := by
  refine ⟨h.old.setCell hB _, fun f hf => ?_⟩
  simp only [List.mem_cons, List.mem_nil_iff, or_false] at hf
  rcases hf with rfl | rfl | rfl | rfl | rfl | rfl
  · exact World.cell?_setCell_same W ⟨B, 0, none⟩ v (Held.cell h B 0 x (List.Mem.head _))
  · exact (World.cell?_setCell_other W ⟨B, 0, none⟩ ⟨B, 1, none⟩ v (by simp)).trans (Held.cell h B 1 y (List.Mem.tail _ (List.Mem.head _)))
  · exact (World.cell?_setCell_other W ⟨B, 0, none⟩ ⟨B, 2, none⟩ v (by simp)).trans (Held.cell h B 2 z (List.Mem.tail _ (List.Mem.tail _ (List.Mem.head _))))
  · have a := h.all (.free B 0) (List.Mem.tail _ (List.Mem.tail _ (List.Mem.tail _ (List.Mem.head _))))
    exact ⟨by simpa using a.1, by simpa [go_sem] using a.2⟩
  · have a := h.all (.free B 1) (List.Mem.tail _ (List.Mem.tail _ (List.Mem.tail _ (List.Mem.tail _ (List.Mem.head _)))))
    exact ⟨by simpa using a.1, by simpa [go_sem] using a.2⟩
  · have a := h.all (.free B 2) (List.Mem.tail _ (List.Mem.tail _ (List.Mem.tail _ (List.Mem.tail _ (List.Mem.tail _ (List.Mem.head _))))))
    exact ⟨by simpa using a.1, by simpa [go_sem] using a.2⟩
theorem Box.put1 {w W : World} {B : Nat} {x y z : Value} (h : Box w B x y z W) (v : Value) (hB : w.heap.size ≤ B) : Box w B x v z (W.setCell ⟨B, 1, none⟩ v) := by
  refine ⟨h.old.setCell hB _, fun f hf => ?_⟩
  simp only [List.mem_cons, List.mem_nil_iff, or_false] at hf
  rcases hf with rfl | rfl | rfl | rfl | rfl | rfl
  · exact (World.cell?_setCell_other W ⟨B, 1, none⟩ ⟨B, 0, none⟩ v (by simp)).trans (Held.cell h B 0 x (List.Mem.head _))
  · exact World.cell?_setCell_same W ⟨B, 1, none⟩ v (Held.cell h B 1 y (List.Mem.tail _ (List.Mem.head _)))
  · exact (World.cell?_setCell_other W ⟨B, 1, none⟩ ⟨B, 2, none⟩ v (by simp)).trans (Held.cell h B 2 z (List.Mem.tail _ (List.Mem.tail _ (List.Mem.head _))))
  · have a := h.all (.free B 0) (List.Mem.tail _ (List.Mem.tail _ (List.Mem.tail _ (List.Mem.head _))))
    exact ⟨by simpa using a.1, by simpa [go_sem] using a.2⟩
  · have a := h.all (.free B 1) (List.Mem.tail _ (List.Mem.tail _ (List.Mem.tail _ (List.Mem.tail _ (List.Mem.head _)))))
    exact ⟨by simpa using a.1, by simpa [go_sem] using a.2⟩
  · have a := h.all (.free B 2) (List.Mem.tail _ (List.Mem.tail _ (List.Mem.tail _ (List.Mem.tail _ (List.Mem.tail _ (List.Mem.head _))))))
    exact ⟨by simpa using a.1, by simpa [go_sem] using a.2⟩
theorem Box.put2 {w W : World} {B : Nat} {x y z : Value} (h : Box w B x y z W) (v : Value) (hB : w.heap.size ≤ B) : Box w B x y v (W.setCell ⟨B, 2, none⟩ v) := by
  refine ⟨h.old.setCell hB _, fun f hf => ?_⟩
  simp only [List.mem_cons, List.mem_nil_iff, or_false] at hf
  rcases hf with rfl | rfl | rfl | rfl | rfl | rfl
  · exact (World.cell?_setCell_other W ⟨B, 2, none⟩ ⟨B, 0, none⟩ v (by simp)).trans (Held.cell h B 0 x (List.Mem.head _))
  · exact (World.cell?_setCell_other W ⟨B, 2, none⟩ ⟨B, 1, none⟩ v (by simp)).trans (Held.cell h B 1 y (List.Mem.tail _ (List.Mem.head _)))
  · exact World.cell?_setCell_same W ⟨B, 2, none⟩ v (Held.cell h B 2 z (List.Mem.tail _ (List.Mem.tail _ (List.Mem.head _))))
  · have a := h.all (.free B 0) (List.Mem.tail _ (List.Mem.tail _ (List.Mem.tail _ (List.Mem.head _))))
    exact ⟨by simpa using a.1, by simpa [go_sem] using a.2⟩
  · have a := h.all (.free B 1) (List.Mem.tail _ (List.Mem.tail _ (List.Mem.tail _ (List.Mem.tail _ (List.Mem.head _)))))
    exact ⟨by simpa using a.1, by simpa [go_sem] using a.2⟩
  · have a := h.all (.free B 2) (List.Mem.tail _ (List.Mem.tail _ (List.Mem.tail _ (List.Mem.tail _ (List.Mem.tail _ (List.Mem.head _))))))
    exact ⟨by simpa using a.1, by simpa [go_sem] using a.2⟩
theorem Box.drewN {w W : World} {B : Nat} {x y z : Value} (h : Box w B x y z W) (n : Nat) : Box w B x y z (W.drewN n) := Held.drewN h n
theorem Box.drew {w W : World} {B : Nat} {x y z : Value} (h : Box w B x y z W) : Box w B x y z W.drew := Held.drew h
theorem Box.start (w : World) (x y z : Value) (t : TypeId) : Box w w.heap.size x y z (w.alloc (.cells #[x, y, z] t)) := (Held.start w).triple w.heap.size _ _ _ _ rfl
set_option maxHeartbeats 4000000 in
theorem rread_ten (s : ByteArray) (bs : Nat → Int) (n e : Int) (w : World) (hz : s.size = 10) (hi : ∀ (t : Nat) (h : t < s.size), ((s[t]'h).toNat : Int) = bs t)
    (hb : ∀ t, 0 ≤ bs t ∧ bs t ≤ 255)
    (hgood : (∀ j, j < 10 → gd bs j) → n = nN (V S0 bs 10) (V S1 bs 10) (V S2 bs 10) ∧ e = nE (V S0 bs 10) (V S1 bs 10) (V S2 bs 10)) (hbad : ∀ j, j < 10 → ¬ gd bs j → n = 0 ∧ e = 10) :
    Calls Tryd.prog 12 #[.string s] w fun e' w' => e' = .returned (.tuple #[.int .i64 n, .int .i64 e]) ∧ Below w.heap.size w w' := by
  have HI := Lib.hid hi
  have HB := Lib.hid hb
  have HG0 := Lib.hid hgood
  have HX := Lib.hid hbad
  clear hi hb hgood hbad
  go_enter Tryd.func12, Tryd.ntmps12
  go_wp2
  go_loopw [5, 6] (fun kk i W' => ∃ t : Nat, t ≤ 10 ∧ i = .int .i64 t ∧ kk = .int .i64 (KV t) ∧ (∀ j, j < t → gd bs j) ∧
    Box w w.heap.size (.int .i64 (V S0 bs t)) (.int .i64 (V S1 bs t)) (.int .i64 (V S2 bs t)) W') (fun _ i _ => (10 - intOf i).toNat)
  case atStart =>
    exact ⟨0, by omega, rfl, rfl, fun j hj => by omega, Box.start w _ _ _ _⟩
  case round =>
    obtain ⟨t, ht, rfl, rfl, hg, hH⟩ := hrel
    have v0 := V_small S0 bs rfl rfl t ht hg
    have v1 := V_small S1 bs rfl rfl t ht hg
    have v2 := V_small S2 bs rfl rfl t ht hg
    have HG := Lib.hid hg
    clear hg
    have tt : t = 0 ∨ t = 1 ∨ t = 2 ∨ t = 3 ∨ t = 4 ∨ t = 5 ∨ t = 6 ∨ t = 7 ∨ t = 8 ∨ t = 9 ∨ t = 10 := by omega
    clear ht
    rcases tt with rfl | rfl | rfl | rfl | rfl | rfl | rfl | rfl | rfl | rfl | rfl
    · have ix := HI.out 0 (by omega)
      have bb := HB.out 0
      obtain ⟨b, Hb⟩ : ∃ b, Hid (bs 0 = b) := ⟨_, Lib.hid rfl⟩
      obtain ⟨p, HP⟩ : ∃ p, Hid (V S0 bs 0 = p) := ⟨_, Lib.hid rfl⟩
      obtain ⟨q, HQ⟩ : ∃ q, Hid (V S1 bs 0 = q) := ⟨_, Lib.hid rfl⟩
      obtain ⟨r, HS⟩ : ∃ r, Hid (V S2 bs 0 = r) := ⟨_, Lib.hid rfl⟩
      rw [show KV 0 = 0 from rfl]
      rw [Hb.out] at ix bb
      rw [HP.out] at v0 hH
      rw [HQ.out] at v1 hH
      rw [HS.out] at v2 hH
      have c := Held.cell hH w.heap.size 0 (.int .i64 p) (List.Mem.head _)
      have f := Held.frozen hH w.heap.size 0 (List.Mem.tail _ (List.Mem.tail _ (List.Mem.tail _ (List.Mem.head _))))
      have l := cell_lt c
      by_cases hx : 48 ≤ b ∧ b ≤ 57
      · have E : Hid (V S0 bs 1 = 10 * p + b - 48 ∧ V S1 bs 1 = q ∧ V S2 bs 1 = r ∧ KV 1 = 0 ∧ gd bs 0) := Lib.hid ⟨by rw [← HP.out, ← Hb.out]; rfl, by rw [← HQ.out]; rfl, by rw [← HS.out]; rfl, rfl, by unfold gd; rw [if_neg (by decide), Hb.out]; exact hx⟩
        go_wp2
        go_region
        all_goals go_wp2
        refine ⟨⟨1, by omega, rfl, by rw [E.out.2.2.2.1], fun j hj => ?_, by rw [E.out.1, E.out.2.1, E.out.2.2.1]; exact (Box.put0 hH _ (Nat.le_refl _)).drew⟩, by simp [intOf]⟩
        by_cases h : j < 0
        · exact HG.out j h
        · obtain rfl : j = 0 := by omega
          exact E.out.2.2.2.2
      · have Z := Lib.hid (HX.out 0 (by decide) (by unfold gd; rw [if_neg (by decide), Hb.out]; exact hx))
        by_cases t1 : b < 48
        · go_wp2
          go_ret2
          exact ⟨by rw [Z.out.1, Z.out.2]; rfl, Held.old hH⟩
        · have t2 : b > 57 := by omega
          go_wp2
          go_ret2
          exact ⟨by rw [Z.out.1, Z.out.2]; rfl, Held.old hH⟩
    · have ix := HI.out 1 (by omega)
      have bb := HB.out 1
      obtain ⟨b, Hb⟩ : ∃ b, Hid (bs 1 = b) := ⟨_, Lib.hid rfl⟩
      obtain ⟨p, HP⟩ : ∃ p, Hid (V S0 bs 1 = p) := ⟨_, Lib.hid rfl⟩
      obtain ⟨q, HQ⟩ : ∃ q, Hid (V S1 bs 1 = q) := ⟨_, Lib.hid rfl⟩
      obtain ⟨r, HS⟩ : ∃ r, Hid (V S2 bs 1 = r) := ⟨_, Lib.hid rfl⟩
      rw [show KV 1 = 0 from rfl]
      rw [Hb.out] at ix bb
      rw [HP.out] at v0 hH
      rw [HQ.out] at v1 hH
      rw [HS.out] at v2 hH
      have c := Held.cell hH w.heap.size 0 (.int .i64 p) (List.Mem.head _)
      have f := Held.frozen hH w.heap.size 0 (List.Mem.tail _ (List.Mem.tail _ (List.Mem.tail _ (List.Mem.head _))))
      have l := cell_lt c
      by_cases hx : 48 ≤ b ∧ b ≤ 57
      · have E : Hid (V S0 bs 2 = 10 * p + b - 48 ∧ V S1 bs 2 = q ∧ V S2 bs 2 = r ∧ KV 2 = 0 ∧ gd bs 1) := Lib.hid ⟨by rw [← HP.out, ← Hb.out]; rfl, by rw [← HQ.out]; rfl, by rw [← HS.out]; rfl, rfl, by unfold gd; rw [if_neg (by decide), Hb.out]; exact hx⟩
        go_wp2
        go_region
        all_goals go_wp2
        refine ⟨⟨2, by omega, rfl, by rw [E.out.2.2.2.1], fun j hj => ?_, by rw [E.out.1, E.out.2.1, E.out.2.2.1]; exact (Box.put0 hH _ (Nat.le_refl _)).drew⟩, by simp [intOf]⟩
        by_cases h : j < 1
        · exact HG.out j h
        · obtain rfl : j = 1 := by omega
          exact E.out.2.2.2.2
      · have Z := Lib.hid (HX.out 1 (by decide) (by unfold gd; rw [if_neg (by decide), Hb.out]; exact hx))
        by_cases t1 : b < 48
        · go_wp2
          go_ret2
          exact ⟨by rw [Z.out.1, Z.out.2]; rfl, Held.old hH⟩
        · have t2 : b > 57 := by omega
          go_wp2
          go_ret2
          exact ⟨by rw [Z.out.1, Z.out.2]; rfl, Held.old hH⟩
    · have ix := HI.out 2 (by omega)
      have bb := HB.out 2
      obtain ⟨b, Hb⟩ : ∃ b, Hid (bs 2 = b) := ⟨_, Lib.hid rfl⟩
      obtain ⟨p, HP⟩ : ∃ p, Hid (V S0 bs 2 = p) := ⟨_, Lib.hid rfl⟩
      obtain ⟨q, HQ⟩ : ∃ q, Hid (V S1 bs 2 = q) := ⟨_, Lib.hid rfl⟩
      obtain ⟨r, HS⟩ : ∃ r, Hid (V S2 bs 2 = r) := ⟨_, Lib.hid rfl⟩
      rw [show KV 2 = 0 from rfl]
      rw [Hb.out] at ix bb
      rw [HP.out] at v0 hH
      rw [HQ.out] at v1 hH
      rw [HS.out] at v2 hH
      have c := Held.cell hH w.heap.size 0 (.int .i64 p) (List.Mem.head _)
      have f := Held.frozen hH w.heap.size 0 (List.Mem.tail _ (List.Mem.tail _ (List.Mem.tail _ (List.Mem.head _))))
      have l := cell_lt c
      by_cases hx : 48 ≤ b ∧ b ≤ 57
      · have E : Hid (V S0 bs 3 = 10 * p + b - 48 ∧ V S1 bs 3 = q ∧ V S2 bs 3 = r ∧ KV 3 = 0 ∧ gd bs 2) := Lib.hid ⟨by rw [← HP.out, ← Hb.out]; rfl, by rw [← HQ.out]; rfl, by rw [← HS.out]; rfl, rfl, by unfold gd; rw [if_neg (by decide), Hb.out]; exact hx⟩
        go_wp2
        go_region
        all_goals go_wp2
        refine ⟨⟨3, by omega, rfl, by rw [E.out.2.2.2.1], fun j hj => ?_, by rw [E.out.1, E.out.2.1, E.out.2.2.1]; exact (Box.put0 hH _ (Nat.le_refl _)).drew⟩, by simp [intOf]⟩
        by_cases h : j < 2
        · exact HG.out j h
        · obtain rfl : j = 2 := by omega
          exact E.out.2.2.2.2
      · have Z := Lib.hid (HX.out 2 (by decide) (by unfold gd; rw [if_neg (by decide), Hb.out]; exact hx))
        by_cases t1 : b < 48
        · go_wp2
          go_ret2
          exact ⟨by rw [Z.out.1, Z.out.2]; rfl, Held.old hH⟩
        · have t2 : b > 57 := by omega
          go_wp2
          go_ret2
          exact ⟨by rw [Z.out.1, Z.out.2]; rfl, Held.old hH⟩
    · have ix := HI.out 3 (by omega)
      have bb := HB.out 3
      obtain ⟨b, Hb⟩ : ∃ b, Hid (bs 3 = b) := ⟨_, Lib.hid rfl⟩
      obtain ⟨p, HP⟩ : ∃ p, Hid (V S0 bs 3 = p) := ⟨_, Lib.hid rfl⟩
      obtain ⟨q, HQ⟩ : ∃ q, Hid (V S1 bs 3 = q) := ⟨_, Lib.hid rfl⟩
      obtain ⟨r, HS⟩ : ∃ r, Hid (V S2 bs 3 = r) := ⟨_, Lib.hid rfl⟩
      rw [show KV 3 = 0 from rfl]
      rw [Hb.out] at ix bb
      rw [HP.out] at v0 hH
      rw [HQ.out] at v1 hH
      rw [HS.out] at v2 hH
      have c := Held.cell hH w.heap.size 0 (.int .i64 p) (List.Mem.head _)
      have f := Held.frozen hH w.heap.size 0 (List.Mem.tail _ (List.Mem.tail _ (List.Mem.tail _ (List.Mem.head _))))
      have l := cell_lt c
      by_cases hx : 48 ≤ b ∧ b ≤ 57
      · have E : Hid (V S0 bs 4 = 10 * p + b - 48 ∧ V S1 bs 4 = q ∧ V S2 bs 4 = r ∧ KV 4 = 0 ∧ gd bs 3) := Lib.hid ⟨by rw [← HP.out, ← Hb.out]; rfl, by rw [← HQ.out]; rfl, by rw [← HS.out]; rfl, rfl, by unfold gd; rw [if_neg (by decide), Hb.out]; exact hx⟩
        go_wp2
        go_region
        all_goals go_wp2
        refine ⟨⟨4, by omega, rfl, by rw [E.out.2.2.2.1], fun j hj => ?_, by rw [E.out.1, E.out.2.1, E.out.2.2.1]; exact (Box.put0 hH _ (Nat.le_refl _)).drew⟩, by simp [intOf]⟩
        by_cases h : j < 3
        · exact HG.out j h
        · obtain rfl : j = 3 := by omega
          exact E.out.2.2.2.2
      · have Z := Lib.hid (HX.out 3 (by decide) (by unfold gd; rw [if_neg (by decide), Hb.out]; exact hx))
        by_cases t1 : b < 48
        · go_wp2
          go_ret2
          exact ⟨by rw [Z.out.1, Z.out.2]; rfl, Held.old hH⟩
        · have t2 : b > 57 := by omega
          go_wp2
          go_ret2
          exact ⟨by rw [Z.out.1, Z.out.2]; rfl, Held.old hH⟩
    · have ix := HI.out 4 (by omega)
      have bb := HB.out 4
      obtain ⟨b, Hb⟩ : ∃ b, Hid (bs 4 = b) := ⟨_, Lib.hid rfl⟩
      obtain ⟨p, HP⟩ : ∃ p, Hid (V S0 bs 4 = p) := ⟨_, Lib.hid rfl⟩
      obtain ⟨q, HQ⟩ : ∃ q, Hid (V S1 bs 4 = q) := ⟨_, Lib.hid rfl⟩
      obtain ⟨r, HS⟩ : ∃ r, Hid (V S2 bs 4 = r) := ⟨_, Lib.hid rfl⟩
      rw [show KV 4 = 0 from rfl]
      rw [Hb.out] at ix bb
      rw [HP.out] at v0 hH
      rw [HQ.out] at v1 hH
      rw [HS.out] at v2 hH
      by_cases hx : b = 45
      · have E : Hid (V S0 bs 5 = p ∧ V S1 bs 5 = q ∧ V S2 bs 5 = r ∧ KV 5 = 1 ∧ gd bs 4) := Lib.hid ⟨by rw [← HP.out]; rfl, by rw [← HQ.out]; rfl, by rw [← HS.out]; rfl, rfl, by unfold gd; rw [if_pos (by decide), Hb.out]; exact hx⟩
        clear v0 v1 v2 bb
        subst hx
        go_wp2
        refine ⟨⟨5, by omega, rfl, by rw [E.out.2.2.2.1], fun j hj => ?_, by rw [E.out.1, E.out.2.1, E.out.2.2.1]; exact hH⟩, by simp [intOf]⟩
        by_cases h : j < 4
        · exact HG.out j h
        · obtain rfl : j = 4 := by omega
          exact E.out.2.2.2.2
      · have Z := Lib.hid (HX.out 4 (by decide) (by unfold gd; rw [if_pos (by decide), Hb.out]; exact hx))
        have t1 : (b != 45) = true := by simpa using hx
        go_wp2
        go_ret2
        exact ⟨by rw [Z.out.1, Z.out.2]; rfl, Held.old hH⟩
    · have ix := HI.out 5 (by omega)
      have bb := HB.out 5
      obtain ⟨b, Hb⟩ : ∃ b, Hid (bs 5 = b) := ⟨_, Lib.hid rfl⟩
      obtain ⟨p, HP⟩ : ∃ p, Hid (V S0 bs 5 = p) := ⟨_, Lib.hid rfl⟩
      obtain ⟨q, HQ⟩ : ∃ q, Hid (V S1 bs 5 = q) := ⟨_, Lib.hid rfl⟩
      obtain ⟨r, HS⟩ : ∃ r, Hid (V S2 bs 5 = r) := ⟨_, Lib.hid rfl⟩
      rw [show KV 5 = 1 from rfl]
      rw [Hb.out] at ix bb
      rw [HP.out] at v0 hH
      rw [HQ.out] at v1 hH
      rw [HS.out] at v2 hH
      have c := Held.cell hH w.heap.size 1 (.int .i64 q) (List.Mem.tail _ (List.Mem.head _))
      have f := Held.frozen hH w.heap.size 1 (List.Mem.tail _ (List.Mem.tail _ (List.Mem.tail _ (List.Mem.tail _ (List.Mem.head _)))))
      have l := cell_lt c
      by_cases hx : 48 ≤ b ∧ b ≤ 57
      · have E : Hid (V S0 bs 6 = p ∧ V S1 bs 6 = 10 * q + b - 48 ∧ V S2 bs 6 = r ∧ KV 6 = 1 ∧ gd bs 5) := Lib.hid ⟨by rw [← HP.out]; rfl, by rw [← HQ.out, ← Hb.out]; rfl, by rw [← HS.out]; rfl, rfl, by unfold gd; rw [if_neg (by decide), Hb.out]; exact hx⟩
        go_wp2
        go_region
        all_goals go_wp2
        refine ⟨⟨6, by omega, rfl, by rw [E.out.2.2.2.1], fun j hj => ?_, by rw [E.out.1, E.out.2.1, E.out.2.2.1]; exact (Box.put1 hH _ (Nat.le_refl _)).drew⟩, by simp [intOf]⟩
        by_cases h : j < 5
        · exact HG.out j h
        · obtain rfl : j = 5 := by omega
          exact E.out.2.2.2.2
      · have Z := Lib.hid (HX.out 5 (by decide) (by unfold gd; rw [if_neg (by decide), Hb.out]; exact hx))
        by_cases t1 : b < 48
        · go_wp2
          go_ret2
          exact ⟨by rw [Z.out.1, Z.out.2]; rfl, Held.old hH⟩
        · have t2 : b > 57 := by omega
          go_wp2
          go_ret2
          exact ⟨by rw [Z.out.1, Z.out.2]; rfl, Held.old hH⟩
    · have ix := HI.out 6 (by omega)
      have bb := HB.out 6
      obtain ⟨b, Hb⟩ : ∃ b, Hid (bs 6 = b) := ⟨_, Lib.hid rfl⟩
      obtain ⟨p, HP⟩ : ∃ p, Hid (V S0 bs 6 = p) := ⟨_, Lib.hid rfl⟩
      obtain ⟨q, HQ⟩ : ∃ q, Hid (V S1 bs 6 = q) := ⟨_, Lib.hid rfl⟩
      obtain ⟨r, HS⟩ : ∃ r, Hid (V S2 bs 6 = r) := ⟨_, Lib.hid rfl⟩
      rw [show KV 6 = 1 from rfl]
      rw [Hb.out] at ix bb
      rw [HP.out] at v0 hH
      rw [HQ.out] at v1 hH
      rw [HS.out] at v2 hH
      have c := Held.cell hH w.heap.size 1 (.int .i64 q) (List.Mem.tail _ (List.Mem.head _))
      have f := Held.frozen hH w.heap.size 1 (List.Mem.tail _ (List.Mem.tail _ (List.Mem.tail _ (List.Mem.tail _ (List.Mem.head _)))))
      have l := cell_lt c
      by_cases hx : 48 ≤ b ∧ b ≤ 57
      · have E : Hid (V S0 bs 7 = p ∧ V S1 bs 7 = 10 * q + b - 48 ∧ V S2 bs 7 = r ∧ KV 7 = 1 ∧ gd bs 6) := Lib.hid ⟨by rw [← HP.out]; rfl, by rw [← HQ.out, ← Hb.out]; rfl, by rw [← HS.out]; rfl, rfl, by unfold gd; rw [if_neg (by decide), Hb.out]; exact hx⟩
        go_wp2
        go_region
        all_goals go_wp2
        refine ⟨⟨7, by omega, rfl, by rw [E.out.2.2.2.1], fun j hj => ?_, by rw [E.out.1, E.out.2.1, E.out.2.2.1]; exact (Box.put1 hH _ (Nat.le_refl _)).drew⟩, by simp [intOf]⟩
        by_cases h : j < 6
        · exact HG.out j h
        · obtain rfl : j = 6 := by omega
          exact E.out.2.2.2.2
      · have Z := Lib.hid (HX.out 6 (by decide) (by unfold gd; rw [if_neg (by decide), Hb.out]; exact hx))
        by_cases t1 : b < 48
        · go_wp2
          go_ret2
          exact ⟨by rw [Z.out.1, Z.out.2]; rfl, Held.old hH⟩
        · have t2 : b > 57 := by omega
          go_wp2
          go_ret2
          exact ⟨by rw [Z.out.1, Z.out.2]; rfl, Held.old hH⟩
    · have ix := HI.out 7 (by omega)
      have bb := HB.out 7
      obtain ⟨b, Hb⟩ : ∃ b, Hid (bs 7 = b) := ⟨_, Lib.hid rfl⟩
      obtain ⟨p, HP⟩ : ∃ p, Hid (V S0 bs 7 = p) := ⟨_, Lib.hid rfl⟩
      obtain ⟨q, HQ⟩ : ∃ q, Hid (V S1 bs 7 = q) := ⟨_, Lib.hid rfl⟩
      obtain ⟨r, HS⟩ : ∃ r, Hid (V S2 bs 7 = r) := ⟨_, Lib.hid rfl⟩
      rw [show KV 7 = 1 from rfl]
      rw [Hb.out] at ix bb
      rw [HP.out] at v0 hH
      rw [HQ.out] at v1 hH
      rw [HS.out] at v2 hH
      by_cases hx : b = 45
      · have E : Hid (V S0 bs 8 = p ∧ V S1 bs 8 = q ∧ V S2 bs 8 = r ∧ KV 8 = 2 ∧ gd bs 7) := Lib.hid ⟨by rw [← HP.out]; rfl, by rw [← HQ.out]; rfl, by rw [← HS.out]; rfl, rfl, by unfold gd; rw [if_pos (by decide), Hb.out]; exact hx⟩
        clear v0 v1 v2 bb
        subst hx
        go_wp2
        refine ⟨⟨8, by omega, rfl, by rw [E.out.2.2.2.1], fun j hj => ?_, by rw [E.out.1, E.out.2.1, E.out.2.2.1]; exact hH⟩, by simp [intOf]⟩
        by_cases h : j < 7
        · exact HG.out j h
        · obtain rfl : j = 7 := by omega
          exact E.out.2.2.2.2
      · have Z := Lib.hid (HX.out 7 (by decide) (by unfold gd; rw [if_pos (by decide), Hb.out]; exact hx))
        have t1 : (b != 45) = true := by simpa using hx
        go_wp2
        go_ret2
        exact ⟨by rw [Z.out.1, Z.out.2]; rfl, Held.old hH⟩
    · have ix := HI.out 8 (by omega)
      have bb := HB.out 8
      obtain ⟨b, Hb⟩ : ∃ b, Hid (bs 8 = b) := ⟨_, Lib.hid rfl⟩
      obtain ⟨p, HP⟩ : ∃ p, Hid (V S0 bs 8 = p) := ⟨_, Lib.hid rfl⟩
      obtain ⟨q, HQ⟩ : ∃ q, Hid (V S1 bs 8 = q) := ⟨_, Lib.hid rfl⟩
      obtain ⟨r, HS⟩ : ∃ r, Hid (V S2 bs 8 = r) := ⟨_, Lib.hid rfl⟩
      rw [show KV 8 = 2 from rfl]
      rw [Hb.out] at ix bb
      rw [HP.out] at v0 hH
      rw [HQ.out] at v1 hH
      rw [HS.out] at v2 hH
      have c := Held.cell hH w.heap.size 2 (.int .i64 r) (List.Mem.tail _ (List.Mem.tail _ (List.Mem.head _)))
      have f := Held.frozen hH w.heap.size 2 (List.Mem.tail _ (List.Mem.tail _ (List.Mem.tail _ (List.Mem.tail _ (List.Mem.tail _ (List.Mem.head _))))))
      have l := cell_lt c
      by_cases hx : 48 ≤ b ∧ b ≤ 57
      · have E : Hid (V S0 bs 9 = p ∧ V S1 bs 9 = q ∧ V S2 bs 9 = 10 * r + b - 48 ∧ KV 9 = 2 ∧ gd bs 8) := Lib.hid ⟨by rw [← HP.out]; rfl, by rw [← HQ.out]; rfl, by rw [← HS.out, ← Hb.out]; rfl, rfl, by unfold gd; rw [if_neg (by decide), Hb.out]; exact hx⟩
        go_wp2
        go_region
        all_goals go_wp2
        refine ⟨⟨9, by omega, rfl, by rw [E.out.2.2.2.1], fun j hj => ?_, by rw [E.out.1, E.out.2.1, E.out.2.2.1]; exact (Box.put2 hH _ (Nat.le_refl _)).drew⟩, by simp [intOf]⟩
        by_cases h : j < 8
        · exact HG.out j h
        · obtain rfl : j = 8 := by omega
          exact E.out.2.2.2.2
      · have Z := Lib.hid (HX.out 8 (by decide) (by unfold gd; rw [if_neg (by decide), Hb.out]; exact hx))
        by_cases t1 : b < 48
        · go_wp2
          go_ret2
          exact ⟨by rw [Z.out.1, Z.out.2]; rfl, Held.old hH⟩
        · have t2 : b > 57 := by omega
          go_wp2
          go_ret2
          exact ⟨by rw [Z.out.1, Z.out.2]; rfl, Held.old hH⟩
    · have ix := HI.out 9 (by omega)
      have bb := HB.out 9
      obtain ⟨b, Hb⟩ : ∃ b, Hid (bs 9 = b) := ⟨_, Lib.hid rfl⟩
      obtain ⟨p, HP⟩ : ∃ p, Hid (V S0 bs 9 = p) := ⟨_, Lib.hid rfl⟩
      obtain ⟨q, HQ⟩ : ∃ q, Hid (V S1 bs 9 = q) := ⟨_, Lib.hid rfl⟩
      obtain ⟨r, HS⟩ : ∃ r, Hid (V S2 bs 9 = r) := ⟨_, Lib.hid rfl⟩
      rw [show KV 9 = 2 from rfl]
      rw [Hb.out] at ix bb
      rw [HP.out] at v0 hH
      rw [HQ.out] at v1 hH
      rw [HS.out] at v2 hH
      have c := Held.cell hH w.heap.size 2 (.int .i64 r) (List.Mem.tail _ (List.Mem.tail _ (List.Mem.head _)))
      have f := Held.frozen hH w.heap.size 2 (List.Mem.tail _ (List.Mem.tail _ (List.Mem.tail _ (List.Mem.tail _ (List.Mem.tail _ (List.Mem.head _))))))
      have l := cell_lt c
      by_cases hx : 48 ≤ b ∧ b ≤ 57
      · have E : Hid (V S0 bs 10 = p ∧ V S1 bs 10 = q ∧ V S2 bs 10 = 10 * r + b - 48 ∧ KV 10 = 2 ∧ gd bs 9) := Lib.hid ⟨by rw [← HP.out]; rfl, by rw [← HQ.out]; rfl, by rw [← HS.out, ← Hb.out]; rfl, rfl, by unfold gd; rw [if_neg (by decide), Hb.out]; exact hx⟩
        go_wp2
        go_region
        all_goals go_wp2
        refine ⟨⟨10, by omega, rfl, by rw [E.out.2.2.2.1], fun j hj => ?_, by rw [E.out.1, E.out.2.1, E.out.2.2.1]; exact (Box.put2 hH _ (Nat.le_refl _)).drew⟩, by simp [intOf]⟩
        by_cases h : j < 9
        · exact HG.out j h
        · obtain rfl : j = 9 := by omega
          exact E.out.2.2.2.2
      · have Z := Lib.hid (HX.out 9 (by decide) (by unfold gd; rw [if_neg (by decide), Hb.out]; exact hx))
        by_cases t1 : b < 48
        · go_wp2
          go_ret2
          exact ⟨by rw [Z.out.1, Z.out.2]; rfl, Held.old hH⟩
        · have t2 : b > 57 := by omega
          go_wp2
          go_ret2
          exact ⟨by rw [Z.out.1, Z.out.2]; rfl, Held.old hH⟩
    · obtain ⟨p, HP⟩ : ∃ p, Hid (V S0 bs 10 = p) := ⟨_, Lib.hid rfl⟩
      obtain ⟨q, HQ⟩ : ∃ q, Hid (V S1 bs 10 = q) := ⟨_, Lib.hid rfl⟩
      obtain ⟨r, HS⟩ : ∃ r, Hid (V S2 bs 10 = r) := ⟨_, Lib.hid rfl⟩
      have Z0 := HG0.out HG.out
      rw [HP.out] at Z0 hH
      rw [HQ.out] at Z0 hH
      rw [HS.out] at Z0 hH
      have Z := Lib.hid Z0
      clear Z0 v0 v1 v2
      have c0 := Held.cell hH w.heap.size 0 (.int .i64 p) (List.Mem.head _)
      have c1 := Held.cell hH w.heap.size 1 (.int .i64 q) (List.Mem.tail _ (List.Mem.head _))
      have c2 := Held.cell hH w.heap.size 2 (.int .i64 r) (List.Mem.tail _ (List.Mem.tail _ (List.Mem.head _)))
      have l := cell_lt c0
      go_wp2_with fail
      (with_reducible refine (rnumber_is p q r n e _ ⟨Z.out.1.symm, Z.out.2.symm⟩).mono ?_)
      rintro e1 w1 ⟨rfl, hb1⟩
      by_cases hm : may p q r
      · have z := n_yes hm
        rw [← Z.out.2] at z
        obtain ⟨-, rfl⟩ := z
        go_wp2
        go_ret2
        exact ⟨rfl, (Held.old hH).trans (hb1.mono (Held.size hH))⟩
      · have z := n_no hm
        rw [← Z.out.1, ← Z.out.2] at z
        obtain ⟨rfl, rfl⟩ := z
        go_wp2
        go_ret2
        exact ⟨rfl, (Held.old hH).trans (hb1.mono (Held.size hH))⟩

theorem rread_any (l : List UInt8) (n e : Int) (w : World) (h : ReadIs l n e) :
    Calls Tryd.prog 12 #[.string ⟨l.toArray⟩] w fun e' w' => e' = .returned (.tuple #[.int .i64 n, .int .i64 e]) ∧ Below w.heap.size w w' := by
  by_cases hl : l.length = 10
  · obtain ⟨x0, x1, x2, x3, x4, x5, x6, x7, x8, x9, rfl⟩ := list10 l hl
    exact rread_ten _ (bsl [x0, x1, x2, x3, x4, x5, x6, x7, x8, x9]) n e w rfl (index_at _) (bsl_bd _) (read_good _ _ _ _ _ _ _ _ _ _ n e h) (fun j hj hg => read_bad _ n e h j hj hg)
  · obtain ⟨rfl, rfl⟩ := read_len l n e h hl
    exact rread_len l w hl
end Go.Proofs.YtgdhpganognmlaaDoor
