/- Package iso: Read, by a range over the text. -/
import Derived.Test.YtgdhpganognmlaaDoorIsRead
import Derived.Test.YtgdhpganognmlaaDoorIsTab
namespace Go.Proofs.YtgdhpganognmlaaDoor
open Go.RowKit
set_option linter.unusedVariables false
set_option linter.unusedSimpArgs false

/-- The rune at a place of which all bytes ahead are of one: the byte, or none of those below 128. -/
theorem rune_of (s : ByteArray) (t : Nat) (b : Int) (h : t < s.size) (hb : ((s[t]'h).toNat : Int) = b) : ∃ c wd : Nat, Utf8.decode s t = (c, wd) ∧ (c : Int) ≤ 2147483647 ∧ ((b < 128 ∧ (c : Int) = b ∧ wd = 1) ∨ (128 ≤ b ∧ 128 ≤ (c : Int))) := by
  refine ⟨(Utf8.decode s t).1, (Utf8.decode s t).2, rfl, by have := decode_le s t; omega, ?_⟩
  by_cases hh : (s[t]'h).toNat < 128
  · left
    rw [decode_ascii s t h hh]
    exact ⟨by omega, hb, rfl⟩
  · right
    have := decode_high s t h (by omega)
    exact ⟨by omega, by omega⟩
theorem setCell_iter (W : World) (s : ByteArray) (t B i : Nat) (v : Value) (h : B < W.heap.size) : (W.iter s t).setCell ⟨B, i, none⟩ v = (W.setCell ⟨B, i, none⟩ v).iter s t := by
  unfold World.iter
  exact World.setCell_alloc_past _ _ _ _ h
theorem iterPos_at (W : World) (s : ByteArray) (t B : Nat) (h : W.heap.size = B) : (W.iter s t).iterPos B = t := by
  subst h; exact World.iterPos_iter W s t

/-- May that rune stand at that place? -/
def fitB (t c : Int) : Bool := if t = 4 ∨ t = 7 then decide (c = 45) else decide (48 ≤ c ∧ c ≤ 57)
theorem fits_any (t c : Int) (b : Bool) (w : World) (ht : 0 ≤ t ∧ t ≤ 9) (h : fitB t c = b) : Calls Tryd.prog 29 #[.int .i64 t, .int .i32 c] w fun e w' => e = .returned (.bool b) ∧ w = w' := by
  subst h
  have q45 : wrap32 (((({ data := #[45] } : ByteArray)[0]'(by decide)).toNat : Nat) : Int) = 45 := by show wrap32 45 = 45; unfold wrap32; decide
  unfold fitB
  by_cases h4 : t = 4
  · subst h4
    by_cases hc : c = 45
    · subst hc
      go_enter Tryd.func29, Tryd.ntmps29
      go_wp2
      go_ret
      exact ⟨rfl, rfl⟩
    · go_enter Tryd.func29, Tryd.ntmps29
      go_wp2
      go_ret
      exact ⟨by simp [hc], rfl⟩
  by_cases h7 : t = 7
  · subst h7
    by_cases hc : c = 45
    · subst hc
      go_enter Tryd.func29, Tryd.ntmps29
      go_wp2
      go_ret
      exact ⟨rfl, rfl⟩
    · go_enter Tryd.func29, Tryd.ntmps29
      go_wp2
      go_ret
      exact ⟨by simp [hc], rfl⟩
  have e4 : (t == 4) = false := by simpa using h4
  have e7 : (t == 7) = false := by simpa using h7
  rw [if_neg (by omega)]
  by_cases h1 : 48 ≤ c
  · by_cases h2 : c ≤ 57
    · go_enter Tryd.func29, Tryd.ntmps29
      go_wp2
      go_ret
      exact ⟨by simp [h1, h2], rfl⟩
    · go_enter Tryd.func29, Tryd.ntmps29
      go_wp2
      go_ret
      exact ⟨by simp [h1, h2], rfl⟩
  · go_enter Tryd.func29, Tryd.ntmps29
    go_wp2
    go_ret
    exact ⟨by simp [h1]; try omega, rfl⟩
theorem longer_any (n c : Int) (w : World) (hn : 0 ≤ n ∧ n ≤ 9999999999) (hc : 48 ≤ c ∧ c ≤ 57) : Calls Tryd.prog 30 #[.int .i64 n, .int .i32 c] w fun e w' => e = .returned (.int .i64 (10 * n + (c - 48))) ∧ w = w' := by
  go_enter Tryd.func30, Tryd.ntmps30
  go_wp2
  go_ret
  exact ⟨rfl, rfl⟩

theorem parts_len (l : List UInt8) (w : World) (h : l.length ≠ 10) : Calls Tryd.prog 20 #[.string ⟨l.toArray⟩] w fun e' w' => e' = .returned (.tuple #[.agg #[.int .i64 0, .int .i64 0, .int .i64 0], .bool false]) ∧ Below w.heap.size w w' := by
  have h2 : ((l.length : Int) != 10) = true := by simp; omega
  go_enter Tryd.func20, Tryd.ntmps20
  have c0 : (w.alloc (.cells #[.int .i64 0, .int .i64 0, .int .i64 0] 41)).cell? ⟨w.heap.size, 0, none⟩ = some (.int .i64 0) := by simp [World.cell?_alloc_new]
  go_wp2
  exact bodyPost_ret (v := .tuple #[.agg #[.int .i64 0, .int .i64 0, .int .i64 0], .bool false]) (by simp [results, Tryd.results20, go_sem, c0]) rfl ⟨rfl, ((Held.start w).triple w.heap.size _ _ _ _ rfl).old⟩
set_option maxHeartbeats 4000000 in
theorem parts_ten (s : ByteArray) (bs : Nat → Int) (P : Int → Int → Int → Bool → Prop) (w : World) (hz : s.size = 10) (hi : ∀ (t : Nat) (h : t < s.size), ((s[t]'h).toNat : Int) = bs t)
    (hb : ∀ t, 0 ≤ bs t ∧ bs t ≤ 255)
    (hgood : (∀ j, j < 10 → gd bs j) → P (V S0 bs 10) (V S1 bs 10) (V S2 bs 10) true) (hbad : ∀ j, j < 10 → ¬ gd bs j → P 0 0 0 false) :
    Calls Tryd.prog 20 #[.string s] w fun e' w' => ∃ x y z b, P x y z b ∧ e' = .returned (.tuple #[.agg #[.int .i64 x, .int .i64 y, .int .i64 z], .bool b]) ∧ Below w.heap.size w w' := by
  have HI := Lib.hid hi
  have HB := Lib.hid hb
  have HG0 := Lib.hid hgood
  have HX := Lib.hid hbad
  clear hi hb hgood hbad
  go_enter Tryd.func20, Tryd.ntmps20
  go_wp2
  go_loopw [] (fun W' => ∃ (t : Nat) (Wt : World), t ≤ 10 ∧ W' = Wt.iter s t ∧ Wt.heap.size = w.heap.size + 1 ∧ (∀ j, j < t → gd bs j) ∧
    Box w w.heap.size (.int .i64 (V S0 bs t)) (.int .i64 (V S1 bs t)) (.int .i64 (V S2 bs t)) Wt) (fun w' => s.size - w'.iterPos (w.heap.size + 1))
  case atStart =>
    refine ⟨0, w.alloc (.cells #[.int .i64 0, .int .i64 0, .int .i64 0] 41), by omega, ?_, by simp, fun j hj => by omega, Box.start w _ _ _ _⟩
    rfl
  case round =>
    obtain ⟨t, Wt, ht, rfl, hWt, hg, hH⟩ := hrel
    have v0 := V_small S0 bs rfl rfl t ht hg
    have v1 := V_small S1 bs rfl rfl t ht hg
    have v2 := V_small S2 bs rfl rfl t ht hg
    have HG := Lib.hid hg
    clear hg
    have tt : t = 0 ∨ t = 1 ∨ t = 2 ∨ t = 3 ∨ t = 4 ∨ t = 5 ∨ t = 6 ∨ t = 7 ∨ t = 8 ∨ t = 9 ∨ t = 10 := by omega
    clear ht
    rcases tt with rfl | rfl | rfl | rfl | rfl | rfl | rfl | rfl | rfl | rfl | rfl
    · obtain ⟨b, Hb⟩ : ∃ b, Hid (bs 0 = b) := ⟨_, Lib.hid rfl⟩
      obtain ⟨c, wd, hdec, hc, hcb⟩ := rune_of s 0 b (by omega) ((HI.out 0 (by omega)).trans Hb.out)
      obtain ⟨p, HP⟩ : ∃ p, Hid (V S0 bs 0 = p) := ⟨_, Lib.hid rfl⟩
      obtain ⟨q, HQ⟩ : ∃ q, Hid (V S1 bs 0 = q) := ⟨_, Lib.hid rfl⟩
      obtain ⟨r, HS⟩ : ∃ r, Hid (V S2 bs 0 = r) := ⟨_, Lib.hid rfl⟩
      have hnx : ∀ ty, (Instr.next (.pointer (some ⟨w.heap.size + 1, 0, none⟩)) true ty).run Tryd.prog (Wt.iter s 0) = .ok (.tuple #[.bool true, .int .i64 0, .int .i32 c]) (Wt.iter s wd) := fun ty => by
        have := run_next_any (P := Tryd.prog) Wt s 0 ty (by omega)
        rw [hWt, hdec] at this
        simpa using this
      rw [HP.out] at v0 hH
      rw [HQ.out] at v1 hH
      rw [HS.out] at v2 hH
      clear hdec
      have c0 : (Wt.iter s wd).cell? ⟨w.heap.size, 0, none⟩ = some (.int .i64 p) := new_cell (Held.cell hH w.heap.size 0 (.int .i64 p) (List.Mem.head _)) (by omega)
      have f0 : (Wt.iter s wd).frozen? ⟨w.heap.size, 0, none⟩ = false := frozen_below ((Below.refl _ _).alloc (Nat.le_refl _) _) (by omega) (Held.frozen hH w.heap.size 0 (List.Mem.tail _ (List.Mem.tail _ (List.Mem.tail _ (List.Mem.head _)))))
      have c1 : (Wt.iter s wd).cell? ⟨w.heap.size, 1, none⟩ = some (.int .i64 q) := new_cell (Held.cell hH w.heap.size 1 (.int .i64 q) (List.Mem.tail _ (List.Mem.head _))) (by omega)
      have f1 : (Wt.iter s wd).frozen? ⟨w.heap.size, 1, none⟩ = false := frozen_below ((Below.refl _ _).alloc (Nat.le_refl _) _) (by omega) (Held.frozen hH w.heap.size 1 (List.Mem.tail _ (List.Mem.tail _ (List.Mem.tail _ (List.Mem.tail _ (List.Mem.head _))))))
      have c2 : (Wt.iter s wd).cell? ⟨w.heap.size, 2, none⟩ = some (.int .i64 r) := new_cell (Held.cell hH w.heap.size 2 (.int .i64 r) (List.Mem.tail _ (List.Mem.tail _ (List.Mem.head _)))) (by omega)
      have f2 : (Wt.iter s wd).frozen? ⟨w.heap.size, 2, none⟩ = false := frozen_below ((Below.refl _ _).alloc (Nat.le_refl _) _) (by omega) (Held.frozen hH w.heap.size 2 (List.Mem.tail _ (List.Mem.tail _ (List.Mem.tail _ (List.Mem.tail _ (List.Mem.tail _ (List.Mem.head _)))))))
      have l0 := cell_lt c0
      by_cases hx : 48 ≤ (c : Int) ∧ (c : Int) ≤ 57
      · have hw : wd = 1 := by omega
        subst hw
        have hce : Hid ((c : Int) = b) := Lib.hid (by omega)
        clear hcb
        have E : Hid (V S0 bs 1 = 10 * p + (c - 48) ∧ V S1 bs 1 = q ∧ V S2 bs 1 = r ∧ gd bs 0) := Lib.hid ⟨by have h1 := HP.out; have h2 := Hb.out; have h4 := hce.out; have h3 : V S0 bs 1 = 10 * V S0 bs 0 + bs 0 - 48 := rfl; omega, by rw [← HQ.out]; rfl, by rw [← HS.out]; rfl, by have h4 := hce.out; unfold gd; rw [if_neg (by decide), Hb.out]; omega⟩
        have F1 := Lib.hid (fun v => fits_any 0 c true v (by omega) (by unfold fitB; rw [if_neg (by decide)]; simp; omega))
        have F2 := Lib.hid (fun v => longer_any p c v v0 hx)
        clear v0 v1 v2
        go_wp2_with (first | (go_at_call 29; (with_reducible refine (F1.out _).mono ?_); rintro e w' ⟨rfl, rfl⟩) | (go_at_call 30; (with_reducible refine (F2.out _).mono ?_); rintro e w' ⟨rfl, rfl⟩))
        rw [setCell_iter _ _ _ _ _ _ (by omega)]
        refine ⟨⟨1, _, by omega, rfl, by simpa using hWt, fun j hj => ?_, by rw [E.out.1, E.out.2.1, E.out.2.2.1]; exact (Box.put0 hH _ (Nat.le_refl _))⟩, ?_⟩
        · by_cases h : j < 0
          · exact HG.out j h
          · obtain rfl : j = 0 := by omega
            exact E.out.2.2.2
        · rw [iterPos_at _ _ _ _ (by simpa using hWt), iterPos_at _ _ _ _ hWt]; omega
      · have Z := Lib.hid (HX.out 0 (by decide) (by unfold gd; rw [if_neg (by decide), Hb.out]; omega))
        have F1 := Lib.hid (fun v => fits_any 0 c false v (by omega) (by unfold fitB; rw [if_neg (by decide)]; simp; omega))
        have HW : Below w.heap.size w (Wt.iter s wd) := (Held.old hH).alloc (Held.size hH) _
        clear v0 v1 v2
        go_wp2_with (go_at_call 29; (with_reducible refine (F1.out _).mono ?_); rintro e w' ⟨rfl, rfl⟩)
        exact bodyPost_ret (v := .tuple #[.agg #[.int .i64 0, .int .i64 0, .int .i64 0], .bool false]) (by simp [results, Tryd.results20, go_sem, c0, c1, c2]) rfl ⟨0, 0, 0, false, Z.out, rfl, ((HW.setCell (Nat.le_refl _) _).setCell (Nat.le_refl _) _).setCell (Nat.le_refl _) _⟩
    · obtain ⟨b, Hb⟩ : ∃ b, Hid (bs 1 = b) := ⟨_, Lib.hid rfl⟩
      obtain ⟨c, wd, hdec, hc, hcb⟩ := rune_of s 1 b (by omega) ((HI.out 1 (by omega)).trans Hb.out)
      obtain ⟨p, HP⟩ : ∃ p, Hid (V S0 bs 1 = p) := ⟨_, Lib.hid rfl⟩
      obtain ⟨q, HQ⟩ : ∃ q, Hid (V S1 bs 1 = q) := ⟨_, Lib.hid rfl⟩
      obtain ⟨r, HS⟩ : ∃ r, Hid (V S2 bs 1 = r) := ⟨_, Lib.hid rfl⟩
      have hnx : ∀ ty, (Instr.next (.pointer (some ⟨w.heap.size + 1, 0, none⟩)) true ty).run Tryd.prog (Wt.iter s 1) = .ok (.tuple #[.bool true, .int .i64 1, .int .i32 c]) (Wt.iter s (1 + wd)) := fun ty => by
        have := run_next_any (P := Tryd.prog) Wt s 1 ty (by omega)
        rw [hWt, hdec] at this
        simpa using this
      rw [HP.out] at v0 hH
      rw [HQ.out] at v1 hH
      rw [HS.out] at v2 hH
      clear hdec
      have c0 : (Wt.iter s (1 + wd)).cell? ⟨w.heap.size, 0, none⟩ = some (.int .i64 p) := new_cell (Held.cell hH w.heap.size 0 (.int .i64 p) (List.Mem.head _)) (by omega)
      have f0 : (Wt.iter s (1 + wd)).frozen? ⟨w.heap.size, 0, none⟩ = false := frozen_below ((Below.refl _ _).alloc (Nat.le_refl _) _) (by omega) (Held.frozen hH w.heap.size 0 (List.Mem.tail _ (List.Mem.tail _ (List.Mem.tail _ (List.Mem.head _)))))
      have c1 : (Wt.iter s (1 + wd)).cell? ⟨w.heap.size, 1, none⟩ = some (.int .i64 q) := new_cell (Held.cell hH w.heap.size 1 (.int .i64 q) (List.Mem.tail _ (List.Mem.head _))) (by omega)
      have f1 : (Wt.iter s (1 + wd)).frozen? ⟨w.heap.size, 1, none⟩ = false := frozen_below ((Below.refl _ _).alloc (Nat.le_refl _) _) (by omega) (Held.frozen hH w.heap.size 1 (List.Mem.tail _ (List.Mem.tail _ (List.Mem.tail _ (List.Mem.tail _ (List.Mem.head _))))))
      have c2 : (Wt.iter s (1 + wd)).cell? ⟨w.heap.size, 2, none⟩ = some (.int .i64 r) := new_cell (Held.cell hH w.heap.size 2 (.int .i64 r) (List.Mem.tail _ (List.Mem.tail _ (List.Mem.head _)))) (by omega)
      have f2 : (Wt.iter s (1 + wd)).frozen? ⟨w.heap.size, 2, none⟩ = false := frozen_below ((Below.refl _ _).alloc (Nat.le_refl _) _) (by omega) (Held.frozen hH w.heap.size 2 (List.Mem.tail _ (List.Mem.tail _ (List.Mem.tail _ (List.Mem.tail _ (List.Mem.tail _ (List.Mem.head _)))))))
      have l0 := cell_lt c0
      by_cases hx : 48 ≤ (c : Int) ∧ (c : Int) ≤ 57
      · have hw : wd = 1 := by omega
        subst hw
        have hce : Hid ((c : Int) = b) := Lib.hid (by omega)
        clear hcb
        have E : Hid (V S0 bs 2 = 10 * p + (c - 48) ∧ V S1 bs 2 = q ∧ V S2 bs 2 = r ∧ gd bs 1) := Lib.hid ⟨by have h1 := HP.out; have h2 := Hb.out; have h4 := hce.out; have h3 : V S0 bs 2 = 10 * V S0 bs 1 + bs 1 - 48 := rfl; omega, by rw [← HQ.out]; rfl, by rw [← HS.out]; rfl, by have h4 := hce.out; unfold gd; rw [if_neg (by decide), Hb.out]; omega⟩
        have F1 := Lib.hid (fun v => fits_any 1 c true v (by omega) (by unfold fitB; rw [if_neg (by decide)]; simp; omega))
        have F2 := Lib.hid (fun v => longer_any p c v v0 hx)
        clear v0 v1 v2
        go_wp2_with (first | (go_at_call 29; (with_reducible refine (F1.out _).mono ?_); rintro e w' ⟨rfl, rfl⟩) | (go_at_call 30; (with_reducible refine (F2.out _).mono ?_); rintro e w' ⟨rfl, rfl⟩))
        rw [setCell_iter _ _ _ _ _ _ (by omega)]
        refine ⟨⟨2, _, by omega, rfl, by simpa using hWt, fun j hj => ?_, by rw [E.out.1, E.out.2.1, E.out.2.2.1]; exact (Box.put0 hH _ (Nat.le_refl _))⟩, ?_⟩
        · by_cases h : j < 1
          · exact HG.out j h
          · obtain rfl : j = 1 := by omega
            exact E.out.2.2.2
        · rw [iterPos_at _ _ _ _ (by simpa using hWt), iterPos_at _ _ _ _ hWt]; omega
      · have Z := Lib.hid (HX.out 1 (by decide) (by unfold gd; rw [if_neg (by decide), Hb.out]; omega))
        have F1 := Lib.hid (fun v => fits_any 1 c false v (by omega) (by unfold fitB; rw [if_neg (by decide)]; simp; omega))
        have HW : Below w.heap.size w (Wt.iter s (1 + wd)) := (Held.old hH).alloc (Held.size hH) _
        clear v0 v1 v2
        go_wp2_with (go_at_call 29; (with_reducible refine (F1.out _).mono ?_); rintro e w' ⟨rfl, rfl⟩)
        exact bodyPost_ret (v := .tuple #[.agg #[.int .i64 0, .int .i64 0, .int .i64 0], .bool false]) (by simp [results, Tryd.results20, go_sem, c0, c1, c2]) rfl ⟨0, 0, 0, false, Z.out, rfl, ((HW.setCell (Nat.le_refl _) _).setCell (Nat.le_refl _) _).setCell (Nat.le_refl _) _⟩
    · obtain ⟨b, Hb⟩ : ∃ b, Hid (bs 2 = b) := ⟨_, Lib.hid rfl⟩
      obtain ⟨c, wd, hdec, hc, hcb⟩ := rune_of s 2 b (by omega) ((HI.out 2 (by omega)).trans Hb.out)
      obtain ⟨p, HP⟩ : ∃ p, Hid (V S0 bs 2 = p) := ⟨_, Lib.hid rfl⟩
      obtain ⟨q, HQ⟩ : ∃ q, Hid (V S1 bs 2 = q) := ⟨_, Lib.hid rfl⟩
      obtain ⟨r, HS⟩ : ∃ r, Hid (V S2 bs 2 = r) := ⟨_, Lib.hid rfl⟩
      have hnx : ∀ ty, (Instr.next (.pointer (some ⟨w.heap.size + 1, 0, none⟩)) true ty).run Tryd.prog (Wt.iter s 2) = .ok (.tuple #[.bool true, .int .i64 2, .int .i32 c]) (Wt.iter s (2 + wd)) := fun ty => by
        have := run_next_any (P := Tryd.prog) Wt s 2 ty (by omega)
        rw [hWt, hdec] at this
        simpa using this
      rw [HP.out] at v0 hH
      rw [HQ.out] at v1 hH
      rw [HS.out] at v2 hH
      clear hdec
      have c0 : (Wt.iter s (2 + wd)).cell? ⟨w.heap.size, 0, none⟩ = some (.int .i64 p) := new_cell (Held.cell hH w.heap.size 0 (.int .i64 p) (List.Mem.head _)) (by omega)
      have f0 : (Wt.iter s (2 + wd)).frozen? ⟨w.heap.size, 0, none⟩ = false := frozen_below ((Below.refl _ _).alloc (Nat.le_refl _) _) (by omega) (Held.frozen hH w.heap.size 0 (List.Mem.tail _ (List.Mem.tail _ (List.Mem.tail _ (List.Mem.head _)))))
      have c1 : (Wt.iter s (2 + wd)).cell? ⟨w.heap.size, 1, none⟩ = some (.int .i64 q) := new_cell (Held.cell hH w.heap.size 1 (.int .i64 q) (List.Mem.tail _ (List.Mem.head _))) (by omega)
      have f1 : (Wt.iter s (2 + wd)).frozen? ⟨w.heap.size, 1, none⟩ = false := frozen_below ((Below.refl _ _).alloc (Nat.le_refl _) _) (by omega) (Held.frozen hH w.heap.size 1 (List.Mem.tail _ (List.Mem.tail _ (List.Mem.tail _ (List.Mem.tail _ (List.Mem.head _))))))
      have c2 : (Wt.iter s (2 + wd)).cell? ⟨w.heap.size, 2, none⟩ = some (.int .i64 r) := new_cell (Held.cell hH w.heap.size 2 (.int .i64 r) (List.Mem.tail _ (List.Mem.tail _ (List.Mem.head _)))) (by omega)
      have f2 : (Wt.iter s (2 + wd)).frozen? ⟨w.heap.size, 2, none⟩ = false := frozen_below ((Below.refl _ _).alloc (Nat.le_refl _) _) (by omega) (Held.frozen hH w.heap.size 2 (List.Mem.tail _ (List.Mem.tail _ (List.Mem.tail _ (List.Mem.tail _ (List.Mem.tail _ (List.Mem.head _)))))))
      have l0 := cell_lt c0
      by_cases hx : 48 ≤ (c : Int) ∧ (c : Int) ≤ 57
      · have hw : wd = 1 := by omega
        subst hw
        have hce : Hid ((c : Int) = b) := Lib.hid (by omega)
        clear hcb
        have E : Hid (V S0 bs 3 = 10 * p + (c - 48) ∧ V S1 bs 3 = q ∧ V S2 bs 3 = r ∧ gd bs 2) := Lib.hid ⟨by have h1 := HP.out; have h2 := Hb.out; have h4 := hce.out; have h3 : V S0 bs 3 = 10 * V S0 bs 2 + bs 2 - 48 := rfl; omega, by rw [← HQ.out]; rfl, by rw [← HS.out]; rfl, by have h4 := hce.out; unfold gd; rw [if_neg (by decide), Hb.out]; omega⟩
        have F1 := Lib.hid (fun v => fits_any 2 c true v (by omega) (by unfold fitB; rw [if_neg (by decide)]; simp; omega))
        have F2 := Lib.hid (fun v => longer_any p c v v0 hx)
        clear v0 v1 v2
        go_wp2_with (first | (go_at_call 29; (with_reducible refine (F1.out _).mono ?_); rintro e w' ⟨rfl, rfl⟩) | (go_at_call 30; (with_reducible refine (F2.out _).mono ?_); rintro e w' ⟨rfl, rfl⟩))
        rw [setCell_iter _ _ _ _ _ _ (by omega)]
        refine ⟨⟨3, _, by omega, rfl, by simpa using hWt, fun j hj => ?_, by rw [E.out.1, E.out.2.1, E.out.2.2.1]; exact (Box.put0 hH _ (Nat.le_refl _))⟩, ?_⟩
        · by_cases h : j < 2
          · exact HG.out j h
          · obtain rfl : j = 2 := by omega
            exact E.out.2.2.2
        · rw [iterPos_at _ _ _ _ (by simpa using hWt), iterPos_at _ _ _ _ hWt]; omega
      · have Z := Lib.hid (HX.out 2 (by decide) (by unfold gd; rw [if_neg (by decide), Hb.out]; omega))
        have F1 := Lib.hid (fun v => fits_any 2 c false v (by omega) (by unfold fitB; rw [if_neg (by decide)]; simp; omega))
        have HW : Below w.heap.size w (Wt.iter s (2 + wd)) := (Held.old hH).alloc (Held.size hH) _
        clear v0 v1 v2
        go_wp2_with (go_at_call 29; (with_reducible refine (F1.out _).mono ?_); rintro e w' ⟨rfl, rfl⟩)
        exact bodyPost_ret (v := .tuple #[.agg #[.int .i64 0, .int .i64 0, .int .i64 0], .bool false]) (by simp [results, Tryd.results20, go_sem, c0, c1, c2]) rfl ⟨0, 0, 0, false, Z.out, rfl, ((HW.setCell (Nat.le_refl _) _).setCell (Nat.le_refl _) _).setCell (Nat.le_refl _) _⟩
    · obtain ⟨b, Hb⟩ : ∃ b, Hid (bs 3 = b) := ⟨_, Lib.hid rfl⟩
      obtain ⟨c, wd, hdec, hc, hcb⟩ := rune_of s 3 b (by omega) ((HI.out 3 (by omega)).trans Hb.out)
      obtain ⟨p, HP⟩ : ∃ p, Hid (V S0 bs 3 = p) := ⟨_, Lib.hid rfl⟩
      obtain ⟨q, HQ⟩ : ∃ q, Hid (V S1 bs 3 = q) := ⟨_, Lib.hid rfl⟩
      obtain ⟨r, HS⟩ : ∃ r, Hid (V S2 bs 3 = r) := ⟨_, Lib.hid rfl⟩
      have hnx : ∀ ty, (Instr.next (.pointer (some ⟨w.heap.size + 1, 0, none⟩)) true ty).run Tryd.prog (Wt.iter s 3) = .ok (.tuple #[.bool true, .int .i64 3, .int .i32 c]) (Wt.iter s (3 + wd)) := fun ty => by
        have := run_next_any (P := Tryd.prog) Wt s 3 ty (by omega)
        rw [hWt, hdec] at this
        simpa using this
      rw [HP.out] at v0 hH
      rw [HQ.out] at v1 hH
      rw [HS.out] at v2 hH
      clear hdec
      have c0 : (Wt.iter s (3 + wd)).cell? ⟨w.heap.size, 0, none⟩ = some (.int .i64 p) := new_cell (Held.cell hH w.heap.size 0 (.int .i64 p) (List.Mem.head _)) (by omega)
      have f0 : (Wt.iter s (3 + wd)).frozen? ⟨w.heap.size, 0, none⟩ = false := frozen_below ((Below.refl _ _).alloc (Nat.le_refl _) _) (by omega) (Held.frozen hH w.heap.size 0 (List.Mem.tail _ (List.Mem.tail _ (List.Mem.tail _ (List.Mem.head _)))))
      have c1 : (Wt.iter s (3 + wd)).cell? ⟨w.heap.size, 1, none⟩ = some (.int .i64 q) := new_cell (Held.cell hH w.heap.size 1 (.int .i64 q) (List.Mem.tail _ (List.Mem.head _))) (by omega)
      have f1 : (Wt.iter s (3 + wd)).frozen? ⟨w.heap.size, 1, none⟩ = false := frozen_below ((Below.refl _ _).alloc (Nat.le_refl _) _) (by omega) (Held.frozen hH w.heap.size 1 (List.Mem.tail _ (List.Mem.tail _ (List.Mem.tail _ (List.Mem.tail _ (List.Mem.head _))))))
      have c2 : (Wt.iter s (3 + wd)).cell? ⟨w.heap.size, 2, none⟩ = some (.int .i64 r) := new_cell (Held.cell hH w.heap.size 2 (.int .i64 r) (List.Mem.tail _ (List.Mem.tail _ (List.Mem.head _)))) (by omega)
      have f2 : (Wt.iter s (3 + wd)).frozen? ⟨w.heap.size, 2, none⟩ = false := frozen_below ((Below.refl _ _).alloc (Nat.le_refl _) _) (by omega) (Held.frozen hH w.heap.size 2 (List.Mem.tail _ (List.Mem.tail _ (List.Mem.tail _ (List.Mem.tail _ (List.Mem.tail _ (List.Mem.head _)))))))
      have l0 := cell_lt c0
      by_cases hx : 48 ≤ (c : Int) ∧ (c : Int) ≤ 57
      · have hw : wd = 1 := by omega
        subst hw
        have hce : Hid ((c : Int) = b) := Lib.hid (by omega)
        clear hcb
        have E : Hid (V S0 bs 4 = 10 * p + (c - 48) ∧ V S1 bs 4 = q ∧ V S2 bs 4 = r ∧ gd bs 3) := Lib.hid ⟨by have h1 := HP.out; have h2 := Hb.out; have h4 := hce.out; have h3 : V S0 bs 4 = 10 * V S0 bs 3 + bs 3 - 48 := rfl; omega, by rw [← HQ.out]; rfl, by rw [← HS.out]; rfl, by have h4 := hce.out; unfold gd; rw [if_neg (by decide), Hb.out]; omega⟩
        have F1 := Lib.hid (fun v => fits_any 3 c true v (by omega) (by unfold fitB; rw [if_neg (by decide)]; simp; omega))
        have F2 := Lib.hid (fun v => longer_any p c v v0 hx)
        clear v0 v1 v2
        go_wp2_with (first | (go_at_call 29; (with_reducible refine (F1.out _).mono ?_); rintro e w' ⟨rfl, rfl⟩) | (go_at_call 30; (with_reducible refine (F2.out _).mono ?_); rintro e w' ⟨rfl, rfl⟩))
        rw [setCell_iter _ _ _ _ _ _ (by omega)]
        refine ⟨⟨4, _, by omega, rfl, by simpa using hWt, fun j hj => ?_, by rw [E.out.1, E.out.2.1, E.out.2.2.1]; exact (Box.put0 hH _ (Nat.le_refl _))⟩, ?_⟩
        · by_cases h : j < 3
          · exact HG.out j h
          · obtain rfl : j = 3 := by omega
            exact E.out.2.2.2
        · rw [iterPos_at _ _ _ _ (by simpa using hWt), iterPos_at _ _ _ _ hWt]; omega
      · have Z := Lib.hid (HX.out 3 (by decide) (by unfold gd; rw [if_neg (by decide), Hb.out]; omega))
        have F1 := Lib.hid (fun v => fits_any 3 c false v (by omega) (by unfold fitB; rw [if_neg (by decide)]; simp; omega))
        have HW : Below w.heap.size w (Wt.iter s (3 + wd)) := (Held.old hH).alloc (Held.size hH) _
        clear v0 v1 v2
        go_wp2_with (go_at_call 29; (with_reducible refine (F1.out _).mono ?_); rintro e w' ⟨rfl, rfl⟩)
        exact bodyPost_ret (v := .tuple #[.agg #[.int .i64 0, .int .i64 0, .int .i64 0], .bool false]) (by simp [results, Tryd.results20, go_sem, c0, c1, c2]) rfl ⟨0, 0, 0, false, Z.out, rfl, ((HW.setCell (Nat.le_refl _) _).setCell (Nat.le_refl _) _).setCell (Nat.le_refl _) _⟩
    · obtain ⟨b, Hb⟩ : ∃ b, Hid (bs 4 = b) := ⟨_, Lib.hid rfl⟩
      obtain ⟨c, wd, hdec, hc, hcb⟩ := rune_of s 4 b (by omega) ((HI.out 4 (by omega)).trans Hb.out)
      obtain ⟨p, HP⟩ : ∃ p, Hid (V S0 bs 4 = p) := ⟨_, Lib.hid rfl⟩
      obtain ⟨q, HQ⟩ : ∃ q, Hid (V S1 bs 4 = q) := ⟨_, Lib.hid rfl⟩
      obtain ⟨r, HS⟩ : ∃ r, Hid (V S2 bs 4 = r) := ⟨_, Lib.hid rfl⟩
      have hnx : ∀ ty, (Instr.next (.pointer (some ⟨w.heap.size + 1, 0, none⟩)) true ty).run Tryd.prog (Wt.iter s 4) = .ok (.tuple #[.bool true, .int .i64 4, .int .i32 c]) (Wt.iter s (4 + wd)) := fun ty => by
        have := run_next_any (P := Tryd.prog) Wt s 4 ty (by omega)
        rw [hWt, hdec] at this
        simpa using this
      rw [HP.out] at v0 hH
      rw [HQ.out] at v1 hH
      rw [HS.out] at v2 hH
      clear hdec
      have c0 : (Wt.iter s (4 + wd)).cell? ⟨w.heap.size, 0, none⟩ = some (.int .i64 p) := new_cell (Held.cell hH w.heap.size 0 (.int .i64 p) (List.Mem.head _)) (by omega)
      have f0 : (Wt.iter s (4 + wd)).frozen? ⟨w.heap.size, 0, none⟩ = false := frozen_below ((Below.refl _ _).alloc (Nat.le_refl _) _) (by omega) (Held.frozen hH w.heap.size 0 (List.Mem.tail _ (List.Mem.tail _ (List.Mem.tail _ (List.Mem.head _)))))
      have c1 : (Wt.iter s (4 + wd)).cell? ⟨w.heap.size, 1, none⟩ = some (.int .i64 q) := new_cell (Held.cell hH w.heap.size 1 (.int .i64 q) (List.Mem.tail _ (List.Mem.head _))) (by omega)
      have f1 : (Wt.iter s (4 + wd)).frozen? ⟨w.heap.size, 1, none⟩ = false := frozen_below ((Below.refl _ _).alloc (Nat.le_refl _) _) (by omega) (Held.frozen hH w.heap.size 1 (List.Mem.tail _ (List.Mem.tail _ (List.Mem.tail _ (List.Mem.tail _ (List.Mem.head _))))))
      have c2 : (Wt.iter s (4 + wd)).cell? ⟨w.heap.size, 2, none⟩ = some (.int .i64 r) := new_cell (Held.cell hH w.heap.size 2 (.int .i64 r) (List.Mem.tail _ (List.Mem.tail _ (List.Mem.head _)))) (by omega)
      have f2 : (Wt.iter s (4 + wd)).frozen? ⟨w.heap.size, 2, none⟩ = false := frozen_below ((Below.refl _ _).alloc (Nat.le_refl _) _) (by omega) (Held.frozen hH w.heap.size 2 (List.Mem.tail _ (List.Mem.tail _ (List.Mem.tail _ (List.Mem.tail _ (List.Mem.tail _ (List.Mem.head _)))))))
      have l0 := cell_lt c0
      by_cases hx : (c : Int) = 45
      · have hw : wd = 1 := by omega
        subst hw
        have hce : Hid ((c : Int) = b) := Lib.hid (by omega)
        clear hcb
        have E : Hid (V S0 bs 5 = p ∧ V S1 bs 5 = q ∧ V S2 bs 5 = r ∧ gd bs 4) := Lib.hid ⟨by rw [← HP.out]; rfl, by rw [← HQ.out]; rfl, by rw [← HS.out]; rfl, by have h4 := hce.out; unfold gd; rw [if_pos (by decide), Hb.out]; omega⟩
        have F1 := Lib.hid (fun v => fits_any 4 45 true v (by omega) (by unfold fitB; rw [if_pos (by decide)]; simp))
        go_wp2_with (go_at_call 29; (with_reducible refine (F1.out _).mono ?_); rintro e w' ⟨rfl, rfl⟩)
        refine ⟨⟨5, Wt, by omega, rfl, hWt, fun j hj => ?_, by rw [E.out.1, E.out.2.1, E.out.2.2.1]; exact hH⟩, ?_⟩
        · by_cases h : j < 4
          · exact HG.out j h
          · obtain rfl : j = 4 := by omega
            exact E.out.2.2.2
        · rw [iterPos_at _ _ _ _ hWt, iterPos_at _ _ _ _ hWt]; omega
      · have Z := Lib.hid (HX.out 4 (by decide) (by unfold gd; rw [if_pos (by decide), Hb.out]; omega))
        have F1 := Lib.hid (fun v => fits_any 4 c false v (by omega) (by unfold fitB; rw [if_pos (by decide)]; simp; omega))
        have HW : Below w.heap.size w (Wt.iter s (4 + wd)) := (Held.old hH).alloc (Held.size hH) _
        clear v0 v1 v2
        go_wp2_with (go_at_call 29; (with_reducible refine (F1.out _).mono ?_); rintro e w' ⟨rfl, rfl⟩)
        exact bodyPost_ret (v := .tuple #[.agg #[.int .i64 0, .int .i64 0, .int .i64 0], .bool false]) (by simp [results, Tryd.results20, go_sem, c0, c1, c2]) rfl ⟨0, 0, 0, false, Z.out, rfl, ((HW.setCell (Nat.le_refl _) _).setCell (Nat.le_refl _) _).setCell (Nat.le_refl _) _⟩
    · obtain ⟨b, Hb⟩ : ∃ b, Hid (bs 5 = b) := ⟨_, Lib.hid rfl⟩
      obtain ⟨c, wd, hdec, hc, hcb⟩ := rune_of s 5 b (by omega) ((HI.out 5 (by omega)).trans Hb.out)
      obtain ⟨p, HP⟩ : ∃ p, Hid (V S0 bs 5 = p) := ⟨_, Lib.hid rfl⟩
      obtain ⟨q, HQ⟩ : ∃ q, Hid (V S1 bs 5 = q) := ⟨_, Lib.hid rfl⟩
      obtain ⟨r, HS⟩ : ∃ r, Hid (V S2 bs 5 = r) := ⟨_, Lib.hid rfl⟩
      have hnx : ∀ ty, (Instr.next (.pointer (some ⟨w.heap.size + 1, 0, none⟩)) true ty).run Tryd.prog (Wt.iter s 5) = .ok (.tuple #[.bool true, .int .i64 5, .int .i32 c]) (Wt.iter s (5 + wd)) := fun ty => by
        have := run_next_any (P := Tryd.prog) Wt s 5 ty (by omega)
        rw [hWt, hdec] at this
        simpa using this
      rw [HP.out] at v0 hH
      rw [HQ.out] at v1 hH
      rw [HS.out] at v2 hH
      clear hdec
      have c0 : (Wt.iter s (5 + wd)).cell? ⟨w.heap.size, 0, none⟩ = some (.int .i64 p) := new_cell (Held.cell hH w.heap.size 0 (.int .i64 p) (List.Mem.head _)) (by omega)
      have f0 : (Wt.iter s (5 + wd)).frozen? ⟨w.heap.size, 0, none⟩ = false := frozen_below ((Below.refl _ _).alloc (Nat.le_refl _) _) (by omega) (Held.frozen hH w.heap.size 0 (List.Mem.tail _ (List.Mem.tail _ (List.Mem.tail _ (List.Mem.head _)))))
      have c1 : (Wt.iter s (5 + wd)).cell? ⟨w.heap.size, 1, none⟩ = some (.int .i64 q) := new_cell (Held.cell hH w.heap.size 1 (.int .i64 q) (List.Mem.tail _ (List.Mem.head _))) (by omega)
      have f1 : (Wt.iter s (5 + wd)).frozen? ⟨w.heap.size, 1, none⟩ = false := frozen_below ((Below.refl _ _).alloc (Nat.le_refl _) _) (by omega) (Held.frozen hH w.heap.size 1 (List.Mem.tail _ (List.Mem.tail _ (List.Mem.tail _ (List.Mem.tail _ (List.Mem.head _))))))
      have c2 : (Wt.iter s (5 + wd)).cell? ⟨w.heap.size, 2, none⟩ = some (.int .i64 r) := new_cell (Held.cell hH w.heap.size 2 (.int .i64 r) (List.Mem.tail _ (List.Mem.tail _ (List.Mem.head _)))) (by omega)
      have f2 : (Wt.iter s (5 + wd)).frozen? ⟨w.heap.size, 2, none⟩ = false := frozen_below ((Below.refl _ _).alloc (Nat.le_refl _) _) (by omega) (Held.frozen hH w.heap.size 2 (List.Mem.tail _ (List.Mem.tail _ (List.Mem.tail _ (List.Mem.tail _ (List.Mem.tail _ (List.Mem.head _)))))))
      have l0 := cell_lt c0
      by_cases hx : 48 ≤ (c : Int) ∧ (c : Int) ≤ 57
      · have hw : wd = 1 := by omega
        subst hw
        have hce : Hid ((c : Int) = b) := Lib.hid (by omega)
        clear hcb
        have E : Hid (V S0 bs 6 = p ∧ V S1 bs 6 = 10 * q + (c - 48) ∧ V S2 bs 6 = r ∧ gd bs 5) := Lib.hid ⟨by rw [← HP.out]; rfl, by have h1 := HQ.out; have h2 := Hb.out; have h4 := hce.out; have h3 : V S1 bs 6 = 10 * V S1 bs 5 + bs 5 - 48 := rfl; omega, by rw [← HS.out]; rfl, by have h4 := hce.out; unfold gd; rw [if_neg (by decide), Hb.out]; omega⟩
        have F1 := Lib.hid (fun v => fits_any 5 c true v (by omega) (by unfold fitB; rw [if_neg (by decide)]; simp; omega))
        have F2 := Lib.hid (fun v => longer_any q c v v1 hx)
        clear v0 v1 v2
        go_wp2_with (first | (go_at_call 29; (with_reducible refine (F1.out _).mono ?_); rintro e w' ⟨rfl, rfl⟩) | (go_at_call 30; (with_reducible refine (F2.out _).mono ?_); rintro e w' ⟨rfl, rfl⟩))
        rw [setCell_iter _ _ _ _ _ _ (by omega)]
        refine ⟨⟨6, _, by omega, rfl, by simpa using hWt, fun j hj => ?_, by rw [E.out.1, E.out.2.1, E.out.2.2.1]; exact (Box.put1 hH _ (Nat.le_refl _))⟩, ?_⟩
        · by_cases h : j < 5
          · exact HG.out j h
          · obtain rfl : j = 5 := by omega
            exact E.out.2.2.2
        · rw [iterPos_at _ _ _ _ (by simpa using hWt), iterPos_at _ _ _ _ hWt]; omega
      · have Z := Lib.hid (HX.out 5 (by decide) (by unfold gd; rw [if_neg (by decide), Hb.out]; omega))
        have F1 := Lib.hid (fun v => fits_any 5 c false v (by omega) (by unfold fitB; rw [if_neg (by decide)]; simp; omega))
        have HW : Below w.heap.size w (Wt.iter s (5 + wd)) := (Held.old hH).alloc (Held.size hH) _
        clear v0 v1 v2
        go_wp2_with (go_at_call 29; (with_reducible refine (F1.out _).mono ?_); rintro e w' ⟨rfl, rfl⟩)
        exact bodyPost_ret (v := .tuple #[.agg #[.int .i64 0, .int .i64 0, .int .i64 0], .bool false]) (by simp [results, Tryd.results20, go_sem, c0, c1, c2]) rfl ⟨0, 0, 0, false, Z.out, rfl, ((HW.setCell (Nat.le_refl _) _).setCell (Nat.le_refl _) _).setCell (Nat.le_refl _) _⟩
    · obtain ⟨b, Hb⟩ : ∃ b, Hid (bs 6 = b) := ⟨_, Lib.hid rfl⟩
      obtain ⟨c, wd, hdec, hc, hcb⟩ := rune_of s 6 b (by omega) ((HI.out 6 (by omega)).trans Hb.out)
      obtain ⟨p, HP⟩ : ∃ p, Hid (V S0 bs 6 = p) := ⟨_, Lib.hid rfl⟩
      obtain ⟨q, HQ⟩ : ∃ q, Hid (V S1 bs 6 = q) := ⟨_, Lib.hid rfl⟩
      obtain ⟨r, HS⟩ : ∃ r, Hid (V S2 bs 6 = r) := ⟨_, Lib.hid rfl⟩
      have hnx : ∀ ty, (Instr.next (.pointer (some ⟨w.heap.size + 1, 0, none⟩)) true ty).run Tryd.prog (Wt.iter s 6) = .ok (.tuple #[.bool true, .int .i64 6, .int .i32 c]) (Wt.iter s (6 + wd)) := fun ty => by
        have := run_next_any (P := Tryd.prog) Wt s 6 ty (by omega)
        rw [hWt, hdec] at this
        simpa using this
      rw [HP.out] at v0 hH
      rw [HQ.out] at v1 hH
      rw [HS.out] at v2 hH
      clear hdec
      have c0 : (Wt.iter s (6 + wd)).cell? ⟨w.heap.size, 0, none⟩ = some (.int .i64 p) := new_cell (Held.cell hH w.heap.size 0 (.int .i64 p) (List.Mem.head _)) (by omega)
      have f0 : (Wt.iter s (6 + wd)).frozen? ⟨w.heap.size, 0, none⟩ = false := frozen_below ((Below.refl _ _).alloc (Nat.le_refl _) _) (by omega) (Held.frozen hH w.heap.size 0 (List.Mem.tail _ (List.Mem.tail _ (List.Mem.tail _ (List.Mem.head _)))))
      have c1 : (Wt.iter s (6 + wd)).cell? ⟨w.heap.size, 1, none⟩ = some (.int .i64 q) := new_cell (Held.cell hH w.heap.size 1 (.int .i64 q) (List.Mem.tail _ (List.Mem.head _))) (by omega)
      have f1 : (Wt.iter s (6 + wd)).frozen? ⟨w.heap.size, 1, none⟩ = false := frozen_below ((Below.refl _ _).alloc (Nat.le_refl _) _) (by omega) (Held.frozen hH w.heap.size 1 (List.Mem.tail _ (List.Mem.tail _ (List.Mem.tail _ (List.Mem.tail _ (List.Mem.head _))))))
      have c2 : (Wt.iter s (6 + wd)).cell? ⟨w.heap.size, 2, none⟩ = some (.int .i64 r) := new_cell (Held.cell hH w.heap.size 2 (.int .i64 r) (List.Mem.tail _ (List.Mem.tail _ (List.Mem.head _)))) (by omega)
      have f2 : (Wt.iter s (6 + wd)).frozen? ⟨w.heap.size, 2, none⟩ = false := frozen_below ((Below.refl _ _).alloc (Nat.le_refl _) _) (by omega) (Held.frozen hH w.heap.size 2 (List.Mem.tail _ (List.Mem.tail _ (List.Mem.tail _ (List.Mem.tail _ (List.Mem.tail _ (List.Mem.head _)))))))
      have l0 := cell_lt c0
      by_cases hx : 48 ≤ (c : Int) ∧ (c : Int) ≤ 57
      · have hw : wd = 1 := by omega
        subst hw
        have hce : Hid ((c : Int) = b) := Lib.hid (by omega)
        clear hcb
        have E : Hid (V S0 bs 7 = p ∧ V S1 bs 7 = 10 * q + (c - 48) ∧ V S2 bs 7 = r ∧ gd bs 6) := Lib.hid ⟨by rw [← HP.out]; rfl, by have h1 := HQ.out; have h2 := Hb.out; have h4 := hce.out; have h3 : V S1 bs 7 = 10 * V S1 bs 6 + bs 6 - 48 := rfl; omega, by rw [← HS.out]; rfl, by have h4 := hce.out; unfold gd; rw [if_neg (by decide), Hb.out]; omega⟩
        have F1 := Lib.hid (fun v => fits_any 6 c true v (by omega) (by unfold fitB; rw [if_neg (by decide)]; simp; omega))
        have F2 := Lib.hid (fun v => longer_any q c v v1 hx)
        clear v0 v1 v2
        go_wp2_with (first | (go_at_call 29; (with_reducible refine (F1.out _).mono ?_); rintro e w' ⟨rfl, rfl⟩) | (go_at_call 30; (with_reducible refine (F2.out _).mono ?_); rintro e w' ⟨rfl, rfl⟩))
        rw [setCell_iter _ _ _ _ _ _ (by omega)]
        refine ⟨⟨7, _, by omega, rfl, by simpa using hWt, fun j hj => ?_, by rw [E.out.1, E.out.2.1, E.out.2.2.1]; exact (Box.put1 hH _ (Nat.le_refl _))⟩, ?_⟩
        · by_cases h : j < 6
          · exact HG.out j h
          · obtain rfl : j = 6 := by omega
            exact E.out.2.2.2
        · rw [iterPos_at _ _ _ _ (by simpa using hWt), iterPos_at _ _ _ _ hWt]; omega
      · have Z := Lib.hid (HX.out 6 (by decide) (by unfold gd; rw [if_neg (by decide), Hb.out]; omega))
        have F1 := Lib.hid (fun v => fits_any 6 c false v (by omega) (by unfold fitB; rw [if_neg (by decide)]; simp; omega))
        have HW : Below w.heap.size w (Wt.iter s (6 + wd)) := (Held.old hH).alloc (Held.size hH) _
        clear v0 v1 v2
        go_wp2_with (go_at_call 29; (with_reducible refine (F1.out _).mono ?_); rintro e w' ⟨rfl, rfl⟩)
        exact bodyPost_ret (v := .tuple #[.agg #[.int .i64 0, .int .i64 0, .int .i64 0], .bool false]) (by simp [results, Tryd.results20, go_sem, c0, c1, c2]) rfl ⟨0, 0, 0, false, Z.out, rfl, ((HW.setCell (Nat.le_refl _) _).setCell (Nat.le_refl _) _).setCell (Nat.le_refl _) _⟩
    · obtain ⟨b, Hb⟩ : ∃ b, Hid (bs 7 = b) := ⟨_, Lib.hid rfl⟩
      obtain ⟨c, wd, hdec, hc, hcb⟩ := rune_of s 7 b (by omega) ((HI.out 7 (by omega)).trans Hb.out)
      obtain ⟨p, HP⟩ : ∃ p, Hid (V S0 bs 7 = p) := ⟨_, Lib.hid rfl⟩
      obtain ⟨q, HQ⟩ : ∃ q, Hid (V S1 bs 7 = q) := ⟨_, Lib.hid rfl⟩
      obtain ⟨r, HS⟩ : ∃ r, Hid (V S2 bs 7 = r) := ⟨_, Lib.hid rfl⟩
      have hnx : ∀ ty, (Instr.next (.pointer (some ⟨w.heap.size + 1, 0, none⟩)) true ty).run Tryd.prog (Wt.iter s 7) = .ok (.tuple #[.bool true, .int .i64 7, .int .i32 c]) (Wt.iter s (7 + wd)) := fun ty => by
        have := run_next_any (P := Tryd.prog) Wt s 7 ty (by omega)
        rw [hWt, hdec] at this
        simpa using this
      rw [HP.out] at v0 hH
      rw [HQ.out] at v1 hH
      rw [HS.out] at v2 hH
      clear hdec
      have c0 : (Wt.iter s (7 + wd)).cell? ⟨w.heap.size, 0, none⟩ = some (.int .i64 p) := new_cell (Held.cell hH w.heap.size 0 (.int .i64 p) (List.Mem.head _)) (by omega)
      have f0 : (Wt.iter s (7 + wd)).frozen? ⟨w.heap.size, 0, none⟩ = false := frozen_below ((Below.refl _ _).alloc (Nat.le_refl _) _) (by omega) (Held.frozen hH w.heap.size 0 (List.Mem.tail _ (List.Mem.tail _ (List.Mem.tail _ (List.Mem.head _)))))
      have c1 : (Wt.iter s (7 + wd)).cell? ⟨w.heap.size, 1, none⟩ = some (.int .i64 q) := new_cell (Held.cell hH w.heap.size 1 (.int .i64 q) (List.Mem.tail _ (List.Mem.head _))) (by omega)
      have f1 : (Wt.iter s (7 + wd)).frozen? ⟨w.heap.size, 1, none⟩ = false := frozen_below ((Below.refl _ _).alloc (Nat.le_refl _) _) (by omega) (Held.frozen hH w.heap.size 1 (List.Mem.tail _ (List.Mem.tail _ (List.Mem.tail _ (List.Mem.tail _ (List.Mem.head _))))))
      have c2 : (Wt.iter s (7 + wd)).cell? ⟨w.heap.size, 2, none⟩ = some (.int .i64 r) := new_cell (Held.cell hH w.heap.size 2 (.int .i64 r) (List.Mem.tail _ (List.Mem.tail _ (List.Mem.head _)))) (by omega)
      have f2 : (Wt.iter s (7 + wd)).frozen? ⟨w.heap.size, 2, none⟩ = false := frozen_below ((Below.refl _ _).alloc (Nat.le_refl _) _) (by omega) (Held.frozen hH w.heap.size 2 (List.Mem.tail _ (List.Mem.tail _ (List.Mem.tail _ (List.Mem.tail _ (List.Mem.tail _ (List.Mem.head _)))))))
      have l0 := cell_lt c0
      by_cases hx : (c : Int) = 45
      · have hw : wd = 1 := by omega
        subst hw
        have hce : Hid ((c : Int) = b) := Lib.hid (by omega)
        clear hcb
        have E : Hid (V S0 bs 8 = p ∧ V S1 bs 8 = q ∧ V S2 bs 8 = r ∧ gd bs 7) := Lib.hid ⟨by rw [← HP.out]; rfl, by rw [← HQ.out]; rfl, by rw [← HS.out]; rfl, by have h4 := hce.out; unfold gd; rw [if_pos (by decide), Hb.out]; omega⟩
        have F1 := Lib.hid (fun v => fits_any 7 45 true v (by omega) (by unfold fitB; rw [if_pos (by decide)]; simp))
        go_wp2_with (go_at_call 29; (with_reducible refine (F1.out _).mono ?_); rintro e w' ⟨rfl, rfl⟩)
        refine ⟨⟨8, Wt, by omega, rfl, hWt, fun j hj => ?_, by rw [E.out.1, E.out.2.1, E.out.2.2.1]; exact hH⟩, ?_⟩
        · by_cases h : j < 7
          · exact HG.out j h
          · obtain rfl : j = 7 := by omega
            exact E.out.2.2.2
        · rw [iterPos_at _ _ _ _ hWt, iterPos_at _ _ _ _ hWt]; omega
      · have Z := Lib.hid (HX.out 7 (by decide) (by unfold gd; rw [if_pos (by decide), Hb.out]; omega))
        have F1 := Lib.hid (fun v => fits_any 7 c false v (by omega) (by unfold fitB; rw [if_pos (by decide)]; simp; omega))
        have HW : Below w.heap.size w (Wt.iter s (7 + wd)) := (Held.old hH).alloc (Held.size hH) _
        clear v0 v1 v2
        go_wp2_with (go_at_call 29; (with_reducible refine (F1.out _).mono ?_); rintro e w' ⟨rfl, rfl⟩)
        exact bodyPost_ret (v := .tuple #[.agg #[.int .i64 0, .int .i64 0, .int .i64 0], .bool false]) (by simp [results, Tryd.results20, go_sem, c0, c1, c2]) rfl ⟨0, 0, 0, false, Z.out, rfl, ((HW.setCell (Nat.le_refl _) _).setCell (Nat.le_refl _) _).setCell (Nat.le_refl _) _⟩
    · obtain ⟨b, Hb⟩ : ∃ b, Hid (bs 8 = b) := ⟨_, Lib.hid rfl⟩
      obtain ⟨c, wd, hdec, hc, hcb⟩ := rune_of s 8 b (by omega) ((HI.out 8 (by omega)).trans Hb.out)
      obtain ⟨p, HP⟩ : ∃ p, Hid (V S0 bs 8 = p) := ⟨_, Lib.hid rfl⟩
      obtain ⟨q, HQ⟩ : ∃ q, Hid (V S1 bs 8 = q) := ⟨_, Lib.hid rfl⟩
      obtain ⟨r, HS⟩ : ∃ r, Hid (V S2 bs 8 = r) := ⟨_, Lib.hid rfl⟩
      have hnx : ∀ ty, (Instr.next (.pointer (some ⟨w.heap.size + 1, 0, none⟩)) true ty).run Tryd.prog (Wt.iter s 8) = .ok (.tuple #[.bool true, .int .i64 8, .int .i32 c]) (Wt.iter s (8 + wd)) := fun ty => by
        have := run_next_any (P := Tryd.prog) Wt s 8 ty (by omega)
        rw [hWt, hdec] at this
        simpa using this
      rw [HP.out] at v0 hH
      rw [HQ.out] at v1 hH
      rw [HS.out] at v2 hH
      clear hdec
      have c0 : (Wt.iter s (8 + wd)).cell? ⟨w.heap.size, 0, none⟩ = some (.int .i64 p) := new_cell (Held.cell hH w.heap.size 0 (.int .i64 p) (List.Mem.head _)) (by omega)
      have f0 : (Wt.iter s (8 + wd)).frozen? ⟨w.heap.size, 0, none⟩ = false := frozen_below ((Below.refl _ _).alloc (Nat.le_refl _) _) (by omega) (Held.frozen hH w.heap.size 0 (List.Mem.tail _ (List.Mem.tail _ (List.Mem.tail _ (List.Mem.head _)))))
      have c1 : (Wt.iter s (8 + wd)).cell? ⟨w.heap.size, 1, none⟩ = some (.int .i64 q) := new_cell (Held.cell hH w.heap.size 1 (.int .i64 q) (List.Mem.tail _ (List.Mem.head _))) (by omega)
      have f1 : (Wt.iter s (8 + wd)).frozen? ⟨w.heap.size, 1, none⟩ = false := frozen_below ((Below.refl _ _).alloc (Nat.le_refl _) _) (by omega) (Held.frozen hH w.heap.size 1 (List.Mem.tail _ (List.Mem.tail _ (List.Mem.tail _ (List.Mem.tail _ (List.Mem.head _))))))
      have c2 : (Wt.iter s (8 + wd)).cell? ⟨w.heap.size, 2, none⟩ = some (.int .i64 r) := new_cell (Held.cell hH w.heap.size 2 (.int .i64 r) (List.Mem.tail _ (List.Mem.tail _ (List.Mem.head _)))) (by omega)
      have f2 : (Wt.iter s (8 + wd)).frozen? ⟨w.heap.size, 2, none⟩ = false := frozen_below ((Below.refl _ _).alloc (Nat.le_refl _) _) (by omega) (Held.frozen hH w.heap.size 2 (List.Mem.tail _ (List.Mem.tail _ (List.Mem.tail _ (List.Mem.tail _ (List.Mem.tail _ (List.Mem.head _)))))))
      have l0 := cell_lt c0
      by_cases hx : 48 ≤ (c : Int) ∧ (c : Int) ≤ 57
      · have hw : wd = 1 := by omega
        subst hw
        have hce : Hid ((c : Int) = b) := Lib.hid (by omega)
        clear hcb
        have E : Hid (V S0 bs 9 = p ∧ V S1 bs 9 = q ∧ V S2 bs 9 = 10 * r + (c - 48) ∧ gd bs 8) := Lib.hid ⟨by rw [← HP.out]; rfl, by rw [← HQ.out]; rfl, by have h1 := HS.out; have h2 := Hb.out; have h4 := hce.out; have h3 : V S2 bs 9 = 10 * V S2 bs 8 + bs 8 - 48 := rfl; omega, by have h4 := hce.out; unfold gd; rw [if_neg (by decide), Hb.out]; omega⟩
        have F1 := Lib.hid (fun v => fits_any 8 c true v (by omega) (by unfold fitB; rw [if_neg (by decide)]; simp; omega))
        have F2 := Lib.hid (fun v => longer_any r c v v2 hx)
        clear v0 v1 v2
        go_wp2_with (first | (go_at_call 29; (with_reducible refine (F1.out _).mono ?_); rintro e w' ⟨rfl, rfl⟩) | (go_at_call 30; (with_reducible refine (F2.out _).mono ?_); rintro e w' ⟨rfl, rfl⟩))
        rw [setCell_iter _ _ _ _ _ _ (by omega)]
        refine ⟨⟨9, _, by omega, rfl, by simpa using hWt, fun j hj => ?_, by rw [E.out.1, E.out.2.1, E.out.2.2.1]; exact (Box.put2 hH _ (Nat.le_refl _))⟩, ?_⟩
        · by_cases h : j < 8
          · exact HG.out j h
          · obtain rfl : j = 8 := by omega
            exact E.out.2.2.2
        · rw [iterPos_at _ _ _ _ (by simpa using hWt), iterPos_at _ _ _ _ hWt]; omega
      · have Z := Lib.hid (HX.out 8 (by decide) (by unfold gd; rw [if_neg (by decide), Hb.out]; omega))
        have F1 := Lib.hid (fun v => fits_any 8 c false v (by omega) (by unfold fitB; rw [if_neg (by decide)]; simp; omega))
        have HW : Below w.heap.size w (Wt.iter s (8 + wd)) := (Held.old hH).alloc (Held.size hH) _
        clear v0 v1 v2
        go_wp2_with (go_at_call 29; (with_reducible refine (F1.out _).mono ?_); rintro e w' ⟨rfl, rfl⟩)
        exact bodyPost_ret (v := .tuple #[.agg #[.int .i64 0, .int .i64 0, .int .i64 0], .bool false]) (by simp [results, Tryd.results20, go_sem, c0, c1, c2]) rfl ⟨0, 0, 0, false, Z.out, rfl, ((HW.setCell (Nat.le_refl _) _).setCell (Nat.le_refl _) _).setCell (Nat.le_refl _) _⟩
    · obtain ⟨b, Hb⟩ : ∃ b, Hid (bs 9 = b) := ⟨_, Lib.hid rfl⟩
      obtain ⟨c, wd, hdec, hc, hcb⟩ := rune_of s 9 b (by omega) ((HI.out 9 (by omega)).trans Hb.out)
      obtain ⟨p, HP⟩ : ∃ p, Hid (V S0 bs 9 = p) := ⟨_, Lib.hid rfl⟩
      obtain ⟨q, HQ⟩ : ∃ q, Hid (V S1 bs 9 = q) := ⟨_, Lib.hid rfl⟩
      obtain ⟨r, HS⟩ : ∃ r, Hid (V S2 bs 9 = r) := ⟨_, Lib.hid rfl⟩
      have hnx : ∀ ty, (Instr.next (.pointer (some ⟨w.heap.size + 1, 0, none⟩)) true ty).run Tryd.prog (Wt.iter s 9) = .ok (.tuple #[.bool true, .int .i64 9, .int .i32 c]) (Wt.iter s (9 + wd)) := fun ty => by
        have := run_next_any (P := Tryd.prog) Wt s 9 ty (by omega)
        rw [hWt, hdec] at this
        simpa using this
      rw [HP.out] at v0 hH
      rw [HQ.out] at v1 hH
      rw [HS.out] at v2 hH
      clear hdec
      have c0 : (Wt.iter s (9 + wd)).cell? ⟨w.heap.size, 0, none⟩ = some (.int .i64 p) := new_cell (Held.cell hH w.heap.size 0 (.int .i64 p) (List.Mem.head _)) (by omega)
      have f0 : (Wt.iter s (9 + wd)).frozen? ⟨w.heap.size, 0, none⟩ = false := frozen_below ((Below.refl _ _).alloc (Nat.le_refl _) _) (by omega) (Held.frozen hH w.heap.size 0 (List.Mem.tail _ (List.Mem.tail _ (List.Mem.tail _ (List.Mem.head _)))))
      have c1 : (Wt.iter s (9 + wd)).cell? ⟨w.heap.size, 1, none⟩ = some (.int .i64 q) := new_cell (Held.cell hH w.heap.size 1 (.int .i64 q) (List.Mem.tail _ (List.Mem.head _))) (by omega)
      have f1 : (Wt.iter s (9 + wd)).frozen? ⟨w.heap.size, 1, none⟩ = false := frozen_below ((Below.refl _ _).alloc (Nat.le_refl _) _) (by omega) (Held.frozen hH w.heap.size 1 (List.Mem.tail _ (List.Mem.tail _ (List.Mem.tail _ (List.Mem.tail _ (List.Mem.head _))))))
      have c2 : (Wt.iter s (9 + wd)).cell? ⟨w.heap.size, 2, none⟩ = some (.int .i64 r) := new_cell (Held.cell hH w.heap.size 2 (.int .i64 r) (List.Mem.tail _ (List.Mem.tail _ (List.Mem.head _)))) (by omega)
      have f2 : (Wt.iter s (9 + wd)).frozen? ⟨w.heap.size, 2, none⟩ = false := frozen_below ((Below.refl _ _).alloc (Nat.le_refl _) _) (by omega) (Held.frozen hH w.heap.size 2 (List.Mem.tail _ (List.Mem.tail _ (List.Mem.tail _ (List.Mem.tail _ (List.Mem.tail _ (List.Mem.head _)))))))
      have l0 := cell_lt c0
      by_cases hx : 48 ≤ (c : Int) ∧ (c : Int) ≤ 57
      · have hw : wd = 1 := by omega
        subst hw
        have hce : Hid ((c : Int) = b) := Lib.hid (by omega)
        clear hcb
        have E : Hid (V S0 bs 10 = p ∧ V S1 bs 10 = q ∧ V S2 bs 10 = 10 * r + (c - 48) ∧ gd bs 9) := Lib.hid ⟨by rw [← HP.out]; rfl, by rw [← HQ.out]; rfl, by have h1 := HS.out; have h2 := Hb.out; have h4 := hce.out; have h3 : V S2 bs 10 = 10 * V S2 bs 9 + bs 9 - 48 := rfl; omega, by have h4 := hce.out; unfold gd; rw [if_neg (by decide), Hb.out]; omega⟩
        have F1 := Lib.hid (fun v => fits_any 9 c true v (by omega) (by unfold fitB; rw [if_neg (by decide)]; simp; omega))
        have F2 := Lib.hid (fun v => longer_any r c v v2 hx)
        clear v0 v1 v2
        go_wp2_with (first | (go_at_call 29; (with_reducible refine (F1.out _).mono ?_); rintro e w' ⟨rfl, rfl⟩) | (go_at_call 30; (with_reducible refine (F2.out _).mono ?_); rintro e w' ⟨rfl, rfl⟩))
        rw [setCell_iter _ _ _ _ _ _ (by omega)]
        refine ⟨⟨10, _, by omega, rfl, by simpa using hWt, fun j hj => ?_, by rw [E.out.1, E.out.2.1, E.out.2.2.1]; exact (Box.put2 hH _ (Nat.le_refl _))⟩, ?_⟩
        · by_cases h : j < 9
          · exact HG.out j h
          · obtain rfl : j = 9 := by omega
            exact E.out.2.2.2
        · rw [iterPos_at _ _ _ _ (by simpa using hWt), iterPos_at _ _ _ _ hWt]; omega
      · have Z := Lib.hid (HX.out 9 (by decide) (by unfold gd; rw [if_neg (by decide), Hb.out]; omega))
        have F1 := Lib.hid (fun v => fits_any 9 c false v (by omega) (by unfold fitB; rw [if_neg (by decide)]; simp; omega))
        have HW : Below w.heap.size w (Wt.iter s (9 + wd)) := (Held.old hH).alloc (Held.size hH) _
        clear v0 v1 v2
        go_wp2_with (go_at_call 29; (with_reducible refine (F1.out _).mono ?_); rintro e w' ⟨rfl, rfl⟩)
        exact bodyPost_ret (v := .tuple #[.agg #[.int .i64 0, .int .i64 0, .int .i64 0], .bool false]) (by simp [results, Tryd.results20, go_sem, c0, c1, c2]) rfl ⟨0, 0, 0, false, Z.out, rfl, ((HW.setCell (Nat.le_refl _) _).setCell (Nat.le_refl _) _).setCell (Nat.le_refl _) _⟩
    · obtain ⟨p, HP⟩ : ∃ p, Hid (V S0 bs 10 = p) := ⟨_, Lib.hid rfl⟩
      obtain ⟨q, HQ⟩ : ∃ q, Hid (V S1 bs 10 = q) := ⟨_, Lib.hid rfl⟩
      obtain ⟨r, HS⟩ : ∃ r, Hid (V S2 bs 10 = r) := ⟨_, Lib.hid rfl⟩
      have hnx : ∀ ty, (Instr.next (.pointer (some ⟨w.heap.size + 1, 0, none⟩)) true ty).run Tryd.prog (Wt.iter s 10) = .ok (.tuple #[.bool false]) (Wt.iter s 10) := fun ty => by
        have := run_next_end (P := Tryd.prog) Wt s 10 ty (by omega)
        rw [hWt] at this
        exact this
      have Z0 := HG0.out HG.out
      rw [HP.out] at Z0 hH
      rw [HQ.out] at Z0 hH
      rw [HS.out] at Z0 hH
      have Z := Lib.hid Z0
      clear Z0 v0 v1 v2
      have HW : Below w.heap.size w (Wt.iter s 10) := (Held.old hH).alloc (Held.size hH) _
      have c0 : (Wt.iter s 10).cell? ⟨w.heap.size, 0, none⟩ = some (.int .i64 p) := new_cell (Held.cell hH w.heap.size 0 (.int .i64 p) (List.Mem.head _)) (by omega)
      have f0 : (Wt.iter s 10).frozen? ⟨w.heap.size, 0, none⟩ = false := frozen_below ((Below.refl _ _).alloc (Nat.le_refl _) _) (by omega) (Held.frozen hH w.heap.size 0 (List.Mem.tail _ (List.Mem.tail _ (List.Mem.tail _ (List.Mem.head _)))))
      have c1 : (Wt.iter s 10).cell? ⟨w.heap.size, 1, none⟩ = some (.int .i64 q) := new_cell (Held.cell hH w.heap.size 1 (.int .i64 q) (List.Mem.tail _ (List.Mem.head _))) (by omega)
      have f1 : (Wt.iter s 10).frozen? ⟨w.heap.size, 1, none⟩ = false := frozen_below ((Below.refl _ _).alloc (Nat.le_refl _) _) (by omega) (Held.frozen hH w.heap.size 1 (List.Mem.tail _ (List.Mem.tail _ (List.Mem.tail _ (List.Mem.tail _ (List.Mem.head _))))))
      have c2 : (Wt.iter s 10).cell? ⟨w.heap.size, 2, none⟩ = some (.int .i64 r) := new_cell (Held.cell hH w.heap.size 2 (.int .i64 r) (List.Mem.tail _ (List.Mem.tail _ (List.Mem.head _)))) (by omega)
      have f2 : (Wt.iter s 10).frozen? ⟨w.heap.size, 2, none⟩ = false := frozen_below ((Below.refl _ _).alloc (Nat.le_refl _) _) (by omega) (Held.frozen hH w.heap.size 2 (List.Mem.tail _ (List.Mem.tail _ (List.Mem.tail _ (List.Mem.tail _ (List.Mem.tail _ (List.Mem.head _)))))))
      have l := cell_lt c0
      go_wp2
      exact bodyPost_ret (v := .tuple #[.agg #[.int .i64 p, .int .i64 q, .int .i64 r], .bool true]) (by simp [results, Tryd.results20, go_sem, c0, c1, c2]) rfl ⟨p, q, r, true, Z.out, rfl, ((HW.setCell (Nat.le_refl _) _).setCell (Nat.le_refl _) _).setCell (Nat.le_refl _) _⟩

/-- What the parts of a text tell. -/
def PartOf (n e : Int) (x y z : Int) (b : Bool) : Prop := (b = true ∧ nN x y z = n ∧ nE x y z = e) ∨ (b = false ∧ n = 0 ∧ e = 10)
theorem parts_any (l : List UInt8) (n e : Int) (w : World) (h : ReadIs l n e) :
    Calls Tryd.prog 20 #[.string ⟨l.toArray⟩] w fun e' w' => ∃ x y z b, PartOf n e x y z b ∧ e' = .returned (.tuple #[.agg #[.int .i64 x, .int .i64 y, .int .i64 z], .bool b]) ∧ Below w.heap.size w w' := by
  by_cases hl : l.length = 10
  · obtain ⟨x0, x1, x2, x3, x4, x5, x6, x7, x8, x9, rfl⟩ := list10 l hl
    exact parts_ten _ (bsl [x0, x1, x2, x3, x4, x5, x6, x7, x8, x9]) (PartOf n e) w rfl (index_at _) (bsl_bd _) (fun hg => by
      obtain ⟨a, b⟩ := read_good _ _ _ _ _ _ _ _ _ _ n e h hg
      exact Or.inl ⟨rfl, a.symm, b.symm⟩) (fun j hj hg => Or.inr ⟨rfl, read_bad _ n e h j hj hg⟩)
  · obtain ⟨rfl, rfl⟩ := read_len l n e h hl
    exact (parts_len l w hl).mono fun _ _ hh => ⟨0, 0, 0, false, Or.inr ⟨rfl, rfl, rfl⟩, hh⟩

theorem read_any (l : List UInt8) (n e : Int) (w : World) (hL : Tabs w) (h : ReadIs l n e) : Calls Tryd.prog 11 #[.string ⟨l.toArray⟩] w fun e' w' => e' = .returned (.tuple #[.int .i64 n, .int .i64 e]) ∧ Below w.heap.size w w' := by
  have H := (Held.start w).add (f := tabsF) hL
  clear hL
  have HR := Lib.hid h
  clear h
  go_enter Tryd.func11, Tryd.ntmps11
  go_wp2_with fail
  (with_reducible refine (parts_any l n e _ HR.out).mono ?_)
  rintro e1 w1 ⟨x, y, z, b, hp, rfl, hb⟩
  replace H := H.below hb
  clear hb
  rcases hp with ⟨rfl, hn, he⟩ | ⟨rfl, rfl, rfl⟩
  · have HN := Lib.hid (And.intro hn he)
    clear hn he
    have H2 := H.triple (w1.heap.size) (.int .i64 x) (.int .i64 y) (.int .i64 z) 41 rfl
    have c0 := H2.cell (w1.heap.size) 0 (.int .i64 x) (List.Mem.head _)
    have c1 := H2.cell (w1.heap.size) 1 (.int .i64 y) (List.Mem.tail _ (List.Mem.head _))
    have c2 := H2.cell (w1.heap.size) 2 (.int .i64 z) (List.Mem.tail _ (List.Mem.tail _ (List.Mem.head _)))
    go_wp2_with fail
    clear c0 c1 c2
    (with_reducible refine (number_is x y z n e _ (H2.tlens (List.Mem.tail _ (List.Mem.tail _ (List.Mem.tail _ (List.Mem.tail _ (List.Mem.tail _ (List.Mem.tail _ (List.Mem.head _)))))))) HN.out).mono ?_)
    rintro e2 w2 ⟨rfl, hb2⟩
    replace H2 := H2.below hb2
    clear hb2
    go_wp2
    go_ret2
    exact ⟨rfl, H2.old⟩
  · have H2 := H.triple (w1.heap.size) (.int .i64 x) (.int .i64 y) (.int .i64 z) 41 rfl
    go_wp2
    go_ret2
    exact ⟨rfl, H2.old⟩
end Go.Proofs.YtgdhpganognmlaaDoor
