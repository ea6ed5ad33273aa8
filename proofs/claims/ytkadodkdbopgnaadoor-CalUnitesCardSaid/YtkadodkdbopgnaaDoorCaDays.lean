/- The reference of layer 13: days of both, rising, each once: a loop that appends to a row of its own. -/
import Derived.Test.YtkadodkdbopgnaaDoorCaUn
import Derived.Test.YtkadodkdbopgnaaDoorCaMem
import Derived.Deep.Onto
namespace Go.Proofs.YtkadodkdbopgnaaDoor
open Go.RowKit
set_option linter.unusedVariables false
set_option linter.unusedSimpArgs false

theorem own_below13 {W W' : World} {base : Nat} {e : TypeId} {size n : Nat} {v : Value} {xs : List Value} (h : W.ownsRow base e size v n xs) (hb : Below W.heap.size W W') : W'.ownsRow base e size v n xs := by
  obtain ⟨h1, h2⟩ := h
  refine ⟨h1, ?_⟩
  rcases h2 with h2 | ⟨g, cap, cur, hv, hg, hh, hr⟩
  · exact .inl h2
  · exact .inr ⟨g, cap, cur, hv, hg, by rw [hb.block g ((Array.getElem?_eq_some_iff.1 hh).1)]; exact hh, hr⟩
theorem infoInt13 : (Tryd.prog.info? 3).map (fun i => (i.zero, i.size, i.bytes)) = some (some (.int .i64 0), 1, 8) := by kernel_rfl
def il (l : List Int) : List Value := l.map (Value.int .i64)
theorem il_len (l : List Int) : (il l).length = l.length := by simp [il]
/-- A row of the call's own, as days. -/
theorem own_days13 {W : World} {base n : Nat} {v : Value} {l : List Int} (hn : l.length = n) (h : W.ownsRow base 3 1 v n (il l)) : ∃ ao cap, v = .slice ao n cap ∧ DaysAt W ao (ld l) n cap := by
  have h0 := h
  subst hn
  rcases h.2 with ⟨rfl, e⟩ | ⟨g, cap, cur, rfl, _, _, hc, _⟩
  · refine ⟨none, 0, by rw [e], by omega, fun k => absurd k (by omega)⟩
  · refine ⟨_, _, rfl, hc, fun _ => ⟨g, 0, rfl, fun j hj => ?_⟩⟩
    have := World.ownsRow.cellAt h0 j (by omega)
    rw [Nat.zero_add, this]
    simp [il, ld, hj]
theorem grown13 {wr w1 : World} {base : Nat} {e : TypeId} {size n : Nat} {v : Value} {xs : List Value} {o : Obj} (hsz : base ≤ wr.heap.size) (hown : wr.ownsRow base e size v n xs) {k : Nat} (hg : ((wr.alloc o).drewN k).grownBy w1 v.ownBlock) : Below base wr w1 :=
  (belowDrewN ((Below.refl base wr).alloc hsz o) k).grown hg (by simp; omega) (fun k hk => (World.ownsRow.lt hown k hk).1)
theorem one_news (W : World) (x : Value) (t : TypeId) (k : Nat) : ∀ j u, [x][j]? = some u → ((W.alloc (.cells #[x] t)).drewN k).cell? ((⟨W.heap.size, 0, none⟩ : Addr).add j) = some u := by
  intro j u hu
  match j, hu with
  | 0, hu =>
    obtain rfl : x = u := by simpa using hu
    rw [add_plain13]
    simp [go_sem, World.cell?_alloc_new]
  | j + 1, hu => simp at hu
theorem dl_drop {X : Nat → Int} {n i : Nat} (h : i < n) : (dl X n).drop i = X i :: (dl X n).drop (i + 1) := by
  rw [List.drop_eq_getElem_cons (by rw [dl_len]; exact h)]
  simp [dl]
theorem dl_end (X : Nat → Int) (n : Nat) : (dl X n).drop n = [] := List.drop_eq_nil_of_le (by rw [dl_len]; exact Nat.le_refl _)
theorem il_snoc (l : List Int) (x : Int) : il l ++ [.int .i64 x] = il (l ++ [x]) := by simp [il]

set_option maxHeartbeats 8000000 in
theorem rdays_any (aO : Option Addr) (n ca : Nat) (X : Nat → Int) (bO : Option Addr) (m cb : Nat) (Y : Nat → Int) (w : World) (hn : n ≤ 2000) (hm : m ≤ 2000) (hA : DaysAt w aO X n ca) (hB : DaysAt w bO Y m cb) :
    Calls Tryd.prog 37 #[.slice aO n ca, .slice bO m cb] w fun e w' => ∃ ao cap, e = .returned (.slice ao (mg (dl X n) (dl Y m)).length cap) ∧ DaysAt w' ao (ld (mg (dl X n) (dl Y m))) (mg (dl X n) (dl Y m)).length cap ∧ (∀ p, ao = some p → w.heap.size ≤ p.block ∧ p.block < w'.heap.size) ∧ Below w.heap.size w w' := by
  have KA := Lib.hid hA
  have KB := Lib.hid hB
  obtain ⟨i0, hi, hz0, hz1, hz2⟩ := info_parts infoInt13
  obtain ⟨G, hG⟩ : ∃ G, mg (dl X n) (dl Y m) = G := ⟨_, rfl⟩
  have GL : G.length ≤ n + m := by have := (len_mg (dl X n) (dl Y m)).1; rw [dl_len, dl_len, hG] at this; exact this
  rw [hG]
  have HG := Lib.hid hG
  clear hA hB hG
  go_enter Tryd.func37, Tryd.ntmps37
  go_wp2_with fail
  go_loopw [5, 6, 7] (fun v i j wr => ∃ (p q : Nat) (L : List Int), p ≤ n ∧ q ≤ m ∧ i = .int .i64 (p : Int) ∧ j = .int .i64 (q : Int) ∧ L ++ mg ((dl X n).drop p) ((dl Y m).drop q) = G ∧ wr.ownsRow w.heap.size 3 1 v L.length (il L) ∧ Below w.heap.size w wr) (fun _ i j _ => (n - (intOf i).toNat) + (m - (intOf j).toNat))
  case atStart => exact ⟨0, 0, [], by omega, by omega, rfl, rfl, by simpa using HG.out, World.ownsRow_nil _ _ _ _, Below.refl _ _⟩
  case round =>
    obtain ⟨p, q, L, p1, q1, rfl, rfl, hL, hown, hB⟩ := hrel
    have hsz : w.heap.size ≤ wr.heap.size := hB.size
    have LL : L.length ≤ 4000 := by
      have := congrArg List.length hL
      rw [List.length_append] at this
      omega
    have HL := Lib.hid hL
    have QA := Lib.hid (KA.out.below hB)
    have QB := Lib.hid (KB.out.below hB)
    clear hL
    by_cases hp : p < n
    · obtain ⟨bA, oA, rfl, da⟩ := QA.out.2 (by omega)
      have ka := da p hp
      by_cases hq : q < m
      · obtain ⟨bB, oB, rfl, db⟩ := QB.out.2 (by omega)
        have kb := db q hq
        clear da db
        have e1 : ((q : Int) == (m : Int)) = false := by rw [beq_eq_false_iff_ne]; omega
        have e2 : decide ((p : Int) < (n : Int)) = true := decide_eq_true (by omega)
        by_cases hlt : X p < Y q
        · have t1 : decide (X p < Y q) = true := by simpa using hlt
          go_wp2_with fail
          go_quiet (fail)
          go_wp2_with (first
            | (at_builtin; refine wpList_append_own _ rfl _ _ 24 rfl w.heap.size 3 i0 (.int .i64 0) 1 8 Tryd.underlying24 hi hz0 hz1 hz2 rfl (by decide) _ _ _ rfl (own_below13 (hown.alloc _) (drewN_below _)) ⟨wr.heap.size, 0, none⟩ 1 1 [.int .i64 (X p)] rfl rfl ?c1 ?c2 ?c3 ?c4 ?c5 ?_)
            | go_in)
          case c1 => exact one_news _ _ _ _
          case c2 => intro u hu; simp at hu; subst hu; rfl
          case c3 => unfold maxLen; omega
          case c4 => omega
          case c5 => simp; omega
          · intro v' w1 hown' hgrow _
            have R := grown13 hsz hown hgrow
            rw [il_snoc] at hown'
            have OW := Lib.hid hown'
            clear hgrow hown hown'
            go_wp2
            go_roundw
            case rel => exact ⟨p + 1, q, L ++ [X p], by omega, by omega, by go_num, by go_num, by rw [← HL.out, dl_drop hp, dl_drop hq, mg_lt _ _ hlt]; simp, by simpa using OW.out, hB.trans R⟩
            case measure => simp [intOf]; omega
        · have t1 : decide (X p < Y q) = false := by simpa using hlt
          by_cases heq : X p = Y q
          · have t2 : (X p == Y q) = true := by simpa using heq
            go_wp2_with fail
            go_quiet (fail)
            go_wp2_with fail
            go_quiet (fail)
            go_wp2_with (first
              | (at_builtin; refine wpList_append_own _ rfl _ _ 24 rfl w.heap.size 3 i0 (.int .i64 0) 1 8 Tryd.underlying24 hi hz0 hz1 hz2 rfl (by decide) _ _ _ rfl (own_below13 (hown.alloc _) (drewN_below _)) ⟨wr.heap.size, 0, none⟩ 1 1 [.int .i64 (Y q)] rfl rfl ?c1 ?c2 ?c3 ?c4 ?c5 ?_)
              | go_in)
            case c1 => exact one_news _ _ _ _
            case c2 => intro u hu; simp at hu; subst hu; rfl
            case c3 => unfold maxLen; omega
            case c4 => omega
            case c5 => simp; omega
            · intro v' w1 hown' hgrow _
              have R := grown13 hsz hown hgrow
              rw [il_snoc] at hown'
              have OW := Lib.hid hown'
              clear hgrow hown hown'
              go_wp2
              go_roundw
              case rel => exact ⟨p + 1, q + 1, L ++ [Y q], by omega, by omega, by go_num, by go_num, by rw [← HL.out, dl_drop hp, dl_drop hq, mg_eq _ _ heq]; simp, by simpa using OW.out, hB.trans R⟩
              case measure => simp [intOf]; omega
          · have t2 : (X p == Y q) = false := by simpa using heq
            go_wp2_with fail
            go_quiet (fail)
            go_wp2_with fail
            go_quiet (fail)
            go_wp2_with (first
              | (at_builtin; refine wpList_append_own _ rfl _ _ 24 rfl w.heap.size 3 i0 (.int .i64 0) 1 8 Tryd.underlying24 hi hz0 hz1 hz2 rfl (by decide) _ _ _ rfl (own_below13 (hown.alloc _) (drewN_below _)) ⟨wr.heap.size, 0, none⟩ 1 1 [.int .i64 (Y q)] rfl rfl ?c1 ?c2 ?c3 ?c4 ?c5 ?_)
              | go_in)
            case c1 => exact one_news _ _ _ _
            case c2 => intro u hu; simp at hu; subst hu; rfl
            case c3 => unfold maxLen; omega
            case c4 => omega
            case c5 => simp; omega
            · intro v' w1 hown' hgrow _
              have R := grown13 hsz hown hgrow
              rw [il_snoc] at hown'
              have OW := Lib.hid hown'
              clear hgrow hown hown'
              go_wp2
              go_roundw
              case rel => exact ⟨p, q + 1, L ++ [Y q], by omega, by omega, by go_num, by go_num, by rw [← HL.out, dl_drop hp, dl_drop hq, mg_gt _ _ (by omega)]; simp, by simpa using OW.out, hB.trans R⟩
              case measure => simp [intOf]; omega
      · obtain rfl : q = m := by omega
        go_wp2_with fail
        go_quiet (fail)
        go_wp2_with (first
          | (at_builtin; refine wpList_append_own _ rfl _ _ 24 rfl w.heap.size 3 i0 (.int .i64 0) 1 8 Tryd.underlying24 hi hz0 hz1 hz2 rfl (by decide) _ _ _ rfl (own_below13 (hown.alloc _) (drewN_below _)) ⟨wr.heap.size, 0, none⟩ 1 1 [.int .i64 (X p)] rfl rfl ?c1 ?c2 ?c3 ?c4 ?c5 ?_)
          | go_in)
        case c1 => exact one_news _ _ _ _
        case c2 => intro u hu; simp at hu; subst hu; rfl
        case c3 => unfold maxLen; omega
        case c4 => omega
        case c5 => simp; omega
        · intro v' w1 hown' hgrow _
          have R := grown13 hsz hown hgrow
          rw [il_snoc] at hown'
          have OW := Lib.hid hown'
          clear hgrow hown hown'
          go_wp2
          go_roundw
          case rel => exact ⟨p + 1, q, L ++ [X p], by omega, by omega, by go_num, by go_num, by rw [← HL.out, dl_drop hp, dl_end, mg_right, mg_right]; simp, by simpa using OW.out, hB.trans R⟩
          case measure => simp [intOf]; omega
    · obtain rfl : p = n := by omega
      by_cases hq : q < m
      · obtain ⟨bB, oB, rfl, db⟩ := QB.out.2 (by omega)
        have kb := db q hq
        clear db
        have e1 : ((q : Int) == (m : Int)) = false := by rw [beq_eq_false_iff_ne]; omega
        go_wp2_with fail
        go_quiet (fail)
        go_wp2_with fail
        go_quiet (fail)
        go_wp2_with (first
          | (at_builtin; refine wpList_append_own _ rfl _ _ 24 rfl w.heap.size 3 i0 (.int .i64 0) 1 8 Tryd.underlying24 hi hz0 hz1 hz2 rfl (by decide) _ _ _ rfl (own_below13 (hown.alloc _) (drewN_below _)) ⟨wr.heap.size, 0, none⟩ 1 1 [.int .i64 (Y q)] rfl rfl ?c1 ?c2 ?c3 ?c4 ?c5 ?_)
          | go_in)
        case c1 => exact one_news _ _ _ _
        case c2 => intro u hu; simp at hu; subst hu; rfl
        case c3 => unfold maxLen; omega
        case c4 => omega
        case c5 => simp; omega
        · intro v' w1 hown' hgrow _
          have R := grown13 hsz hown hgrow
          rw [il_snoc] at hown'
          have OW := Lib.hid hown'
          clear hgrow hown hown'
          go_wp2
          go_roundw
          case rel => exact ⟨p, q + 1, L ++ [Y q], by omega, by omega, by go_num, by go_num, by rw [← HL.out, dl_end, mg_nil, mg_nil, dl_drop hq]; simp, by simpa using OW.out, hB.trans R⟩
          case measure => simp [intOf]; omega
      · obtain rfl : q = m := by omega
        have e : L = G := by rw [← HL.out, dl_end, dl_end, mg_nil, List.append_nil]
        subst e
        obtain ⟨ao, ca2, rfl, hD⟩ := own_days13 rfl hown
        have hP := Lib.hid (show ∀ p, ao = some p → w.heap.size ≤ p.block ∧ p.block < wr.heap.size from fun p hp => by subst hp; exact World.ownsRow.lt hown p.block rfl)
        go_wp2
        go_ret
        exact ⟨ao, ca2, rfl, hD, hP.out, hB⟩
end Go.Proofs.YtkadodkdbopgnaaDoor
