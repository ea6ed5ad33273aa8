/- Package icma: Part. -/
import Derived.Test.YtcplfgmajbadmaaDoorIcIter
import Derived.Test.YtcplfgmajbadmaaDoorRShown
import Derived.Test.YtcplfgmajbadmaaDoorRight
namespace Go.Proofs.YtcplfgmajbadmaaDoor
open Go.RowKit Go.Shelf
set_option linter.unusedVariables false
set_option linter.unusedSimpArgs false
attribute [local go_sem] Oper.semAt_some

/-- Two fractions of which one isn't right aren't added. -/
theorem radd_wrong (an ad bn bd : Int) (w : World) (h : ¬ (rightB an ad = true ∧ rightB bn bd = true)) :
    Calls Tryd.prog 22 #[.agg #[.int .i64 an, .int .i64 ad], .agg #[.int .i64 bn, .int .i64 bd]] w fun e w' => e = .returned (.tuple #[.agg #[.int .i64 0, .int .i64 0], .int .i64 1]) ∧ Below w.heap.size w w' := by
  have H := Held.start w
  by_cases h1 : rightB an ad = true
  · have h2 : rightB bn bd = false := by cases k : rightB bn bd; rfl; exact absurd ⟨h1, k⟩ h
    have R1 := Lib.hid (fun v => right_is an ad true v h1)
    have R2 := Lib.hid (fun v => right_is bn bd false v h2)
    clear h h1 h2
    go_enter Tryd.func22, Tryd.ntmps22
    go_wp2_with fail
    replace H := ((H.pair (w.heap.size) (.int .i64 an) (.int .i64 ad) 27 rfl).pair (w.heap.size + 1) (.int .i64 bn) (.int .i64 bd) 27 (by simp)).pair (w.heap.size + 2) (.int .i64 0) (.int .i64 0) 27 (by simp)
    (with_reducible refine (R1.out _).mono ?_)
    rintro e w1 ⟨rfl, hb⟩
    replace H := H.below hb
    clear hb
    have cb0 := H.cell (w.heap.size + 1) 0 (.int .i64 bn) (by repeat (first | with_reducible exact List.mem_cons_self | with_reducible apply List.mem_cons_of_mem))
    have cb1 := H.cell (w.heap.size + 1) 1 (.int .i64 bd) (by repeat (first | with_reducible exact List.mem_cons_self | with_reducible apply List.mem_cons_of_mem))
    have lb := cell_lt cb0
    have lb0 := Nat.lt_trans (show w.heap.size < w.heap.size + 1 by omega) lb
    go_wp2_with fail
    clear cb0 cb1 lb lb0
    (with_reducible refine (R2.out _).mono ?_)
    rintro e w2 ⟨rfl, hb⟩
    replace H := H.below hb
    clear hb
    have cz0 := H.cell (w.heap.size + 2) 0 (.int .i64 0) (by repeat (first | with_reducible exact List.mem_cons_self | with_reducible apply List.mem_cons_of_mem))
    have cz1 := H.cell (w.heap.size + 2) 1 (.int .i64 0) (by repeat (first | with_reducible exact List.mem_cons_self | with_reducible apply List.mem_cons_of_mem))
    have fz0 := H.frozen (w.heap.size + 2) 0 (by repeat (first | with_reducible exact List.mem_cons_self | with_reducible apply List.mem_cons_of_mem))
    have fz1 := H.frozen (w.heap.size + 2) 1 (by repeat (first | with_reducible exact List.mem_cons_self | with_reducible apply List.mem_cons_of_mem))
    have lz := cell_lt cz0
    have lz0 := Nat.lt_trans (show w.heap.size < w.heap.size + 2 by omega) lz
    have lz1 := Nat.lt_trans (show w.heap.size + 1 < w.heap.size + 2 by omega) lz
    have HK := H.old
    clear H
    go_wp2_with fail
    exact bodyPost_ret (v := .tuple #[.agg #[.int .i64 0, .int .i64 0], .int .i64 1]) (by simp [results, Tryd.results22, go_sem, cz0, cz1, lz]) rfl ⟨rfl, by repeat (first | exact HK | refine Below.drew ?_ | refine Below.setCell ?_ (by simp <;> omega) _ | refine Below.alloc ?_ (by simp <;> omega) _)⟩
  · have h1' : rightB an ad = false := by cases k : rightB an ad; rfl; exact absurd k h1
    have R1 := Lib.hid (fun v => right_is an ad false v h1')
    clear h h1 h1'
    go_enter Tryd.func22, Tryd.ntmps22
    go_wp2_with fail
    replace H := ((H.pair (w.heap.size) (.int .i64 an) (.int .i64 ad) 27 rfl).pair (w.heap.size + 1) (.int .i64 bn) (.int .i64 bd) 27 (by simp)).pair (w.heap.size + 2) (.int .i64 0) (.int .i64 0) 27 (by simp)
    (with_reducible refine (R1.out _).mono ?_)
    rintro e w2 ⟨rfl, hb⟩
    replace H := H.below hb
    clear hb
    have cz0 := H.cell (w.heap.size + 2) 0 (.int .i64 0) (by repeat (first | with_reducible exact List.mem_cons_self | with_reducible apply List.mem_cons_of_mem))
    have cz1 := H.cell (w.heap.size + 2) 1 (.int .i64 0) (by repeat (first | with_reducible exact List.mem_cons_self | with_reducible apply List.mem_cons_of_mem))
    have fz0 := H.frozen (w.heap.size + 2) 0 (by repeat (first | with_reducible exact List.mem_cons_self | with_reducible apply List.mem_cons_of_mem))
    have fz1 := H.frozen (w.heap.size + 2) 1 (by repeat (first | with_reducible exact List.mem_cons_self | with_reducible apply List.mem_cons_of_mem))
    have lz := cell_lt cz0
    have lz0 := Nat.lt_trans (show w.heap.size < w.heap.size + 2 by omega) lz
    have lz1 := Nat.lt_trans (show w.heap.size + 1 < w.heap.size + 2 by omega) lz
    have HK := H.old
    clear H
    go_wp2_with fail
    exact bodyPost_ret (v := .tuple #[.agg #[.int .i64 0, .int .i64 0], .int .i64 1]) (by simp [results, Tryd.results22, go_sem, cz0, cz1, lz]) rfl ⟨rfl, by repeat (first | exact HK | refine Below.drew ?_ | refine Below.setCell ?_ (by simp <;> omega) _ | refine Below.alloc ?_ (by simp <;> omega) _)⟩

/-- Two fractions added, whatever they are. -/
theorem radd_tot (an ad bn bd p q c : Int) (w : World) (hp : aN an ad bn bd = p) (hq : aD an ad bn bd = q) (hc : aE an ad bn bd = c) :
    Calls Tryd.prog 22 #[.agg #[.int .i64 an, .int .i64 ad], .agg #[.int .i64 bn, .int .i64 bd]] w fun e w' => e = .returned (.tuple #[.agg #[.int .i64 p, .int .i64 q], .int .i64 c]) ∧ Below w.heap.size w w' := by
  unfold aN aD aE at *
  by_cases h : rightB an ad = true ∧ rightB bn bd = true
  · rw [if_pos h] at hp hq hc
    exact radd_is an ad bn bd p q c w h.1 h.2 ⟨hp, hq, hc⟩
  · rw [if_neg h] at hp hq hc
    subst hp hq hc
    exact radd_wrong an ad bn bd w h

set_option maxHeartbeats 2000000 in
set_option maxRecDepth 100000 in
theorem part_no (a b : Int) (ao : Option Addr) (n cap : Nat) (X : Nat → Int) (f p q c : Int) (w : World) (hF : Facts w) (hn : n ≤ 100) (hR : RowAt w ao X n cap) (hI : IcIs X n f a b p q c) (hc : c ≠ 0) :
    Calls Tryd.prog 9 #[.int .i64 a, .int .i64 b, .slice ao n cap, .int .i64 f] w fun e w' => e = .returned (.tuple #[.agg #[.int .i64 0, .int .i64 0], .int .i64 c]) ∧ Below w.heap.size w w' := by
  have H := ((Held.start w).add (f := factsF) hF).add (f := rowF ao X n cap) hR
  have C := Lib.hid (fun v h1 h2 => chk_any a b ao n cap X f p q c v h1 hn h2 hI)
  have CE : Hid ((c == 0) = false) := Lib.hid (by simpa using hc)
  have CN : Hid ((c != 0) = true) := Lib.hid (by simpa using hc)
  have CC := Lib.hid hc
  have CO := Lib.hid (fun x v w h => code_any c x v w h)
  clear hF hR hI hc
  go_enter Tryd.func9, Tryd.ntmps9
  go_wp2_with fail
  replace H := (H.lone (w.heap.size) (.int .i64 f) 3 rfl).pair (w.heap.size + 1) (.int .i64 0) (.int .i64 0) 27 (by simp)
  (with_reducible refine (C.out _ (H.facts (by repeat (first | with_reducible exact List.mem_cons_self | with_reducible apply List.mem_cons_of_mem))) (H.row (by repeat (first | with_reducible exact List.mem_cons_self | with_reducible apply List.mem_cons_of_mem)))).mono ?_)
  rintro e w1 ⟨⟨c0, -⟩ | ⟨-, v, rfl⟩, hb⟩
  · exact absurd c0 CC.out
  replace H := H.below hb
  clear hb
  go_wp2_with fail
  (with_reducible refine (CO.out _ _ _ (H.facts (by repeat (first | with_reducible exact List.mem_cons_self | with_reducible apply List.mem_cons_of_mem)))).mono ?_)
  rintro e w2 ⟨rfl, hb⟩
  replace H := H.below hb
  clear hb
  have ce := CE.out
  have cn := CN.out
  have cz0 := H.cell (w.heap.size + 1) 0 (.int .i64 0) (by repeat (first | with_reducible exact List.mem_cons_self | with_reducible apply List.mem_cons_of_mem))
  have cz1 := H.cell (w.heap.size + 1) 1 (.int .i64 0) (by repeat (first | with_reducible exact List.mem_cons_self | with_reducible apply List.mem_cons_of_mem))
  have fz0 := H.frozen (w.heap.size + 1) 0 (by repeat (first | with_reducible exact List.mem_cons_self | with_reducible apply List.mem_cons_of_mem))
  have fz1 := H.frozen (w.heap.size + 1) 1 (by repeat (first | with_reducible exact List.mem_cons_self | with_reducible apply List.mem_cons_of_mem))
  have lz := cell_lt cz0
  have lz0 := Nat.lt_trans (show w.heap.size < w.heap.size + 1 by omega) lz
  have HK := H.old
  clear H
  go_wp2_with fail
  exact bodyPost_ret (v := .tuple #[.agg #[.int .i64 0, .int .i64 0], .int .i64 c]) (by simp [results, Tryd.results9, go_sem, cz0, cz1, lz]) rfl ⟨rfl, by repeat (first | exact HK | refine Below.drew ?_ | refine Below.setCell ?_ (by simp <;> omega) _ | refine Below.alloc ?_ (by simp <;> omega) _)⟩
end Go.Proofs.YtcplfgmajbadmaaDoor
