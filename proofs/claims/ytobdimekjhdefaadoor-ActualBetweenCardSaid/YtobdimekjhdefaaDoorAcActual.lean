/- Package actual: the three ways. -/
import Derived.Test.YtobdimekjhdefaaDoorAcShown
import Derived.Test.YtobdimekjhdefaaDoorAcBetw
import Derived.Test.YtobdimekjhdefaaDoorAcSpan
import Derived.Test.YtobdimekjhdefaaDoorRShown
namespace Go.Proofs.YtobdimekjhdefaaDoor
open Go.RowKit
set_option linter.unusedVariables false
set_option linter.unusedSimpArgs false

theorem Held.err {w W : World} {fs : List Fact} {a0 a1 : Addr} (h : Held w fs W) (hm : errF a0 a1 ∈ fs) : ErrAt a0 a1 W := h.all _ hm
theorem bet_day (a b : Int) (a0 a1 : Addr) (w : World) (hL : Lens w) (hE : ErrAt a0 a1 w) (h : (a < 1 ∨ 3652059 < a) ∨ (b < 1 ∨ 3652059 < b)) : Calls Tryd.prog 24 #[.int .i64 a, .int .i64 b] w fun e' w' => (∃ s, e' = .returned (.tuple #[.agg #[.int .i64 0, .int .i64 0, .int .i64 0, .int .i64 0], .iface 70 (.agg #[.string s, .iface 127 (.pointer (some a0))])])) ∧ Below w.heap.size w w' := by
  by_cases h1 : a < 1 ∨ 3652059 < a
  · exact bet_day1 a b a0 a1 w hL hE h1
  · obtain ⟨y1, m1, d1, k1, k2⟩ := day_of a (by omega) (by omega)
    exact bet_day2 a b y1 m1 d1 a0 a1 w hL hE k1 k2 (by omega)
theorem bet_order (a b : Int) (a0 a1 : Addr) (w : World) (hL : Lens w) (hE : ErrAt a0 a1 w) (h1 : 1 ≤ a ∧ a ≤ 3652059) (h2 : 1 ≤ b ∧ b ≤ 3652059) (h : b < a) : Calls Tryd.prog 24 #[.int .i64 a, .int .i64 b] w fun e' w' => (∃ s, e' = .returned (.tuple #[.agg #[.int .i64 0, .int .i64 0, .int .i64 0, .int .i64 0], .iface 70 (.agg #[.string s, .iface 127 (.pointer (some a1))])])) ∧ Below w.heap.size w w' := by
  obtain ⟨y1, m1, d1, k1, k2⟩ := day_of a h1.1 h1.2
  obtain ⟨y2, m2, d2, k3, k4⟩ := day_of b h2.1 h2.2
  exact bet_gt a b y1 m1 d1 y2 m2 d2 a0 a1 w hL hE k1 k2 k3 k4 h

set_option maxHeartbeats 1000000 in
set_option maxRecDepth 100000 in
theorem by_ok (a b k y1 m1 d1 y2 m2 d2 p q : Int) (w : World) (hF : Facts w) (h1 : may y1 m1 d1) (e1 : nb y1 m1 d1 = a) (h2 : may y2 m2 d2) (e2 : nb y2 m2 d2 = b) (hab : a ≤ b) (k0 : 0 < k) (k1 : k ≤ 200000) (hp : rN (b - a) k = p) (hq : rD (b - a) k = q) : Calls Tryd.prog 22 #[.int .i64 a, .int .i64 b, .int .i64 k] w fun e' w' => e' = .returned (.tuple #[.agg #[.int .i64 p, .int .i64 q], .int .i64 0]) ∧ Below w.heap.size w w' := by
  obtain ⟨hL, a0, a1, hE⟩ := hF
  have H := ((Held.start w).add (f := lensF) hL).add (f := errF a0 a1) hE
  clear hL hE
  have bd1 := nb_bd _ _ _ h1
  have bd2 := nb_bd _ _ _ h2
  rw [e1] at bd1
  rw [e2] at bd2
  have N1 : Hid (rN (b - a) k = p ∧ rD (b - a) k = q ∧ rE (b - a) k = 0) := Lib.hid ⟨hp, hq, (r_yes (fit_den (b - a) k (by omega) (by omega) k0 k1)).2.2⟩
  have CB := Lib.hid (fun v hl he => bet_ok a b y1 m1 d1 y2 m2 d2 a0 a1 v hl he h1 e1 h2 e2 (by omega))
  clear h1 e1 h2 e2 hp hq
  go_enter Tryd.func22, Tryd.ntmps22
  go_wp2_with fail
  replace H := (H.pair (w.heap.size) (.int .i64 0) (.int .i64 0) 24 rfl)
  (with_reducible refine (CB.out _ (H.lens (List.Mem.tail _ (List.Mem.tail _ (List.Mem.tail _ (List.Mem.tail _ (List.Mem.tail _ (List.Mem.head _))))))) (H.err (List.Mem.tail _ (List.Mem.tail _ (List.Mem.tail _ (List.Mem.tail _ (List.Mem.head _))))))).mono ?_)
  rintro e w1 ⟨rfl, hb⟩
  replace H := H.below hb
  clear hb
  go_wp2_with fail
  replace H := (H.quad (w1.heap.size) (.int .i64 a) (.int .i64 b) (.int .i64 y1) (.int .i64 y2) 47 rfl)
  (with_reducible refine (code_nil a0 a1 _ (H.err (List.Mem.tail _ (List.Mem.tail _ (List.Mem.tail _ (List.Mem.tail _ (List.Mem.tail _ (List.Mem.tail _ (List.Mem.tail _ (List.Mem.tail _ (List.Mem.tail _ (List.Mem.tail _ (List.Mem.tail _ (List.Mem.tail _ (List.Mem.head _))))))))))))))).mono ?_)
  rintro e w2 ⟨rfl, hb⟩
  replace H := H.below hb
  clear hb
  have cd0 := H.cell (w1.heap.size) 0 (.int .i64 a) (List.Mem.head _)
  have cd1 := H.cell (w1.heap.size) 1 (.int .i64 b) (List.Mem.tail _ (List.Mem.head _))
  have cd2 := H.cell (w1.heap.size) 2 (.int .i64 y1) (List.Mem.tail _ (List.Mem.tail _ (List.Mem.head _)))
  have cd3 := H.cell (w1.heap.size) 3 (.int .i64 y2) (List.Mem.tail _ (List.Mem.tail _ (List.Mem.tail _ (List.Mem.head _))))
  have ld := H.lt (w1.heap.size) 0 (.int .i64 a) (List.Mem.head _)
  go_wp2_with fail
  clear cd0 cd1 cd2 cd3 ld
  (with_reducible refine (new_is (b - a) k p q 0 _ (by omega) (by omega) (by omega) (by omega) N1.out).mono ?_)
  rintro e w3 ⟨rfl, hb⟩
  replace H := H.below hb
  clear hb
  have cz0 := H.cell (w.heap.size) 0 (.int .i64 0) (List.Mem.tail _ (List.Mem.tail _ (List.Mem.tail _ (List.Mem.tail _ (List.Mem.tail _ (List.Mem.tail _ (List.Mem.tail _ (List.Mem.tail _ (List.Mem.head _)))))))))
  have cz1 := H.cell (w.heap.size) 1 (.int .i64 0) (List.Mem.tail _ (List.Mem.tail _ (List.Mem.tail _ (List.Mem.tail _ (List.Mem.tail _ (List.Mem.tail _ (List.Mem.tail _ (List.Mem.tail _ (List.Mem.tail _ (List.Mem.head _))))))))))
  have lz := H.lt (w.heap.size) 0 (.int .i64 0) (List.Mem.tail _ (List.Mem.tail _ (List.Mem.tail _ (List.Mem.tail _ (List.Mem.tail _ (List.Mem.tail _ (List.Mem.tail _ (List.Mem.tail _ (List.Mem.head _)))))))))
  have fz0 := H.frozen (w.heap.size) 0 (List.Mem.tail _ (List.Mem.tail _ (List.Mem.tail _ (List.Mem.tail _ (List.Mem.tail _ (List.Mem.tail _ (List.Mem.tail _ (List.Mem.tail _ (List.Mem.tail _ (List.Mem.tail _ (List.Mem.head _)))))))))))
  have fz1 := H.frozen (w.heap.size) 1 (List.Mem.tail _ (List.Mem.tail _ (List.Mem.tail _ (List.Mem.tail _ (List.Mem.tail _ (List.Mem.tail _ (List.Mem.tail _ (List.Mem.tail _ (List.Mem.tail _ (List.Mem.tail _ (List.Mem.tail _ (List.Mem.head _))))))))))))
  have HK := H.old
  clear H
  go_wp2_with fail
  exact bodyPost_ret (v := .tuple #[.agg #[.int .i64 p, .int .i64 q], .int .i64 0]) (by simp [results, Tryd.results22, go_sem, cz0, cz1, lz]) rfl ⟨rfl, by repeat (first | exact HK | refine Below.drew ?_ | refine Below.setCell ?_ (by simp <;> omega) _ | refine Below.alloc ?_ (by simp <;> omega) _)⟩

set_option maxHeartbeats 1000000 in
set_option maxRecDepth 100000 in
theorem by_day (a b k : Int) (w : World) (hF : Facts w) (h : (a < 1 ∨ 3652059 < a) ∨ (b < 1 ∨ 3652059 < b)) : Calls Tryd.prog 22 #[.int .i64 a, .int .i64 b, .int .i64 k] w fun e' w' => e' = .returned (.tuple #[.agg #[.int .i64 0, .int .i64 0], .int .i64 3]) ∧ Below w.heap.size w w' := by
  obtain ⟨hL, a0, a1, hE⟩ := hF
  have H := ((Held.start w).add (f := lensF) hL).add (f := errF a0 a1) hE
  clear hL hE
  have CB := Lib.hid (fun v hl he => bet_day a b a0 a1 v hl he h)
  clear h
  go_enter Tryd.func22, Tryd.ntmps22
  go_wp2_with fail
  replace H := (H.pair (w.heap.size) (.int .i64 0) (.int .i64 0) 24 rfl)
  (with_reducible refine (CB.out _ (H.lens (List.Mem.tail _ (List.Mem.tail _ (List.Mem.tail _ (List.Mem.tail _ (List.Mem.tail _ (List.Mem.head _))))))) (H.err (List.Mem.tail _ (List.Mem.tail _ (List.Mem.tail _ (List.Mem.tail _ (List.Mem.head _))))))).mono ?_)
  rintro e w1 ⟨⟨s, rfl⟩, hb⟩
  replace H := H.below hb
  clear hb
  go_wp2_with fail
  replace H := (H.quad (w1.heap.size) (.int .i64 0) (.int .i64 0) (.int .i64 0) (.int .i64 0) 47 rfl)
  (with_reducible refine (code_day s a0 a1 _ (H.err (List.Mem.tail _ (List.Mem.tail _ (List.Mem.tail _ (List.Mem.tail _ (List.Mem.tail _ (List.Mem.tail _ (List.Mem.tail _ (List.Mem.tail _ (List.Mem.tail _ (List.Mem.tail _ (List.Mem.tail _ (List.Mem.tail _ (List.Mem.head _))))))))))))))).mono ?_)
  rintro e w2 ⟨rfl, hb⟩
  replace H := H.below hb
  clear hb
  have cz0 := H.cell (w.heap.size) 0 (.int .i64 0) (List.Mem.tail _ (List.Mem.tail _ (List.Mem.tail _ (List.Mem.tail _ (List.Mem.tail _ (List.Mem.tail _ (List.Mem.tail _ (List.Mem.tail _ (List.Mem.head _)))))))))
  have cz1 := H.cell (w.heap.size) 1 (.int .i64 0) (List.Mem.tail _ (List.Mem.tail _ (List.Mem.tail _ (List.Mem.tail _ (List.Mem.tail _ (List.Mem.tail _ (List.Mem.tail _ (List.Mem.tail _ (List.Mem.tail _ (List.Mem.head _))))))))))
  have lz := H.lt (w.heap.size) 0 (.int .i64 0) (List.Mem.tail _ (List.Mem.tail _ (List.Mem.tail _ (List.Mem.tail _ (List.Mem.tail _ (List.Mem.tail _ (List.Mem.tail _ (List.Mem.tail _ (List.Mem.head _)))))))))
  have fz0 := H.frozen (w.heap.size) 0 (List.Mem.tail _ (List.Mem.tail _ (List.Mem.tail _ (List.Mem.tail _ (List.Mem.tail _ (List.Mem.tail _ (List.Mem.tail _ (List.Mem.tail _ (List.Mem.tail _ (List.Mem.tail _ (List.Mem.head _)))))))))))
  have fz1 := H.frozen (w.heap.size) 1 (List.Mem.tail _ (List.Mem.tail _ (List.Mem.tail _ (List.Mem.tail _ (List.Mem.tail _ (List.Mem.tail _ (List.Mem.tail _ (List.Mem.tail _ (List.Mem.tail _ (List.Mem.tail _ (List.Mem.tail _ (List.Mem.head _))))))))))))
  have HK := H.old
  clear H
  go_wp2_with fail
  exact bodyPost_ret (v := .tuple #[.agg #[.int .i64 0, .int .i64 0], .int .i64 3]) (by simp [results, Tryd.results22, go_sem, cz0, cz1, lz]) rfl ⟨rfl, by repeat (first | exact HK | refine Below.drew ?_ | refine Below.setCell ?_ (by simp <;> omega) _ | refine Below.alloc ?_ (by simp <;> omega) _)⟩

set_option maxHeartbeats 1000000 in
set_option maxRecDepth 100000 in
theorem by_order (a b k : Int) (w : World) (hF : Facts w) (h1 : 1 ≤ a ∧ a ≤ 3652059) (h2 : 1 ≤ b ∧ b ≤ 3652059) (h : b < a) : Calls Tryd.prog 22 #[.int .i64 a, .int .i64 b, .int .i64 k] w fun e' w' => e' = .returned (.tuple #[.agg #[.int .i64 0, .int .i64 0], .int .i64 4]) ∧ Below w.heap.size w w' := by
  obtain ⟨hL, a0, a1, hE⟩ := hF
  have H := ((Held.start w).add (f := lensF) hL).add (f := errF a0 a1) hE
  clear hL hE
  have CB := Lib.hid (fun v hl he => bet_order a b a0 a1 v hl he h1 h2 h)
  clear h h1 h2
  go_enter Tryd.func22, Tryd.ntmps22
  go_wp2_with fail
  replace H := (H.pair (w.heap.size) (.int .i64 0) (.int .i64 0) 24 rfl)
  (with_reducible refine (CB.out _ (H.lens (List.Mem.tail _ (List.Mem.tail _ (List.Mem.tail _ (List.Mem.tail _ (List.Mem.tail _ (List.Mem.head _))))))) (H.err (List.Mem.tail _ (List.Mem.tail _ (List.Mem.tail _ (List.Mem.tail _ (List.Mem.head _))))))).mono ?_)
  rintro e w1 ⟨⟨s, rfl⟩, hb⟩
  replace H := H.below hb
  clear hb
  go_wp2_with fail
  replace H := (H.quad (w1.heap.size) (.int .i64 0) (.int .i64 0) (.int .i64 0) (.int .i64 0) 47 rfl)
  (with_reducible refine (code_order s a0 a1 _ (H.err (List.Mem.tail _ (List.Mem.tail _ (List.Mem.tail _ (List.Mem.tail _ (List.Mem.tail _ (List.Mem.tail _ (List.Mem.tail _ (List.Mem.tail _ (List.Mem.tail _ (List.Mem.tail _ (List.Mem.tail _ (List.Mem.tail _ (List.Mem.head _))))))))))))))).mono ?_)
  rintro e w2 ⟨rfl, hb⟩
  replace H := H.below hb
  clear hb
  have cz0 := H.cell (w.heap.size) 0 (.int .i64 0) (List.Mem.tail _ (List.Mem.tail _ (List.Mem.tail _ (List.Mem.tail _ (List.Mem.tail _ (List.Mem.tail _ (List.Mem.tail _ (List.Mem.tail _ (List.Mem.head _)))))))))
  have cz1 := H.cell (w.heap.size) 1 (.int .i64 0) (List.Mem.tail _ (List.Mem.tail _ (List.Mem.tail _ (List.Mem.tail _ (List.Mem.tail _ (List.Mem.tail _ (List.Mem.tail _ (List.Mem.tail _ (List.Mem.tail _ (List.Mem.head _))))))))))
  have lz := H.lt (w.heap.size) 0 (.int .i64 0) (List.Mem.tail _ (List.Mem.tail _ (List.Mem.tail _ (List.Mem.tail _ (List.Mem.tail _ (List.Mem.tail _ (List.Mem.tail _ (List.Mem.tail _ (List.Mem.head _)))))))))
  have fz0 := H.frozen (w.heap.size) 0 (List.Mem.tail _ (List.Mem.tail _ (List.Mem.tail _ (List.Mem.tail _ (List.Mem.tail _ (List.Mem.tail _ (List.Mem.tail _ (List.Mem.tail _ (List.Mem.tail _ (List.Mem.tail _ (List.Mem.head _)))))))))))
  have fz1 := H.frozen (w.heap.size) 1 (List.Mem.tail _ (List.Mem.tail _ (List.Mem.tail _ (List.Mem.tail _ (List.Mem.tail _ (List.Mem.tail _ (List.Mem.tail _ (List.Mem.tail _ (List.Mem.tail _ (List.Mem.tail _ (List.Mem.tail _ (List.Mem.head _))))))))))))
  have HK := H.old
  clear H
  go_wp2_with fail
  exact bodyPost_ret (v := .tuple #[.agg #[.int .i64 0, .int .i64 0], .int .i64 4]) (by simp [results, Tryd.results22, go_sem, cz0, cz1, lz]) rfl ⟨rfl, by repeat (first | exact HK | refine Below.drew ?_ | refine Below.setCell ?_ (by simp <;> omega) _ | refine Below.alloc ?_ (by simp <;> omega) _)⟩

theorem by_any (a b k p q c : Int) (w : World) (hF : Facts w) (k0 : 0 < k) (k1 : k ≤ 200000) (h : AcIs aX k a b p q c) : Calls Tryd.prog 22 #[.int .i64 a, .int .i64 b, .int .i64 k] w fun e' w' => e' = .returned (.tuple #[.agg #[.int .i64 p, .int .i64 q], .int .i64 c]) ∧ Below w.heap.size w w' := by
  rcases h with ⟨y1, m1, d1, y2, m2, d2, h1, ha, h2, hb, hab, hp, hq, rfl⟩ | ⟨h, rfl, rfl, rfl⟩ | ⟨h1, h2, h, rfl, rfl, rfl⟩
  · unfold aX at hp hq
    rw [ha, hb] at hp hq
    exact by_ok a b k y1 m1 d1 y2 m2 d2 p q w hF h1 ha h2 hb hab k0 k1 hp hq
  · exact by_day a b k w hF h
  · exact by_order a b k w hF h1 h2 h

theorem by360_any (a b p q c : Int) (w : World) (hF : Facts w) (h : AcIs aX 360 a b p q c) : Calls Tryd.prog 9 #[.int .i64 a, .int .i64 b] w fun e' w' => e' = .returned (.tuple #[.agg #[.int .i64 p, .int .i64 q], .int .i64 c]) ∧ Below w.heap.size w w' := by
  have C := Lib.hid (fun v hf => by_any a b 360 p q c v hf (by decide) (by decide) h)
  have H := (Held.start w).add (f := factsF) hF
  clear h hF
  go_enter Tryd.func9, Tryd.ntmps9
  go_wp2_with fail
  replace H := (H.pair (w.heap.size) (.int .i64 0) (.int .i64 0) 24 rfl)
  (with_reducible refine (C.out _ (H.facts (List.Mem.tail _ (List.Mem.tail _ (List.Mem.tail _ (List.Mem.tail _ (List.Mem.head _))))))).mono ?_)
  rintro e w1 ⟨rfl, hb⟩
  replace H := H.below hb
  clear hb
  have cz0 := H.cell (w.heap.size) 0 (.int .i64 0) (List.Mem.head _)
  have cz1 := H.cell (w.heap.size) 1 (.int .i64 0) (List.Mem.tail _ (List.Mem.head _))
  have lz := H.lt (w.heap.size) 0 (.int .i64 0) (List.Mem.head _)
  have fz0 := H.frozen (w.heap.size) 0 (List.Mem.tail _ (List.Mem.tail _ (List.Mem.head _)))
  have fz1 := H.frozen (w.heap.size) 1 (List.Mem.tail _ (List.Mem.tail _ (List.Mem.tail _ (List.Mem.head _))))
  have HK := H.old
  clear H
  go_wp2_with fail
  exact bodyPost_ret (v := .tuple #[.agg #[.int .i64 p, .int .i64 q], .int .i64 c]) (by simp [results, Tryd.results9, go_sem, cz0, cz1, lz]) rfl ⟨rfl, by repeat (first | exact HK | refine Below.drew ?_ | refine Below.setCell ?_ (by simp <;> omega) _ | refine Below.alloc ?_ (by simp <;> omega) _)⟩

theorem by365_any (a b p q c : Int) (w : World) (hF : Facts w) (h : AcIs aX 365 a b p q c) : Calls Tryd.prog 11 #[.int .i64 a, .int .i64 b] w fun e' w' => e' = .returned (.tuple #[.agg #[.int .i64 p, .int .i64 q], .int .i64 c]) ∧ Below w.heap.size w w' := by
  have C := Lib.hid (fun v hf => by_any a b 365 p q c v hf (by decide) (by decide) h)
  have H := (Held.start w).add (f := factsF) hF
  clear h hF
  go_enter Tryd.func11, Tryd.ntmps11
  go_wp2_with fail
  replace H := (H.pair (w.heap.size) (.int .i64 0) (.int .i64 0) 24 rfl)
  (with_reducible refine (C.out _ (H.facts (List.Mem.tail _ (List.Mem.tail _ (List.Mem.tail _ (List.Mem.tail _ (List.Mem.head _))))))).mono ?_)
  rintro e w1 ⟨rfl, hb⟩
  replace H := H.below hb
  clear hb
  have cz0 := H.cell (w.heap.size) 0 (.int .i64 0) (List.Mem.head _)
  have cz1 := H.cell (w.heap.size) 1 (.int .i64 0) (List.Mem.tail _ (List.Mem.head _))
  have lz := H.lt (w.heap.size) 0 (.int .i64 0) (List.Mem.head _)
  have fz0 := H.frozen (w.heap.size) 0 (List.Mem.tail _ (List.Mem.tail _ (List.Mem.head _)))
  have fz1 := H.frozen (w.heap.size) 1 (List.Mem.tail _ (List.Mem.tail _ (List.Mem.tail _ (List.Mem.head _))))
  have HK := H.old
  clear H
  go_wp2_with fail
  exact bodyPost_ret (v := .tuple #[.agg #[.int .i64 p, .int .i64 q], .int .i64 c]) (by simp [results, Tryd.results11, go_sem, cz0, cz1, lz]) rfl ⟨rfl, by repeat (first | exact HK | refine Below.drew ?_ | refine Below.setCell ?_ (by simp <;> omega) _ | refine Below.alloc ?_ (by simp <;> omega) _)⟩

set_option maxHeartbeats 1000000 in
set_option maxRecDepth 100000 in
theorem byyears_ok (a b y1 m1 d1 y2 m2 d2 p q : Int) (w : World) (hF : Facts w) (h1 : may y1 m1 d1) (e1 : nb y1 m1 d1 = a) (h2 : may y2 m2 d2) (e2 : nb y2 m2 d2 = b) (hab : a ≤ b) (hp : rN (yX y1 m1 d1 y2 m2 d2) 133590 = p) (hq : rD (yX y1 m1 d1 y2 m2 d2) 133590 = q) : Calls Tryd.prog 13 #[.int .i64 a, .int .i64 b] w fun e' w' => e' = .returned (.tuple #[.agg #[.int .i64 p, .int .i64 q], .int .i64 0]) ∧ Below w.heap.size w w' := by
  obtain ⟨hL, a0, a1, hE⟩ := hF
  have H := ((Held.start w).add (f := lensF) hL).add (f := errF a0 a1) hE
  clear hL hE
  have bd1 := nb_bd _ _ _ h1
  have bd2 := nb_bd _ _ _ h2
  have lv := lv_le _ _ _ _ _ _ h1 h2 (by omega)
  rw [e1] at bd1 lv
  rw [e2] at bd2 lv
  obtain ⟨i, hi⟩ : ∃ i, inX y1 m1 d1 y2 m2 d2 = i := ⟨_, rfl⟩
  have ii : 0 ≤ i ∧ i ≤ b - a := by unfold inX at hi; omega
  have hY : yX y1 m1 d1 y2 m2 d2 = 365 * i + 366 * (b - a - i) := by unfold yX; rw [hi, e1, e2]
  obtain ⟨r, hr⟩ : ∃ r, b - a - i = r := ⟨_, rfl⟩
  rw [hY, hr] at hp hq
  have sm := years_sum i r (by omega) (by omega) (by omega) (by omega)
  obtain ⟨n1, HN1⟩ : ∃ x, rN i 366 = x := ⟨_, rfl⟩
  obtain ⟨k1, HD1⟩ : ∃ x, rD i 366 = x := ⟨_, rfl⟩
  obtain ⟨n2, HN2⟩ : ∃ x, rN r 365 = x := ⟨_, rfl⟩
  obtain ⟨k2, HD2⟩ : ∃ x, rD r 365 = x := ⟨_, rfl⟩
  rw [HN1, HD1, HN2, HD2, hp, hq] at sm
  have N1 : Hid (rN i 366 = n1 ∧ rD i 366 = k1 ∧ rE i 366 = 0) := Lib.hid ⟨HN1, HD1, (r_yes (fit_den i 366 (by omega) (by omega) (by decide) (by decide))).2.2⟩
  have N2 : Hid (rN r 365 = n2 ∧ rD r 365 = k2 ∧ rE r 365 = 0) := Lib.hid ⟨HN2, HD2, (r_yes (fit_den r 365 (by omega) (by omega) (by decide) (by decide))).2.2⟩
  have SM := Lib.hid sm
  have CS := Lib.hid (fun v hl => byYears_any a b y1 m1 d1 y2 m2 d2 i r v hl h1 e1 h2 e2 hab hi hr)
  have CB := Lib.hid (fun v hl he => bet_ok a b y1 m1 d1 y2 m2 d2 a0 a1 v hl he h1 e1 h2 e2 (by omega))
  have ir : (0 ≤ i ∧ i ≤ 3700000) ∧ (0 ≤ r ∧ r ≤ 3700000) := by omega
  clear h1 e1 h2 e2 hp hq sm lv hi hr hY HN1 HD1 HN2 HD2 ii
  go_enter Tryd.func13, Tryd.ntmps13
  go_wp2_with fail
  replace H := (H.pair (w.heap.size) (.int .i64 0) (.int .i64 0) 24 rfl)
  (with_reducible refine (CB.out _ (H.lens (List.Mem.tail _ (List.Mem.tail _ (List.Mem.tail _ (List.Mem.tail _ (List.Mem.tail _ (List.Mem.head _))))))) (H.err (List.Mem.tail _ (List.Mem.tail _ (List.Mem.tail _ (List.Mem.tail _ (List.Mem.head _))))))).mono ?_)
  rintro e w1 ⟨rfl, hb⟩
  replace H := H.below hb
  clear hb
  go_wp2_with fail
  replace H := (H.quad (w1.heap.size) (.int .i64 a) (.int .i64 b) (.int .i64 y1) (.int .i64 y2) 47 rfl)
  (with_reducible refine (code_nil a0 a1 _ (H.err (List.Mem.tail _ (List.Mem.tail _ (List.Mem.tail _ (List.Mem.tail _ (List.Mem.tail _ (List.Mem.tail _ (List.Mem.tail _ (List.Mem.tail _ (List.Mem.tail _ (List.Mem.tail _ (List.Mem.tail _ (List.Mem.tail _ (List.Mem.head _))))))))))))))).mono ?_)
  rintro e w2 ⟨rfl, hb⟩
  replace H := H.below hb
  clear hb
  have cd0 := H.cell (w1.heap.size) 0 (.int .i64 a) (List.Mem.head _)
  have cd1 := H.cell (w1.heap.size) 1 (.int .i64 b) (List.Mem.tail _ (List.Mem.head _))
  have cd2 := H.cell (w1.heap.size) 2 (.int .i64 y1) (List.Mem.tail _ (List.Mem.tail _ (List.Mem.head _)))
  have cd3 := H.cell (w1.heap.size) 3 (.int .i64 y2) (List.Mem.tail _ (List.Mem.tail _ (List.Mem.tail _ (List.Mem.head _))))
  have ld := H.lt (w1.heap.size) 0 (.int .i64 a) (List.Mem.head _)
  go_wp2_with fail
  clear cd0 cd1 cd2 cd3 ld
  (with_reducible refine (CS.out _ (H.lens (List.Mem.tail _ (List.Mem.tail _ (List.Mem.tail _ (List.Mem.tail _ (List.Mem.tail _ (List.Mem.tail _ (List.Mem.tail _ (List.Mem.tail _ (List.Mem.tail _ (List.Mem.tail _ (List.Mem.tail _ (List.Mem.tail _ (List.Mem.tail _ (List.Mem.head _)))))))))))))))).mono ?_)
  rintro e w3 ⟨rfl, hb⟩
  replace H := H.below hb
  clear hb
  go_wp2_with fail
  (with_reducible refine (new_is i 366 n1 k1 0 _ (by omega) (by omega) (by decide) (by decide) N1.out).mono ?_)
  rintro e w4 ⟨rfl, hb⟩
  replace H := H.below hb
  clear hb
  go_wp2_with fail
  replace H := (H.pair (w4.heap.size) (.int .i64 n1) (.int .i64 k1) 24 rfl)
  (with_reducible refine (new_is r 365 n2 k2 0 _ (by omega) (by omega) (by decide) (by decide) N2.out).mono ?_)
  rintro e w5 ⟨rfl, hb⟩
  replace H := H.below hb
  clear hb
  have cm0 := H.cell (w4.heap.size) 0 (.int .i64 n1) (List.Mem.head _)
  have cm1 := H.cell (w4.heap.size) 1 (.int .i64 k1) (List.Mem.tail _ (List.Mem.head _))
  have lm := H.lt (w4.heap.size) 0 (.int .i64 n1) (List.Mem.head _)
  go_wp2_with fail
  clear cm0 cm1 lm
  replace H := (H.pair (w5.heap.size) (.int .i64 n2) (.int .i64 k2) 24 rfl)
  (with_reducible refine (radd_is n1 k1 n2 k2 p q 0 _ SM.out.1 SM.out.2.1 SM.out.2.2).mono ?_)
  rintro e w6 ⟨rfl, hb⟩
  replace H := H.below hb
  clear hb
  have cz0 := H.cell (w.heap.size) 0 (.int .i64 0) (List.Mem.tail _ (List.Mem.tail _ (List.Mem.tail _ (List.Mem.tail _ (List.Mem.tail _ (List.Mem.tail _ (List.Mem.tail _ (List.Mem.tail _ (List.Mem.tail _ (List.Mem.tail _ (List.Mem.tail _ (List.Mem.tail _ (List.Mem.tail _ (List.Mem.tail _ (List.Mem.tail _ (List.Mem.tail _ (List.Mem.head _)))))))))))))))))
  have cz1 := H.cell (w.heap.size) 1 (.int .i64 0) (List.Mem.tail _ (List.Mem.tail _ (List.Mem.tail _ (List.Mem.tail _ (List.Mem.tail _ (List.Mem.tail _ (List.Mem.tail _ (List.Mem.tail _ (List.Mem.tail _ (List.Mem.tail _ (List.Mem.tail _ (List.Mem.tail _ (List.Mem.tail _ (List.Mem.tail _ (List.Mem.tail _ (List.Mem.tail _ (List.Mem.tail _ (List.Mem.head _))))))))))))))))))
  have lz := H.lt (w.heap.size) 0 (.int .i64 0) (List.Mem.tail _ (List.Mem.tail _ (List.Mem.tail _ (List.Mem.tail _ (List.Mem.tail _ (List.Mem.tail _ (List.Mem.tail _ (List.Mem.tail _ (List.Mem.tail _ (List.Mem.tail _ (List.Mem.tail _ (List.Mem.tail _ (List.Mem.tail _ (List.Mem.tail _ (List.Mem.tail _ (List.Mem.tail _ (List.Mem.head _)))))))))))))))))
  have fz0 := H.frozen (w.heap.size) 0 (List.Mem.tail _ (List.Mem.tail _ (List.Mem.tail _ (List.Mem.tail _ (List.Mem.tail _ (List.Mem.tail _ (List.Mem.tail _ (List.Mem.tail _ (List.Mem.tail _ (List.Mem.tail _ (List.Mem.tail _ (List.Mem.tail _ (List.Mem.tail _ (List.Mem.tail _ (List.Mem.tail _ (List.Mem.tail _ (List.Mem.tail _ (List.Mem.tail _ (List.Mem.head _)))))))))))))))))))
  have fz1 := H.frozen (w.heap.size) 1 (List.Mem.tail _ (List.Mem.tail _ (List.Mem.tail _ (List.Mem.tail _ (List.Mem.tail _ (List.Mem.tail _ (List.Mem.tail _ (List.Mem.tail _ (List.Mem.tail _ (List.Mem.tail _ (List.Mem.tail _ (List.Mem.tail _ (List.Mem.tail _ (List.Mem.tail _ (List.Mem.tail _ (List.Mem.tail _ (List.Mem.tail _ (List.Mem.tail _ (List.Mem.tail _ (List.Mem.head _))))))))))))))))))))
  have HK := H.old
  clear H
  go_wp2_with fail
  exact bodyPost_ret (v := .tuple #[.agg #[.int .i64 p, .int .i64 q], .int .i64 0]) (by simp [results, Tryd.results13, go_sem, cz0, cz1, lz]) rfl ⟨rfl, by repeat (first | exact HK | refine Below.drew ?_ | refine Below.setCell ?_ (by simp <;> omega) _ | refine Below.alloc ?_ (by simp <;> omega) _)⟩

set_option maxHeartbeats 1000000 in
set_option maxRecDepth 100000 in
theorem byyears_day (a b : Int) (w : World) (hF : Facts w) (h : (a < 1 ∨ 3652059 < a) ∨ (b < 1 ∨ 3652059 < b)) : Calls Tryd.prog 13 #[.int .i64 a, .int .i64 b] w fun e' w' => e' = .returned (.tuple #[.agg #[.int .i64 0, .int .i64 0], .int .i64 3]) ∧ Below w.heap.size w w' := by
  obtain ⟨hL, a0, a1, hE⟩ := hF
  have H := ((Held.start w).add (f := lensF) hL).add (f := errF a0 a1) hE
  clear hL hE
  have CB := Lib.hid (fun v hl he => bet_day a b a0 a1 v hl he h)
  clear h
  go_enter Tryd.func13, Tryd.ntmps13
  go_wp2_with fail
  replace H := (H.pair (w.heap.size) (.int .i64 0) (.int .i64 0) 24 rfl)
  (with_reducible refine (CB.out _ (H.lens (List.Mem.tail _ (List.Mem.tail _ (List.Mem.tail _ (List.Mem.tail _ (List.Mem.tail _ (List.Mem.head _))))))) (H.err (List.Mem.tail _ (List.Mem.tail _ (List.Mem.tail _ (List.Mem.tail _ (List.Mem.head _))))))).mono ?_)
  rintro e w1 ⟨⟨s, rfl⟩, hb⟩
  replace H := H.below hb
  clear hb
  go_wp2_with fail
  replace H := (H.quad (w1.heap.size) (.int .i64 0) (.int .i64 0) (.int .i64 0) (.int .i64 0) 47 rfl)
  (with_reducible refine (code_day s a0 a1 _ (H.err (List.Mem.tail _ (List.Mem.tail _ (List.Mem.tail _ (List.Mem.tail _ (List.Mem.tail _ (List.Mem.tail _ (List.Mem.tail _ (List.Mem.tail _ (List.Mem.tail _ (List.Mem.tail _ (List.Mem.tail _ (List.Mem.tail _ (List.Mem.head _))))))))))))))).mono ?_)
  rintro e w2 ⟨rfl, hb⟩
  replace H := H.below hb
  clear hb
  have cz0 := H.cell (w.heap.size) 0 (.int .i64 0) (List.Mem.tail _ (List.Mem.tail _ (List.Mem.tail _ (List.Mem.tail _ (List.Mem.tail _ (List.Mem.tail _ (List.Mem.tail _ (List.Mem.tail _ (List.Mem.head _)))))))))
  have cz1 := H.cell (w.heap.size) 1 (.int .i64 0) (List.Mem.tail _ (List.Mem.tail _ (List.Mem.tail _ (List.Mem.tail _ (List.Mem.tail _ (List.Mem.tail _ (List.Mem.tail _ (List.Mem.tail _ (List.Mem.tail _ (List.Mem.head _))))))))))
  have lz := H.lt (w.heap.size) 0 (.int .i64 0) (List.Mem.tail _ (List.Mem.tail _ (List.Mem.tail _ (List.Mem.tail _ (List.Mem.tail _ (List.Mem.tail _ (List.Mem.tail _ (List.Mem.tail _ (List.Mem.head _)))))))))
  have fz0 := H.frozen (w.heap.size) 0 (List.Mem.tail _ (List.Mem.tail _ (List.Mem.tail _ (List.Mem.tail _ (List.Mem.tail _ (List.Mem.tail _ (List.Mem.tail _ (List.Mem.tail _ (List.Mem.tail _ (List.Mem.tail _ (List.Mem.head _)))))))))))
  have fz1 := H.frozen (w.heap.size) 1 (List.Mem.tail _ (List.Mem.tail _ (List.Mem.tail _ (List.Mem.tail _ (List.Mem.tail _ (List.Mem.tail _ (List.Mem.tail _ (List.Mem.tail _ (List.Mem.tail _ (List.Mem.tail _ (List.Mem.tail _ (List.Mem.head _))))))))))))
  have HK := H.old
  clear H
  go_wp2_with fail
  exact bodyPost_ret (v := .tuple #[.agg #[.int .i64 0, .int .i64 0], .int .i64 3]) (by simp [results, Tryd.results13, go_sem, cz0, cz1, lz]) rfl ⟨rfl, by repeat (first | exact HK | refine Below.drew ?_ | refine Below.setCell ?_ (by simp <;> omega) _ | refine Below.alloc ?_ (by simp <;> omega) _)⟩

set_option maxHeartbeats 1000000 in
set_option maxRecDepth 100000 in
theorem byyears_order (a b : Int) (w : World) (hF : Facts w) (h1 : 1 ≤ a ∧ a ≤ 3652059) (h2 : 1 ≤ b ∧ b ≤ 3652059) (h : b < a) : Calls Tryd.prog 13 #[.int .i64 a, .int .i64 b] w fun e' w' => e' = .returned (.tuple #[.agg #[.int .i64 0, .int .i64 0], .int .i64 4]) ∧ Below w.heap.size w w' := by
  obtain ⟨hL, a0, a1, hE⟩ := hF
  have H := ((Held.start w).add (f := lensF) hL).add (f := errF a0 a1) hE
  clear hL hE
  have CB := Lib.hid (fun v hl he => bet_order a b a0 a1 v hl he h1 h2 h)
  clear h h1 h2
  go_enter Tryd.func13, Tryd.ntmps13
  go_wp2_with fail
  replace H := (H.pair (w.heap.size) (.int .i64 0) (.int .i64 0) 24 rfl)
  (with_reducible refine (CB.out _ (H.lens (List.Mem.tail _ (List.Mem.tail _ (List.Mem.tail _ (List.Mem.tail _ (List.Mem.tail _ (List.Mem.head _))))))) (H.err (List.Mem.tail _ (List.Mem.tail _ (List.Mem.tail _ (List.Mem.tail _ (List.Mem.head _))))))).mono ?_)
  rintro e w1 ⟨⟨s, rfl⟩, hb⟩
  replace H := H.below hb
  clear hb
  go_wp2_with fail
  replace H := (H.quad (w1.heap.size) (.int .i64 0) (.int .i64 0) (.int .i64 0) (.int .i64 0) 47 rfl)
  (with_reducible refine (code_order s a0 a1 _ (H.err (List.Mem.tail _ (List.Mem.tail _ (List.Mem.tail _ (List.Mem.tail _ (List.Mem.tail _ (List.Mem.tail _ (List.Mem.tail _ (List.Mem.tail _ (List.Mem.tail _ (List.Mem.tail _ (List.Mem.tail _ (List.Mem.tail _ (List.Mem.head _))))))))))))))).mono ?_)
  rintro e w2 ⟨rfl, hb⟩
  replace H := H.below hb
  clear hb
  have cz0 := H.cell (w.heap.size) 0 (.int .i64 0) (List.Mem.tail _ (List.Mem.tail _ (List.Mem.tail _ (List.Mem.tail _ (List.Mem.tail _ (List.Mem.tail _ (List.Mem.tail _ (List.Mem.tail _ (List.Mem.head _)))))))))
  have cz1 := H.cell (w.heap.size) 1 (.int .i64 0) (List.Mem.tail _ (List.Mem.tail _ (List.Mem.tail _ (List.Mem.tail _ (List.Mem.tail _ (List.Mem.tail _ (List.Mem.tail _ (List.Mem.tail _ (List.Mem.tail _ (List.Mem.head _))))))))))
  have lz := H.lt (w.heap.size) 0 (.int .i64 0) (List.Mem.tail _ (List.Mem.tail _ (List.Mem.tail _ (List.Mem.tail _ (List.Mem.tail _ (List.Mem.tail _ (List.Mem.tail _ (List.Mem.tail _ (List.Mem.head _)))))))))
  have fz0 := H.frozen (w.heap.size) 0 (List.Mem.tail _ (List.Mem.tail _ (List.Mem.tail _ (List.Mem.tail _ (List.Mem.tail _ (List.Mem.tail _ (List.Mem.tail _ (List.Mem.tail _ (List.Mem.tail _ (List.Mem.tail _ (List.Mem.head _)))))))))))
  have fz1 := H.frozen (w.heap.size) 1 (List.Mem.tail _ (List.Mem.tail _ (List.Mem.tail _ (List.Mem.tail _ (List.Mem.tail _ (List.Mem.tail _ (List.Mem.tail _ (List.Mem.tail _ (List.Mem.tail _ (List.Mem.tail _ (List.Mem.tail _ (List.Mem.head _))))))))))))
  have HK := H.old
  clear H
  go_wp2_with fail
  exact bodyPost_ret (v := .tuple #[.agg #[.int .i64 0, .int .i64 0], .int .i64 4]) (by simp [results, Tryd.results13, go_sem, cz0, cz1, lz]) rfl ⟨rfl, by repeat (first | exact HK | refine Below.drew ?_ | refine Below.setCell ?_ (by simp <;> omega) _ | refine Below.alloc ?_ (by simp <;> omega) _)⟩

theorem byyears_any (a b p q c : Int) (w : World) (hF : Facts w) (h : AcIs yX 133590 a b p q c) : Calls Tryd.prog 13 #[.int .i64 a, .int .i64 b] w fun e' w' => e' = .returned (.tuple #[.agg #[.int .i64 p, .int .i64 q], .int .i64 c]) ∧ Below w.heap.size w w' := by
  rcases h with ⟨y1, m1, d1, y2, m2, d2, h1, ha, h2, hb, hab, hp, hq, rfl⟩ | ⟨h, rfl, rfl, rfl⟩ | ⟨h1, h2, h, rfl, rfl, rfl⟩
  · exact byyears_ok a b y1 m1 d1 y2 m2 d2 p q w hF h1 ha h2 hb hab hp hq
  · exact byyears_day a b w hF h
  · exact byyears_order a b w hF h1 h2 h
theorem ways : Ways where
  by360 a b p q c w hF h := by360_any a b p q c w hF h
  by365 a b p q c w hF h := by365_any a b p q c w hF h
  byyears a b p q c w hF h := byyears_any a b p q c w hF h
end Go.Proofs.YtobdimekjhdefaaDoor
