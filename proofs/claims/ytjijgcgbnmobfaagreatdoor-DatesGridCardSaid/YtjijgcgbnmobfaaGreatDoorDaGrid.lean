/- Package dates: Grid. -/
import Derived.RangeFuncNested
import Derived.RangeFuncBound
import Derived.RangeFuncCalls
import Derived.RangeFuncLeaves
import Derived.RangeFuncBox
import Derived.Shelf.Abstract
import Derived.Shelf.RegionOpen
import Derived.OwnWalkIn
import Derived.TacticsInMore
import Derived.LoopNIn
import Derived.LoopIn
import Derived.Test.YtjijgcgbnmobfaaGreatDoorDaIter
import Derived.Test.YtjijgcgbnmobfaaGreatDoorTeCheck
import Derived.Test.YtjijgcgbnmobfaaGreatDoorShelf
namespace Go.Proofs.YtjijgcgbnmobfaaGreatDoor
open Go.RowKit Go.Shelf
set_option linter.unusedVariables false
set_option linter.unusedSimpArgs false
attribute [local go_sem] Oper.semAt_some

theorem own_form {W : World} {base n : Nat} {v : Value} {l : List Int} (h : W.ownsRow base 3 1 v n (il l)) : ∃ ao cap, v = .slice ao n cap := by
  rcases h.2 with ⟨rfl, e⟩ | ⟨g, cap, cur, rfl, _⟩
  · exact ⟨none, 0, by rw [e]⟩
  · exact ⟨_, _, rfl⟩
theorem own_ne {W : World} {base n gb cap D : Nat} {xs : List Value} (h : W.ownsRow base 3 1 (.slice (some ⟨gb, 0, none⟩) n cap) n xs) (hK : W.heap[D]? = some (.deferred (some []))) : D ≠ gb := fun e => by
  rcases h.2 with ⟨e0, _⟩ | ⟨g, c, cur, e0, _, hg, _⟩
  · cases e0
  · injection e0 with e1 _ _
    injection e1 with e1
    injection e1 with e1
    subst e1
    subst e
    rw [hK] at hg
    cases hg
open Go.Sort in
/-- A row of the call's own, turned about by the library. -/
theorem crev_any (base n cap g : Nat) (l : List Int) (w : World) (hl : l.length = n) (hn : n ≤ 2000) (h : w.ownsRow base 3 1 (.slice (some ⟨g, 0, none⟩) n cap) n (il l)) :
    Calls Tryz.prog 29 #[.slice (some ⟨g, 0, none⟩) n cap] w fun e w' => e = .returned (.tuple #[]) ∧ w'.ownsRow base 3 1 (.slice (some ⟨g, 0, none⟩) n cap) n (il l.reverse) ∧ w.grownBy w' (some g) := by
  subst hl
  have hH : Holds (Value.int .i64) w g 0 l.toArray := fun i hi => by
    have hi' : i < l.length := by simpa using hi
    refine ⟨?_, ?_⟩
    · rw [Nat.zero_add, World.ownsRow.cellAt h i (by omega)]
      simp [il, getElem!_pos, hi']
    · rw [Nat.zero_add]; exact World.ownsRow.frozenAt h i
  have := Tryz.slices_Reverse_int g 0 cap l w hH (by omega)
  refine this.mono ?_
  rintro e w' ⟨rfl, q, rfl⟩
  have hr := Lib.ownsRow_putRow (enc := Value.int .i64) (q := q) (k := l.length) (ys := l.reverse) h (by simp) (Nat.le_refl _)
  rw [List.take_of_length_le (by simp)] at hr
  refine ⟨rfl, hr, rfl, rfl, rfl, by simp [putRow, mapBlock, Sort.ahead], fun k hk hg => ?_⟩
  simp [putRow, mapBlock, Sort.ahead, Array.getElem?_modify, show g ≠ k from fun e => hg (by rw [e])]
theorem KpS.frozen {n₀ S : Nat} {A B : World} (h : KpS n₀ S A B) {b o : Nat} (hb : b < n₀) (hs : b ≠ S) : B.frozen? ⟨b, o, none⟩ = A.frozen? ⟨b, o, none⟩ := World.frozen?_of_block (a := ⟨b, o, none⟩) (h b hb hs)
theorem kps_appended {W w1 : World} {n₀ S : Nat} {v v' : Value} {tmp : Obj} (hgrow : (W.alloc tmp).grownBy w1 v.ownBlock) (hn : n₀ ≤ W.heap.size) (ho : ∀ k, v.ownBlock = some k → n₀ ≤ k) : KpS n₀ S W (w1.setCell ⟨S, 0, none⟩ v') := fun k hk hS => by
  rw [Below.heap_setCell _ _ _ k (fun e => hS e)]
  exact (hgrow.block k (by rw [World.size_alloc]; omega) (fun e => by have := ho k e.symm; omega)).trans (Below.heap_alloc W _ k (by omega))
/-- What is known between two rounds: the row that grows, and that all else is as it was. -/
def Pg (n₀ S : Nat) (w W0 : World) (pre : List Int) (W : World) : Prop := (∃ v, Boxed W S 27 v ∧ W.ownsRow n₀ 3 1 v pre.length (il pre) ∧ True) ∧ (n₀ ≤ W.heap.size ∧ KpS n₀ S W0 W) ∧ Below w.heap.size w W
theorem pg_own (n₀ S : Nat) (w W0 : World) (h : w.heap.size ≤ n₀) : OwnFrom n₀ (fun pre W => Pg n₀ S w W0 pre W) :=
  OwnFrom.and (Own.from (holdsRow_own n₀ S 27 3 1 (fun pre : List Int => pre.length) (fun pre => il pre) (fun _ _ => True)) _)
    (OwnFrom.and (fun s A B row hs hg hr => ⟨Nat.le_trans hs.1 hg.size, fun k hk hS => (hg.block k (by have := hs.1; omega) (fun e => by have := (hr k e.symm).1; omega)).trans (hs.2 k hk hS)⟩) (ownFrom_below (Nat.le_refl _) h))

theorem ap_bd (mo ra ki co st en ms : Int) (bk lg eo : Bool) (ro : Int) (hm : -100 ≤ ms ∧ ms ≤ 100) : -100 ≤ (Tm.mk mo ra ki co st en ms bk lg eo ro).ap ∧ (Tm.mk mo ra ki co st en ms bk lg eo ro).ap ≤ 100 := by
  unfold Tm.ap; dsimp only; split <;> omega
theorem steps_stops (n : Nat) (hn : 1 ≤ n) (Ba Bp Bt n₀ S : Nat) (mo ra ki co st en ms : Int) (bk lg eo : Bool) (ro : Int) (X E : Nat → Int) (m : Nat) (HWk : Hid ((Tm.mk mo ra ki co st en ms bk lg eo ro).Walk X E m)) (ap : Int) (hap : (Tm.mk mo ra ki co st en ms bk lg eo ro).ap = ap) (an : Int) (han : (Tm.mk mo ra ki co st en ms bk lg eo ro).an = an) (hab : -100 ≤ ap ∧ ap ≤ 100)
    (la : Ba < n₀ ∧ Ba ≠ S) (lp : Bp < n₀ ∧ Bp ≠ S) (lt : Bt < n₀ ∧ Bt ≠ S) (lg' : 7 < n₀ ∧ 7 ≠ S) (hlast : Bp + 1 = n₀) (w : World)
    (hL : Lens w) (ca : w.cell? ⟨Ba, 0, none⟩ = some (.int .i64 an)) (cp : w.cell? ⟨Bp, 0, none⟩ = some (.int .i64 ap)) (c0 : w.cell? ⟨Bt, 0, none⟩ = some (.int .i64 mo)) (c1 : w.cell? ⟨Bt, 1, none⟩ = some (.int .i64 ra)) (c2 : w.cell? ⟨Bt, 2, none⟩ = some (.int .i64 ki)) (c3 : w.cell? ⟨Bt, 3, none⟩ = some (.int .i64 co)) (c4 : w.cell? ⟨Bt, 4, none⟩ = some (.int .i64 st)) (c5 : w.cell? ⟨Bt, 5, none⟩ = some (.int .i64 en)) (c6 : w.cell? ⟨Bt, 6, none⟩ = some (.int .i64 ms)) (c7 : w.cell? ⟨Bt, 7, none⟩ = some (.bool bk)) (c8 : w.cell? ⟨Bt, 8, none⟩ = some (.bool lg)) (c9 : w.cell? ⟨Bt, 9, none⟩ = some (.bool eo)) (c10 : w.cell? ⟨Bt, 10, none⟩ = some (.int .i64 ro)) :
    SeqStopsK Fence.wide n Tryz.prog 41 #[.pointer (some ⟨Ba, 0, none⟩), .pointer (some ⟨Bp, 0, none⟩), .pointer (some ⟨Bt, 0, none⟩)] (fun x : Int => #[Value.int .i64 x]) (KpS n₀ S) (fun ys => ys = dl X (gl E m)) (fun _ => True) (gl E m) w := fun l J Jx W hW hJ _ hY h0 =>
  steps1_in n hn l Ba Bp Bt n₀ S mo ra ki co st en ms bk lg eo ro X E m HWk ap hap an han hab la lp lt lg' hlast J Jx W hJ hY (hL.below hW) (keep hW (cell_lt ca) ca) (keep hW (cell_lt cp) cp) (keep hW (cell_lt c0) c0) (keep hW (cell_lt c1) c1) (keep hW (cell_lt c2) c2) (keep hW (cell_lt c3) c3) (keep hW (cell_lt c4) c4) (keep hW (cell_lt c5) c5) (keep hW (cell_lt c6) c6) (keep hW (cell_lt c7) c7) (keep hW (cell_lt c8) c8) (keep hW (cell_lt c9) c9) (keep hW (cell_lt c10) c10) h0
set_option maxHeartbeats 2000000 in
theorem grid_no (mo ra ki co st en ms : Int) (bk lg eo : Bool) (ro : Int) (c : Int) (w : World) (hL : FactsT w) (hc : (Tm.mk mo ra ki co st en ms bk lg eo ro).code = c) (h0 : c ≠ 0) :
    Calls Tryz.prog 12 #[.agg #[.int .i64 mo, .int .i64 ra, .int .i64 ki, .int .i64 co, .int .i64 st, .int .i64 en, .int .i64 ms, .bool bk, .bool lg, .bool eo, .int .i64 ro]] w fun e w' => e = .returned (.tuple #[.slice none 0 0, .int .i64 c]) ∧ Below w.heap.size w w' := by
  have H := (Held.start w).add (f := factsTF) hL
  have CK := Lib.hid (fun v h => check15 mo ra ki co st en ms bk lg eo ro c v h hc)
  have CE : Hid ((c == 0) = false) := Lib.hid (by simpa using h0)
  have CN : Hid ((c != 0) = true) := Lib.hid (by simpa using h0)
  clear hL hc
  go_enter Tryz.func12, Tryz.ntmps12
  go_wp2_with fail
  replace H := H.box_11 (w.heap.size) (.int .i64 mo) (.int .i64 ra) (.int .i64 ki) (.int .i64 co) (.int .i64 st) (.int .i64 en) (.int .i64 ms) (.bool bk) (.bool lg) (.bool eo) (.int .i64 ro) 23 rfl
  replace H := H.lone (w.heap.size + 1) (.slice none 0 0) 27 (by simp)
  replace H := H.lone (w.heap.size + 2) (.int .i64 0) 28 (by simp)
  (with_reducible refine (CK.out _ (H.factsT (by repeat (first | with_reducible exact List.mem_cons_self | with_reducible apply List.mem_cons_of_mem)))).mono ?_)
  rintro e w1 ⟨rfl, hb⟩
  replace H := H.below hb
  clear hb
  have cr0 := H.cell (w.heap.size + 1) 0 (.slice none 0 0) (by repeat (first | with_reducible exact List.mem_cons_self | with_reducible apply List.mem_cons_of_mem))
  have lr := cell_lt cr0
  have cs0 := H.cell (w.heap.size + 2) 0 (.int .i64 0) (by repeat (first | with_reducible exact List.mem_cons_self | with_reducible apply List.mem_cons_of_mem))
  have ls := cell_lt cs0
  have fr := H.frozen (w.heap.size + 1) 0 (by repeat (first | with_reducible exact List.mem_cons_self | with_reducible apply List.mem_cons_of_mem))
  have fs := H.frozen (w.heap.size + 2) 0 (by repeat (first | with_reducible exact List.mem_cons_self | with_reducible apply List.mem_cons_of_mem))
  have ce := CE.out
  have cn := CN.out
  have HK := H.old
  clear H
  go_wp2_with fail
  exact bodyPost_ret (v := .tuple #[.slice none 0 0, .int .i64 c]) (by simp [results, Tryz.results12, go_sem, cr0, cs0, lr, ls]) rfl ⟨rfl, by repeat (first | exact HK | refine Below.drew ?_ | refine Below.setCell ?_ (by simp <;> omega) _ | refine Below.alloc ?_ (by simp <;> omega) _)⟩
set_option maxHeartbeats 8000000 in
set_option maxRecDepth 100000 in
theorem grid_false (mo ra ki co st en ms : Int) (lg eo : Bool) (ro : Int) (X E : Nat → Int) (m : Nat) (w : World) (hL : FactsT w) (hc : (Tm.mk mo ra ki co st en ms false lg eo ro).code = 0) (hm : -100 ≤ ms ∧ ms ≤ 100) (hWk : (Tm.mk mo ra ki co st en ms false lg eo ro).Walk X E m) :
    Calls Tryz.prog 12 #[.agg #[.int .i64 mo, .int .i64 ra, .int .i64 ki, .int .i64 co, .int .i64 st, .int .i64 en, .int .i64 ms, .bool false, .bool lg, .bool eo, .int .i64 ro]] w fun e w' => ∃ ao cap, e = .returned (.tuple #[.slice ao (gl E m) cap, .int .i64 0]) ∧ DaysAt w' ao (ld ((Tm.mk mo ra ki co st en ms false lg eo ro).grid X (gl E m))) (gl E m) cap ∧ Below w.heap.size w w' := by
  have H := (Held.start w).add (f := factsTF) hL
  have CK := Lib.hid (fun v h => check15 mo ra ki co st en ms false lg eo ro 0 v h hc)
  have SA := Lib.hid (fun v => steps_any mo ra ki co st en ms false lg eo ro v hm)
  have HWk := Lib.hid hWk
  have GB := (gl_bd E m).2
  have top := hWk.top
  have hlen := cell_lt (hL.1 0 (by omega))
  obtain ⟨K, hKe⟩ : ∃ K, gl E m = K := ⟨_, rfl⟩
  have K1 : K ≤ 1101 := by omega
  obtain ⟨j, rfl⟩ : ∃ j, K = j + 1 := ⟨K - 1, by have := (gl_bd E m).1; have := hWk.one; omega⟩
  rw [hKe]
  clear hL hc hWk
  obtain ⟨i0, hi, hz0, hz1, hz2⟩ := info_parts infoInt13
  refine (callsIn_wide (n := 6)).1 ?_
  refine callsIn_of_wp_marks Tryz.func12 rfl trivial ?_ rfl
  simp only [Tryz.ntmps12, List.size_toArray, List.length_cons, List.length_nil, Nat.reduceAdd, Nat.reduceSub, Array.replicate_succ, Array.replicate_zero, List.push_toArray, List.append_toArray, List.nil_append, List.cons_append]
  gi_wp2_with fail
  replace H := H.box_11 (w.heap.size) (.int .i64 mo) (.int .i64 ra) (.int .i64 ki) (.int .i64 co) (.int .i64 st) (.int .i64 en) (.int .i64 ms) (.bool false) (.bool lg) (.bool eo) (.int .i64 ro) 23 rfl
  replace H := H.lone (w.heap.size + 1) (.slice none 0 0) 27 (by simp)
  replace H := H.lone (w.heap.size + 2) (.int .i64 0) 28 (by simp)
  refine ⟨trivial, ?_⟩
  refine (callsIn_wide.2 (CK.out _ (H.factsT (by repeat (first | with_reducible exact List.mem_cons_self | with_reducible apply List.mem_cons_of_mem))))).mono ?_
  rintro e w1 ⟨rfl, hb⟩
  replace H := H.below hb
  clear hb
  have ct0 := H.cell (w.heap.size) 0 (.int .i64 mo) (by repeat (first | with_reducible exact List.mem_cons_self | with_reducible apply List.mem_cons_of_mem))
  have ct1 := H.cell (w.heap.size) 1 (.int .i64 ra) (by repeat (first | with_reducible exact List.mem_cons_self | with_reducible apply List.mem_cons_of_mem))
  have ct2 := H.cell (w.heap.size) 2 (.int .i64 ki) (by repeat (first | with_reducible exact List.mem_cons_self | with_reducible apply List.mem_cons_of_mem))
  have ct3 := H.cell (w.heap.size) 3 (.int .i64 co) (by repeat (first | with_reducible exact List.mem_cons_self | with_reducible apply List.mem_cons_of_mem))
  have ct4 := H.cell (w.heap.size) 4 (.int .i64 st) (by repeat (first | with_reducible exact List.mem_cons_self | with_reducible apply List.mem_cons_of_mem))
  have ct5 := H.cell (w.heap.size) 5 (.int .i64 en) (by repeat (first | with_reducible exact List.mem_cons_self | with_reducible apply List.mem_cons_of_mem))
  have ct6 := H.cell (w.heap.size) 6 (.int .i64 ms) (by repeat (first | with_reducible exact List.mem_cons_self | with_reducible apply List.mem_cons_of_mem))
  have ct7 := H.cell (w.heap.size) 7 (.bool false) (by repeat (first | with_reducible exact List.mem_cons_self | with_reducible apply List.mem_cons_of_mem))
  have ct8 := H.cell (w.heap.size) 8 (.bool lg) (by repeat (first | with_reducible exact List.mem_cons_self | with_reducible apply List.mem_cons_of_mem))
  have ct9 := H.cell (w.heap.size) 9 (.bool eo) (by repeat (first | with_reducible exact List.mem_cons_self | with_reducible apply List.mem_cons_of_mem))
  have ct10 := H.cell (w.heap.size) 10 (.int .i64 ro) (by repeat (first | with_reducible exact List.mem_cons_self | with_reducible apply List.mem_cons_of_mem))
  have lt := cell_lt ct0
  gi_wp2_with fail
  clear ct0 ct1 ct2 ct3 ct4 ct5 ct6 ct7 ct8 ct9 ct10 lt
  have hwS := cell_lt (H.cell (w.heap.size + 2) 0 (.int .i64 0) (by repeat (first | with_reducible exact List.mem_cons_self | with_reducible apply List.mem_cons_of_mem)))
  replace H := H.lone (w1.heap.size) (.slice none 0 0) 27 rfl
  have bS0 := Boxed.new w1 27 (.slice none 0 0)
  refine ⟨trivial, ?_⟩
  refine (callsIn_wide.2 (SA.out _)).mono ?_
  rintro e w3 ⟨B, rfl, hB1, hB2, H3⟩
  replace H := H.below H3.old
  have bS := (H3.old.block w1.heap.size (by rw [World.size_alloc]; omega)).trans bS0
  simp only [World.size_alloc] at hB1 H3
  obtain ⟨S, hS⟩ : ∃ S, w1.heap.size = S := ⟨_, rfl⟩
  gi_wp2_with fail
  rw [hS] at hwS hB1 H3 bS H
  (try rw [hS])
  clear bS0 hS SA CK
  have hw3 := H.old.size
  have hL3 := H.lensT (by repeat (first | with_reducible exact List.mem_cons_self | with_reducible apply List.mem_cons_of_mem))
  have hgl := hlen
  refine wpIn_rangeFunc_ownG rfl (by omega) (gf := 41) (lb := #[.pointer (some ⟨B, 0, none⟩), .pointer (some ⟨B + 1, 0, none⟩), .pointer (some ⟨S + 1, 0, none⟩)]) rfl trivial (enters_of Tryz.func41 (by kernel_rfl) rfl)
    (steps_stops (6 - 1) (by omega) B (B + 1) (S + 1) w3.heap.size S mo ra ki co st en ms false lg eo ro X E m HWk _ rfl _ rfl (ap_bd mo ra ki co st en ms false lg eo ro hm) (by omega) (by omega) (by omega) (by omega) (by omega) w3 hL3
      (H3.cell B 0 _ (by repeat (first | with_reducible exact List.mem_cons_self | with_reducible apply List.mem_cons_of_mem))) (H3.cell (B + 1) 0 _ (by repeat (first | with_reducible exact List.mem_cons_self | with_reducible apply List.mem_cons_of_mem))) (H3.cell (S + 1) 0 _ (by repeat (first | with_reducible exact List.mem_cons_self | with_reducible apply List.mem_cons_of_mem))) (H3.cell (S + 1) 1 _ (by repeat (first | with_reducible exact List.mem_cons_self | with_reducible apply List.mem_cons_of_mem))) (H3.cell (S + 1) 2 _ (by repeat (first | with_reducible exact List.mem_cons_self | with_reducible apply List.mem_cons_of_mem))) (H3.cell (S + 1) 3 _ (by repeat (first | with_reducible exact List.mem_cons_self | with_reducible apply List.mem_cons_of_mem))) (H3.cell (S + 1) 4 _ (by repeat (first | with_reducible exact List.mem_cons_self | with_reducible apply List.mem_cons_of_mem))) (H3.cell (S + 1) 5 _ (by repeat (first | with_reducible exact List.mem_cons_self | with_reducible apply List.mem_cons_of_mem))) (H3.cell (S + 1) 6 _ (by repeat (first | with_reducible exact List.mem_cons_self | with_reducible apply List.mem_cons_of_mem))) (H3.cell (S + 1) 7 _ (by repeat (first | with_reducible exact List.mem_cons_self | with_reducible apply List.mem_cons_of_mem))) (H3.cell (S + 1) 8 _ (by repeat (first | with_reducible exact List.mem_cons_self | with_reducible apply List.mem_cons_of_mem))) (H3.cell (S + 1) 9 _ (by repeat (first | with_reducible exact List.mem_cons_self | with_reducible apply List.mem_cons_of_mem))) (H3.cell (S + 1) 10 _ (by repeat (first | with_reducible exact List.mem_cons_self | with_reducible apply List.mem_cons_of_mem))))
    (fun h k => KpS.trans h k)
    (fun W l o o' hl h _ _ => KpS.of_below ((Below.refl w3.heap.size W).grown (grownBy_putObj' W l o') (by have := (Array.getElem?_eq_some_iff.1 h).1; omega) (fun k e => by cases e; omega)) (Nat.le_refl _))
    (Below.refl _ _) (fun _ => rfl)
    (fun pre W => Pg w3.heap.size S w w3 pre W)
    (fun _ _ _ => False)
    (pg_own w3.heap.size S w w3 hw3)
    (fun _ _ _ _ _ hs _ _ => hs)
    ⟨⟨_, bS, World.ownsRow_nil _ _ _ _, trivial⟩, ⟨Nat.le_refl _, KpS.refl _ _ _⟩, H.old⟩
    (fun x => { tmps := #[.agg #[.int .i64 mo, .int .i64 ra, .int .i64 ki, .int .i64 co, .int .i64 st, .int .i64 en, .int .i64 ms, .bool false, .bool lg, .bool eo, .int .i64 ro], .pointer (some ⟨w.heap.size, 0, none⟩), .pointer (some ⟨w.heap.size + 1, 0, none⟩), .pointer (some ⟨w.heap.size + 1 + 1, 0, none⟩), .int .i64 0, .pointer (some ⟨S, 0, none⟩), .int .i64 x, .agg #[.int .i64 mo, .int .i64 ra, .int .i64 ki, .int .i64 co, .int .i64 st, .int .i64 en, .int .i64 ms, .bool false, .bool lg, .bool eo, .int .i64 ro], .int .i64 0, .int .i64 0, .bool false, undef, .agg #[.int .i64 mo, .int .i64 ra, .int .i64 ki, .int .i64 co, .int .i64 st, .int .i64 en, .int .i64 ms, .bool false, .bool lg, .bool eo, .int .i64 ro], .func (.func 41) #[] #[.pointer (some ⟨B, 0, none⟩), .pointer (some ⟨B + 1, 0, none⟩), .pointer (some ⟨S + 1, 0, none⟩)], .int .i64 x, undef, undef, undef, undef, undef, undef, undef, undef, undef, undef, undef, undef], defers := [] }) ?assign ?body ?done ?stop
  case assign =>
    intro l x W K hK
    gi_wp2
    exact hK
  case body =>
    rintro l pre x W ⟨⟨v, hv, hrow, -⟩, ⟨hsz, hKp⟩, hB⟩ hlt
    obtain ⟨ao, cap, rfl⟩ := own_form hrow
    have hc := hv.cell
    rw [hKe] at hlt
    have e1 : ((pre.length : Int) == 1202) = false := by rw [beq_eq_false_iff_ne]; omega
    have HK := Lib.hid hKp
    have H0 := Lib.hid H
    have HH3 := Lib.hid H3
    clear hKp H H3 bS
    gi_wp2_with (gi_at_builtin; refine wpListIn_append_own _ rfl _ _ 27 rfl w3.heap.size 3 i0 (.int .i64 0) 1 8 Tryz.underlying27 hi hz0 hz1 hz2 rfl (by decide) _ _ _ rfl (hrow.alloc _) ⟨W.heap.size, 0, none⟩ 1 1 [.int .i64 x] rfl rfl (cell_one_new _ _ _) (by simp [Value.oneCell']) (by unfold maxLen; omega) (by omega) (by simp; omega) ?_; intro v' w1 hown' hgrow _; obtain ⟨g', cap', rfl⟩ := ownsRow_succ hown'; obtain ⟨hv1, hv2, hr2, hk2, hb2⟩ := hv.appended (n₀ := w.heap.size) (by decide) (hrow.mono hw3) (Nat.le_trans hw3 hsz) (by omega) (hown'.mono hw3) hgrow; have hc1 := hv1.cell; have hf1 := hv1.frozen)
    have hkp := kps_appended (v' := .slice (some ⟨g', 0, none⟩) (pre.length + 1) cap') (S := S) hgrow hsz (fun k e => (World.ownsRow.lt hrow k e).1)
    have hs1 := hgrow.size
    rw [World.size_alloc] at hs1
    refine ⟨hk2.from _, hkp, ⟨⟨_, hv2, ?_, trivial⟩, ⟨by simp; omega, HK.out.trans hkp⟩, hB.trans hb2⟩⟩
    have hr3 := hown'.kept (grownBy_setCell' w1 S (.slice (some ⟨g', 0, none⟩) (pre.length + 1) cap')) (.inr (hv1.not_row (by decide) hown').symm)
    simpa [il] using hr3
  case done =>
    rintro D ys W hD rfl ⟨⟨v, hv, hrow, -⟩, ⟨hsz, hKp⟩, hB⟩ hK
    rw [dl_len, hKe] at hrow
    obtain ⟨gb, cap, rfl⟩ := ownsRow_succ hrow
    have hD0 := hD
    have hne : D ≠ gb := own_ne hrow hK
    have k7 := (hKp.cell (b := w.heap.size) (o := 7) (by omega) (by omega)).trans (H.cell (w.heap.size) 7 (.bool false) (by repeat (first | with_reducible exact List.mem_cons_self | with_reducible apply List.mem_cons_of_mem)))
    have hc := hv.cell
    have kr := (hKp.cell (b := w.heap.size + 1) (o := 0) (by omega) (by omega)).trans (H.cell (w.heap.size + 1) 0 (.slice none 0 0) (by repeat (first | with_reducible exact List.mem_cons_self | with_reducible apply List.mem_cons_of_mem)))
    have fr := (hKp.frozen (b := w.heap.size + 1) (o := 0) (by omega) (by omega)).trans (H.frozen (w.heap.size + 1) 0 (by repeat (first | with_reducible exact List.mem_cons_self | with_reducible apply List.mem_cons_of_mem)))
    have ks : W.cell? ⟨w.heap.size + 1 + 1, 0, none⟩ = some (.int .i64 0) := (hKp.cell (b := w.heap.size + 2) (o := 0) (by omega) (by omega)).trans (H.cell (w.heap.size + 2) 0 (.int .i64 0) (by repeat (first | with_reducible exact List.mem_cons_self | with_reducible apply List.mem_cons_of_mem)))
    have fs : W.frozen? ⟨w.heap.size + 1 + 1, 0, none⟩ = false := (hKp.frozen (b := w.heap.size + 2) (o := 0) (by omega) (by omega)).trans (H.frozen (w.heap.size + 2) 0 (by repeat (first | with_reducible exact List.mem_cons_self | with_reducible apply List.mem_cons_of_mem)))
    have d0 : S ≠ w.heap.size + 1 := by omega
    have d1 : S ≠ w.heap.size + 1 + 1 := by omega
    have HF := Lib.hid H
    have HKp := Lib.hid hKp
    clear H hKp H3 bS
    gi_wp2
    have hK' := ((KeepsOthers.setCell W ⟨w.heap.size + 1, 0, none⟩ (.slice (some ⟨gb, 0, none⟩) (j + 1) cap)).trans (KeepsOthers.setCell _ ⟨w.heap.size + 1 + 1, 0, none⟩ (.int .i64 0))).same D _ hK rfl
    refine ⟨by simp, .inl ⟨_, _, rfl, run_takeDeferred hK', ?_⟩⟩
    have e6 : ((W.setCell ⟨w.heap.size + 1, 0, none⟩ (.slice (some ⟨gb, 0, none⟩) (j + 1) cap)).setCell ⟨w.heap.size + 1 + 1, 0, none⟩ (.int .i64 0)).cell? ⟨w.heap.size + 1, 0, none⟩ = some (.slice (some ⟨gb, 0, none⟩) (j + 1) cap) := by
      rw [World.cell?_setCell_other _ _ _ _ (by simp)]
      exact World.cell?_setCell_same' _ _ _ (by rw [kr]; rfl)
    have e7 : ((W.setCell ⟨w.heap.size + 1, 0, none⟩ (.slice (some ⟨gb, 0, none⟩) (j + 1) cap)).setCell ⟨w.heap.size + 1 + 1, 0, none⟩ (.int .i64 0)).cell? ⟨w.heap.size + 1 + 1, 0, none⟩ = some (.int .i64 0) :=
      World.cell?_setCell_same' _ _ _ (by rw [World.cell?_setCell_other _ _ _ _ (by simp), ks]; rfl)
    have k6 := cell_kept e6 (grownBy_putObj' _ D (.deferred none)) (fun r e => by cases e; exact ⟨_, hK', rfl⟩)
    have k7 := cell_kept e7 (grownBy_putObj' _ D (.deferred none)) (fun r e => by cases e; exact ⟨_, hK', rfl⟩)
    have r1 := ownsRow_setCell_below hrow (a := ⟨w.heap.size + 1, 0, none⟩) (show w.heap.size + 1 < w3.heap.size by omega) (.slice (some ⟨gb, 0, none⟩) (j + 1) cap)
    have r2 := ownsRow_setCell_below r1 (a := ⟨w.heap.size + 1 + 1, 0, none⟩) (show w.heap.size + 1 + 1 < w3.heap.size by omega) (.int .i64 0)
    have r3 := ownsRow_putObj r2 (.deferred none) hK' rfl
    obtain ⟨ao', cap', ev, hdays⟩ := own_days13 (l := dl X (j + 1)) (by simp [dl]) r3
    injection ev with ev1 ev2 ev3
    subst ev1 ev3
    refine ⟨.tuple #[.slice (some ⟨gb, 0, none⟩) (j + 1) cap, .int .i64 0], ?_, _, cap, rfl, ?_, ((hB.setCell (by simp <;> omega) _).setCell (by simp <;> omega) _).trans (belowK_b (w := w) (Nat.le_refl _) _ D _ _ (by omega) hK' rfl rfl)⟩
    · simp [results, Tryz.results12, go_sem, k6, k7]
    · simpa [Tm.grid] using hdays
  case stop =>
    rintro D c pre W _ _ h _
    exact h.elim
set_option maxHeartbeats 8000000 in
set_option maxRecDepth 100000 in
theorem grid_true (mo ra ki co st en ms : Int) (lg eo : Bool) (ro : Int) (X E : Nat → Int) (m : Nat) (w : World) (hL : FactsT w) (hc : (Tm.mk mo ra ki co st en ms true lg eo ro).code = 0) (hm : -100 ≤ ms ∧ ms ≤ 100) (hWk : (Tm.mk mo ra ki co st en ms true lg eo ro).Walk X E m) :
    Calls Tryz.prog 12 #[.agg #[.int .i64 mo, .int .i64 ra, .int .i64 ki, .int .i64 co, .int .i64 st, .int .i64 en, .int .i64 ms, .bool true, .bool lg, .bool eo, .int .i64 ro]] w fun e w' => ∃ ao cap, e = .returned (.tuple #[.slice ao (gl E m) cap, .int .i64 0]) ∧ DaysAt w' ao (ld ((Tm.mk mo ra ki co st en ms true lg eo ro).grid X (gl E m))) (gl E m) cap ∧ Below w.heap.size w w' := by
  have H := (Held.start w).add (f := factsTF) hL
  have CK := Lib.hid (fun v h => check15 mo ra ki co st en ms true lg eo ro 0 v h hc)
  have SA := Lib.hid (fun v => steps_any mo ra ki co st en ms true lg eo ro v hm)
  have HWk := Lib.hid hWk
  have GB := (gl_bd E m).2
  have top := hWk.top
  have hlen := cell_lt (hL.1 0 (by omega))
  obtain ⟨K, hKe⟩ : ∃ K, gl E m = K := ⟨_, rfl⟩
  have K1 : K ≤ 1101 := by omega
  obtain ⟨j, rfl⟩ : ∃ j, K = j + 1 := ⟨K - 1, by have := (gl_bd E m).1; have := hWk.one; omega⟩
  rw [hKe]
  clear hL hc hWk
  obtain ⟨i0, hi, hz0, hz1, hz2⟩ := info_parts infoInt13
  refine (callsIn_wide (n := 6)).1 ?_
  refine callsIn_of_wp_marks Tryz.func12 rfl trivial ?_ rfl
  simp only [Tryz.ntmps12, List.size_toArray, List.length_cons, List.length_nil, Nat.reduceAdd, Nat.reduceSub, Array.replicate_succ, Array.replicate_zero, List.push_toArray, List.append_toArray, List.nil_append, List.cons_append]
  gi_wp2_with fail
  replace H := H.box_11 (w.heap.size) (.int .i64 mo) (.int .i64 ra) (.int .i64 ki) (.int .i64 co) (.int .i64 st) (.int .i64 en) (.int .i64 ms) (.bool true) (.bool lg) (.bool eo) (.int .i64 ro) 23 rfl
  replace H := H.lone (w.heap.size + 1) (.slice none 0 0) 27 (by simp)
  replace H := H.lone (w.heap.size + 2) (.int .i64 0) 28 (by simp)
  refine ⟨trivial, ?_⟩
  refine (callsIn_wide.2 (CK.out _ (H.factsT (by repeat (first | with_reducible exact List.mem_cons_self | with_reducible apply List.mem_cons_of_mem))))).mono ?_
  rintro e w1 ⟨rfl, hb⟩
  replace H := H.below hb
  clear hb
  have ct0 := H.cell (w.heap.size) 0 (.int .i64 mo) (by repeat (first | with_reducible exact List.mem_cons_self | with_reducible apply List.mem_cons_of_mem))
  have ct1 := H.cell (w.heap.size) 1 (.int .i64 ra) (by repeat (first | with_reducible exact List.mem_cons_self | with_reducible apply List.mem_cons_of_mem))
  have ct2 := H.cell (w.heap.size) 2 (.int .i64 ki) (by repeat (first | with_reducible exact List.mem_cons_self | with_reducible apply List.mem_cons_of_mem))
  have ct3 := H.cell (w.heap.size) 3 (.int .i64 co) (by repeat (first | with_reducible exact List.mem_cons_self | with_reducible apply List.mem_cons_of_mem))
  have ct4 := H.cell (w.heap.size) 4 (.int .i64 st) (by repeat (first | with_reducible exact List.mem_cons_self | with_reducible apply List.mem_cons_of_mem))
  have ct5 := H.cell (w.heap.size) 5 (.int .i64 en) (by repeat (first | with_reducible exact List.mem_cons_self | with_reducible apply List.mem_cons_of_mem))
  have ct6 := H.cell (w.heap.size) 6 (.int .i64 ms) (by repeat (first | with_reducible exact List.mem_cons_self | with_reducible apply List.mem_cons_of_mem))
  have ct7 := H.cell (w.heap.size) 7 (.bool true) (by repeat (first | with_reducible exact List.mem_cons_self | with_reducible apply List.mem_cons_of_mem))
  have ct8 := H.cell (w.heap.size) 8 (.bool lg) (by repeat (first | with_reducible exact List.mem_cons_self | with_reducible apply List.mem_cons_of_mem))
  have ct9 := H.cell (w.heap.size) 9 (.bool eo) (by repeat (first | with_reducible exact List.mem_cons_self | with_reducible apply List.mem_cons_of_mem))
  have ct10 := H.cell (w.heap.size) 10 (.int .i64 ro) (by repeat (first | with_reducible exact List.mem_cons_self | with_reducible apply List.mem_cons_of_mem))
  have lt := cell_lt ct0
  gi_wp2_with fail
  clear ct0 ct1 ct2 ct3 ct4 ct5 ct6 ct7 ct8 ct9 ct10 lt
  have hwS := cell_lt (H.cell (w.heap.size + 2) 0 (.int .i64 0) (by repeat (first | with_reducible exact List.mem_cons_self | with_reducible apply List.mem_cons_of_mem)))
  replace H := H.lone (w1.heap.size) (.slice none 0 0) 27 rfl
  have bS0 := Boxed.new w1 27 (.slice none 0 0)
  refine ⟨trivial, ?_⟩
  refine (callsIn_wide.2 (SA.out _)).mono ?_
  rintro e w3 ⟨B, rfl, hB1, hB2, H3⟩
  replace H := H.below H3.old
  have bS := (H3.old.block w1.heap.size (by rw [World.size_alloc]; omega)).trans bS0
  simp only [World.size_alloc] at hB1 H3
  obtain ⟨S, hS⟩ : ∃ S, w1.heap.size = S := ⟨_, rfl⟩
  gi_wp2_with fail
  rw [hS] at hwS hB1 H3 bS H
  (try rw [hS])
  clear bS0 hS SA CK
  have hw3 := H.old.size
  have hL3 := H.lensT (by repeat (first | with_reducible exact List.mem_cons_self | with_reducible apply List.mem_cons_of_mem))
  have hgl := hlen
  refine wpIn_rangeFunc_ownG rfl (by omega) (gf := 41) (lb := #[.pointer (some ⟨B, 0, none⟩), .pointer (some ⟨B + 1, 0, none⟩), .pointer (some ⟨S + 1, 0, none⟩)]) rfl trivial (enters_of Tryz.func41 (by kernel_rfl) rfl)
    (steps_stops (6 - 1) (by omega) B (B + 1) (S + 1) w3.heap.size S mo ra ki co st en ms true lg eo ro X E m HWk _ rfl _ rfl (ap_bd mo ra ki co st en ms true lg eo ro hm) (by omega) (by omega) (by omega) (by omega) (by omega) w3 hL3
      (H3.cell B 0 _ (by repeat (first | with_reducible exact List.mem_cons_self | with_reducible apply List.mem_cons_of_mem))) (H3.cell (B + 1) 0 _ (by repeat (first | with_reducible exact List.mem_cons_self | with_reducible apply List.mem_cons_of_mem))) (H3.cell (S + 1) 0 _ (by repeat (first | with_reducible exact List.mem_cons_self | with_reducible apply List.mem_cons_of_mem))) (H3.cell (S + 1) 1 _ (by repeat (first | with_reducible exact List.mem_cons_self | with_reducible apply List.mem_cons_of_mem))) (H3.cell (S + 1) 2 _ (by repeat (first | with_reducible exact List.mem_cons_self | with_reducible apply List.mem_cons_of_mem))) (H3.cell (S + 1) 3 _ (by repeat (first | with_reducible exact List.mem_cons_self | with_reducible apply List.mem_cons_of_mem))) (H3.cell (S + 1) 4 _ (by repeat (first | with_reducible exact List.mem_cons_self | with_reducible apply List.mem_cons_of_mem))) (H3.cell (S + 1) 5 _ (by repeat (first | with_reducible exact List.mem_cons_self | with_reducible apply List.mem_cons_of_mem))) (H3.cell (S + 1) 6 _ (by repeat (first | with_reducible exact List.mem_cons_self | with_reducible apply List.mem_cons_of_mem))) (H3.cell (S + 1) 7 _ (by repeat (first | with_reducible exact List.mem_cons_self | with_reducible apply List.mem_cons_of_mem))) (H3.cell (S + 1) 8 _ (by repeat (first | with_reducible exact List.mem_cons_self | with_reducible apply List.mem_cons_of_mem))) (H3.cell (S + 1) 9 _ (by repeat (first | with_reducible exact List.mem_cons_self | with_reducible apply List.mem_cons_of_mem))) (H3.cell (S + 1) 10 _ (by repeat (first | with_reducible exact List.mem_cons_self | with_reducible apply List.mem_cons_of_mem))))
    (fun h k => KpS.trans h k)
    (fun W l o o' hl h _ _ => KpS.of_below ((Below.refl w3.heap.size W).grown (grownBy_putObj' W l o') (by have := (Array.getElem?_eq_some_iff.1 h).1; omega) (fun k e => by cases e; omega)) (Nat.le_refl _))
    (Below.refl _ _) (fun _ => rfl)
    (fun pre W => Pg w3.heap.size S w w3 pre W)
    (fun _ _ _ => False)
    (pg_own w3.heap.size S w w3 hw3)
    (fun _ _ _ _ _ hs _ _ => hs)
    ⟨⟨_, bS, World.ownsRow_nil _ _ _ _, trivial⟩, ⟨Nat.le_refl _, KpS.refl _ _ _⟩, H.old⟩
    (fun x => { tmps := #[.agg #[.int .i64 mo, .int .i64 ra, .int .i64 ki, .int .i64 co, .int .i64 st, .int .i64 en, .int .i64 ms, .bool true, .bool lg, .bool eo, .int .i64 ro], .pointer (some ⟨w.heap.size, 0, none⟩), .pointer (some ⟨w.heap.size + 1, 0, none⟩), .pointer (some ⟨w.heap.size + 1 + 1, 0, none⟩), .int .i64 0, .pointer (some ⟨S, 0, none⟩), .int .i64 x, .agg #[.int .i64 mo, .int .i64 ra, .int .i64 ki, .int .i64 co, .int .i64 st, .int .i64 en, .int .i64 ms, .bool true, .bool lg, .bool eo, .int .i64 ro], .int .i64 0, .int .i64 0, .bool false, undef, .agg #[.int .i64 mo, .int .i64 ra, .int .i64 ki, .int .i64 co, .int .i64 st, .int .i64 en, .int .i64 ms, .bool true, .bool lg, .bool eo, .int .i64 ro], .func (.func 41) #[] #[.pointer (some ⟨B, 0, none⟩), .pointer (some ⟨B + 1, 0, none⟩), .pointer (some ⟨S + 1, 0, none⟩)], .int .i64 x, undef, undef, undef, undef, undef, undef, undef, undef, undef, undef, undef, undef], defers := [] }) ?assign ?body ?done ?stop
  case assign =>
    intro l x W K hK
    gi_wp2
    exact hK
  case body =>
    rintro l pre x W ⟨⟨v, hv, hrow, -⟩, ⟨hsz, hKp⟩, hB⟩ hlt
    obtain ⟨ao, cap, rfl⟩ := own_form hrow
    have hc := hv.cell
    rw [hKe] at hlt
    have e1 : ((pre.length : Int) == 1202) = false := by rw [beq_eq_false_iff_ne]; omega
    have HK := Lib.hid hKp
    have H0 := Lib.hid H
    have HH3 := Lib.hid H3
    clear hKp H H3 bS
    gi_wp2_with (gi_at_builtin; refine wpListIn_append_own _ rfl _ _ 27 rfl w3.heap.size 3 i0 (.int .i64 0) 1 8 Tryz.underlying27 hi hz0 hz1 hz2 rfl (by decide) _ _ _ rfl (hrow.alloc _) ⟨W.heap.size, 0, none⟩ 1 1 [.int .i64 x] rfl rfl (cell_one_new _ _ _) (by simp [Value.oneCell']) (by unfold maxLen; omega) (by omega) (by simp; omega) ?_; intro v' w1 hown' hgrow _; obtain ⟨g', cap', rfl⟩ := ownsRow_succ hown'; obtain ⟨hv1, hv2, hr2, hk2, hb2⟩ := hv.appended (n₀ := w.heap.size) (by decide) (hrow.mono hw3) (Nat.le_trans hw3 hsz) (by omega) (hown'.mono hw3) hgrow; have hc1 := hv1.cell; have hf1 := hv1.frozen)
    have hkp := kps_appended (v' := .slice (some ⟨g', 0, none⟩) (pre.length + 1) cap') (S := S) hgrow hsz (fun k e => (World.ownsRow.lt hrow k e).1)
    have hs1 := hgrow.size
    rw [World.size_alloc] at hs1
    refine ⟨hk2.from _, hkp, ⟨⟨_, hv2, ?_, trivial⟩, ⟨by simp; omega, HK.out.trans hkp⟩, hB.trans hb2⟩⟩
    have hr3 := hown'.kept (grownBy_setCell' w1 S (.slice (some ⟨g', 0, none⟩) (pre.length + 1) cap')) (.inr (hv1.not_row (by decide) hown').symm)
    simpa [il] using hr3
  case done =>
    rintro D ys W hD rfl ⟨⟨v, hv, hrow, -⟩, ⟨hsz, hKp⟩, hB⟩ hK
    rw [dl_len, hKe] at hrow
    obtain ⟨gb, cap, rfl⟩ := ownsRow_succ hrow
    have hD0 := hD
    have hne : D ≠ gb := own_ne hrow hK
    have k7 := (hKp.cell (b := w.heap.size) (o := 7) (by omega) (by omega)).trans (H.cell (w.heap.size) 7 (.bool true) (by repeat (first | with_reducible exact List.mem_cons_self | with_reducible apply List.mem_cons_of_mem)))
    have hc0 := hv.cell
    have HF := Lib.hid H
    have HKp := Lib.hid hKp
    clear H hKp
    gi_wp2_with fail
    refine ⟨trivial, ?_⟩
    refine (callsIn_wide.2 (crev_any w3.heap.size (j + 1) cap gb (dl X (j + 1)) W (by simp [dl]) (by omega) hrow)).mono ?_
    rintro e w5 ⟨rfl, hrow5, hg5⟩
    have gb3 := (World.ownsRow.lt hrow gb rfl)
    have hv5 := hv.kept hg5 (hv.not_row (by decide) hrow)
    have hK5 : w5.heap[D]? = some (.deferred (some [])) := (hg5.block D (Array.getElem?_eq_some_iff.1 hK).1 (fun e => hne (Option.some.inj e))).trans hK
    have hKp5 : KpS w3.heap.size S w3 w5 := fun k hk hS => (hg5.block k (by omega) (fun e => by have := Option.some.inj e; omega)).trans (HKp.out k hk hS)
    have hB5 := hB.grown hg5 (Nat.le_trans hw3 hsz) (fun k e => by have := Option.some.inj e; omega)
    have H := HF.out
    have hsz5 := Nat.le_trans hsz hg5.size
    clear hv hK HKp hB hrow hc0 k7 HF hsz hg5
    have hv := hv5
    have hK := hK5
    have hKp := hKp5
    have hB := hB5
    have hrow := hrow5
    clear hv5 hK5 hKp5 hB5 hrow5
    have hc := hv.cell
    have kr := (hKp.cell (b := w.heap.size + 1) (o := 0) (by omega) (by omega)).trans (H.cell (w.heap.size + 1) 0 (.slice none 0 0) (by repeat (first | with_reducible exact List.mem_cons_self | with_reducible apply List.mem_cons_of_mem)))
    have fr := (hKp.frozen (b := w.heap.size + 1) (o := 0) (by omega) (by omega)).trans (H.frozen (w.heap.size + 1) 0 (by repeat (first | with_reducible exact List.mem_cons_self | with_reducible apply List.mem_cons_of_mem)))
    have ks : w5.cell? ⟨w.heap.size + 1 + 1, 0, none⟩ = some (.int .i64 0) := (hKp.cell (b := w.heap.size + 2) (o := 0) (by omega) (by omega)).trans (H.cell (w.heap.size + 2) 0 (.int .i64 0) (by repeat (first | with_reducible exact List.mem_cons_self | with_reducible apply List.mem_cons_of_mem)))
    have fs : w5.frozen? ⟨w.heap.size + 1 + 1, 0, none⟩ = false := (hKp.frozen (b := w.heap.size + 2) (o := 0) (by omega) (by omega)).trans (H.frozen (w.heap.size + 2) 0 (by repeat (first | with_reducible exact List.mem_cons_self | with_reducible apply List.mem_cons_of_mem)))
    have d0 : S ≠ w.heap.size + 1 := by omega
    have d1 : S ≠ w.heap.size + 1 + 1 := by omega
    have HF := Lib.hid H
    have HKp := Lib.hid hKp
    clear H hKp H3 bS
    gi_wp2
    have hK' := ((KeepsOthers.setCell w5 ⟨w.heap.size + 1, 0, none⟩ (.slice (some ⟨gb, 0, none⟩) (j + 1) cap)).trans (KeepsOthers.setCell _ ⟨w.heap.size + 1 + 1, 0, none⟩ (.int .i64 0))).same D _ hK rfl
    refine ⟨by simp, .inl ⟨_, _, rfl, run_takeDeferred hK', ?_⟩⟩
    have e6 : ((w5.setCell ⟨w.heap.size + 1, 0, none⟩ (.slice (some ⟨gb, 0, none⟩) (j + 1) cap)).setCell ⟨w.heap.size + 1 + 1, 0, none⟩ (.int .i64 0)).cell? ⟨w.heap.size + 1, 0, none⟩ = some (.slice (some ⟨gb, 0, none⟩) (j + 1) cap) := by
      rw [World.cell?_setCell_other _ _ _ _ (by simp)]
      exact World.cell?_setCell_same' _ _ _ (by rw [kr]; rfl)
    have e7 : ((w5.setCell ⟨w.heap.size + 1, 0, none⟩ (.slice (some ⟨gb, 0, none⟩) (j + 1) cap)).setCell ⟨w.heap.size + 1 + 1, 0, none⟩ (.int .i64 0)).cell? ⟨w.heap.size + 1 + 1, 0, none⟩ = some (.int .i64 0) :=
      World.cell?_setCell_same' _ _ _ (by rw [World.cell?_setCell_other _ _ _ _ (by simp), ks]; rfl)
    have k6 := cell_kept e6 (grownBy_putObj' _ D (.deferred none)) (fun r e => by cases e; exact ⟨_, hK', rfl⟩)
    have k7 := cell_kept e7 (grownBy_putObj' _ D (.deferred none)) (fun r e => by cases e; exact ⟨_, hK', rfl⟩)
    have r1 := ownsRow_setCell_below hrow (a := ⟨w.heap.size + 1, 0, none⟩) (show w.heap.size + 1 < w3.heap.size by omega) (.slice (some ⟨gb, 0, none⟩) (j + 1) cap)
    have r2 := ownsRow_setCell_below r1 (a := ⟨w.heap.size + 1 + 1, 0, none⟩) (show w.heap.size + 1 + 1 < w3.heap.size by omega) (.int .i64 0)
    have r3 := ownsRow_putObj r2 (.deferred none) hK' rfl
    obtain ⟨ao', cap', ev, hdays⟩ := own_days13 (l := (dl X (j + 1)).reverse) (by simp [dl]) r3
    injection ev with ev1 ev2 ev3
    subst ev1 ev3
    refine ⟨.tuple #[.slice (some ⟨gb, 0, none⟩) (j + 1) cap, .int .i64 0], ?_, _, cap, rfl, ?_, ((hB.setCell (by simp <;> omega) _).setCell (by simp <;> omega) _).trans (belowK_b (w := w) (Nat.le_refl _) _ D _ _ (by omega) hK' rfl rfl)⟩
    · simp [results, Tryz.results12, go_sem, k6, k7]
    · simpa [Tm.grid] using hdays
  case stop =>
    rintro D c pre W _ _ h _
    exact h.elim
end Go.Proofs.YtjijgcgbnmobfaaGreatDoor
