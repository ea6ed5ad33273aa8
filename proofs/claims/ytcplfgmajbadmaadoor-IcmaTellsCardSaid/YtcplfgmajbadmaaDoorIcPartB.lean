/- Package icma: Part, where there is one. -/
import Derived.Test.YtcplfgmajbadmaaDoorIcPart
import Derived.Test.YtcplfgmajbadmaaDoorRShown
import Derived.Test.YtcplfgmajbadmaaDoorRight
namespace Go.Proofs.YtcplfgmajbadmaaDoor
open Go.RowKit Go.Shelf
set_option linter.unusedVariables false
set_option linter.unusedSimpArgs false
attribute [local go_sem] Oper.semAt_some

theorem keepsOthers_below {W W' : World} (h : Below W.heap.size W W') : KeepsOthers W W' :=
  ⟨h.size, fun k o hk _ => (h.block k (Array.getElem?_eq_some_iff.1 hk).1).trans hk⟩

/-- What the loop's own cells hold between two rounds. -/
def Pin (f : Int) (S F0 Br : Nat) (v : Value) (s : Int × Int) (W : World) : Prop :=
  (W.cell? ⟨S, 0, none⟩ = some (.int .i64 s.1) ∧ W.cell? ⟨S, 1, none⟩ = some (.int .i64 s.2)) ∧ (W.frozen? ⟨S, 0, none⟩ = false ∧ W.frozen? ⟨S, 1, none⟩ = false) ∧ W.cell? ⟨F0, 0, none⟩ = some (.int .i64 f) ∧
  (W.cell? ⟨F0 + 1, 0, none⟩ = some (.int .i64 0) ∧ W.cell? ⟨F0 + 1, 1, none⟩ = some (.int .i64 0)) ∧ (W.frozen? ⟨F0 + 1, 0, none⟩ = false ∧ W.frozen? ⟨F0 + 1, 1, none⟩ = false) ∧ W.cell? ⟨Br, 0, none⟩ = some v
theorem pin_own (f : Int) (S F0 Br : Nat) (v : Value) : Own (fun (pre : List Sh) W => Pin f S F0 Br v (sumSh f pre) W) := fun s A B row hs hg hr => by
  obtain ⟨⟨h1, h2⟩, ⟨h3, h4⟩, h5, ⟨h6, h7⟩, ⟨h8, h9⟩, h10⟩ := hs
  exact ⟨⟨cell_kept h1 hg hr, cell_kept h2 hg hr⟩, ⟨(frozen_kept h1 hg hr).trans h3, (frozen_kept h2 hg hr).trans h4⟩, cell_kept h5 hg hr, ⟨cell_kept h6 hg hr, cell_kept h7 hg hr⟩, ⟨(frozen_kept h6 hg hr).trans h8, (frozen_kept h7 hg hr).trans h9⟩, cell_kept h10 hg hr⟩

set_option maxHeartbeats 4000000 in
set_option maxRecDepth 100000 in
theorem part_yes (a b : Int) (B off m cap : Nat) (X : Nat → Int) (f p q : Int) (w : World) (hF : Facts w) (hm1 : 1 ≤ m) (hm : m < 100) (hcap : m + 1 ≤ cap) (hC : Cells w B off X (m + 1)) (hI : IcIs X (m + 1) f a b p q 0)
    (hX : Rising X (m + 1)) (ha : 1 ≤ a ∧ a ≤ 3652059) (hb : 1 ≤ b ∧ b ≤ 3652059) (hab : a ≤ b) (hf : 1 ≤ f ∧ f ≤ 12) (hs : sumSh f (sh X a b m) = (p, q)) :
    Calls Tryd.prog 9 #[.int .i64 a, .int .i64 b, .slice (some ⟨B, off, none⟩) (m + 1) cap, .int .i64 f] w fun e w' => e = .returned (.tuple #[.agg #[.int .i64 p, .int .i64 q], .int .i64 0]) ∧ Below w.heap.size w w' := by
  have hBw := hC.lt (by omega)
  have H := ((Held.start w).add (f := factsF) hF).add (f := cellsF B off X (m + 1)) hC
  have H0 := H
  have C := Lib.hid (fun v h1 (h2 : Cells v B off X (m + 1)) => chk_any a b (some ⟨B, off, none⟩) (m + 1) cap X f p q 0 v h1 (by omega) ⟨hcap, fun _ => ⟨B, off, rfl, h2⟩⟩ hI)
  have CO := Lib.hid (fun w => code_nil w)
  have ST := Lib.hid (fun Br Bb Ba n₀ S l1 l2 l3 l4 w hn c1 c2 c3 hC => shares_stops (4 - 1) (by omega) Br Bb Ba n₀ S B off m cap X a b hX hm1 hm hcap ha hb hab l1 l2 l3 l4 w hn c1 c2 c3 hC)
  have SH := Lib.hid (fun w => shares_any a b (some ⟨B, off, none⟩) (m + 1) cap w)
  have HS := Lib.hid hs
  have SI := Lib.hid (sum_in f)
  clear hF hC hI hs hX H
  have H := H0
  clear H0
  refine (callsIn_wide (n := 4)).1 ?_
  refine callsIn_of_wp_marks Tryd.func9 rfl trivial ?_ rfl
  simp only [Tryd.ntmps9, List.size_toArray, List.length_cons, List.length_nil, Nat.reduceAdd, Nat.reduceSub, Array.replicate_succ, Array.replicate_zero, List.push_toArray, List.append_toArray, List.nil_append, List.cons_append]
  gi_wp2_with fail
  replace H := (H.lone (w.heap.size) (.int .i64 f) 3 rfl).pair (w.heap.size + 1) (.int .i64 0) (.int .i64 0) 27 (by simp)
  refine ⟨trivial, ?_⟩
  refine (callsIn_wide.2 (C.out _ (H.facts (by repeat (first | with_reducible exact List.mem_cons_self | with_reducible apply List.mem_cons_of_mem))) (H.cells (by repeat (first | with_reducible exact List.mem_cons_self | with_reducible apply List.mem_cons_of_mem))))).mono ?_
  rintro e w1 ⟨⟨-, rfl⟩ | ⟨c0, -⟩, hb⟩
  rotate_left
  · exact absurd rfl c0
  replace H := H.below hb
  clear hb
  gi_wp2_with fail
  refine ⟨trivial, ?_⟩
  refine (callsIn_wide.2 (CO.out _)).mono ?_
  rintro e w2 ⟨rfl, hb⟩
  replace H := H.below hb
  clear hb
  have cf := H.cell (w.heap.size) 0 (.int .i64 f) (by repeat (first | with_reducible exact List.mem_cons_self | with_reducible apply List.mem_cons_of_mem))
  gi_wp2_with fail
  refine ⟨trivial, ?_⟩
  refine (callsIn_wide.2 (SH.out _)).mono ?_
  rintro e w3 ⟨rfl, rfl⟩
  gi_wp2_with fail
  have HH := ((((H.pair (w2.heap.size) (.int .i64 0) (.int .i64 1) 27 rfl).lone (w2.heap.size + 1) (.int .i64 a) 3 (by simp)).lone (w2.heap.size + 1 + 1) (.int .i64 b) 3 (by simp)).lone (w2.heap.size + 1 + 2) (.slice (some ⟨B, off, none⟩) (m + 1) cap) 22 (by simp))
  obtain ⟨S, hS⟩ : ∃ S, w2.heap.size = S := ⟨_, rfl⟩
  have hSw := H.old.size
  have lz := H.lt (w.heap.size + 1) 0 (.int .i64 0) (by repeat (first | with_reducible exact List.mem_cons_self | with_reducible apply List.mem_cons_of_mem))
  rw [hS] at HH lz hSw ⊢
  obtain ⟨W0, hW0⟩ : ∃ W0, (((w2.alloc (.cells #[.int .i64 0, .int .i64 1] 27)).alloc (.cells #[.int .i64 a] 3)).alloc (.cells #[.int .i64 b] 3)).alloc (.cells #[.slice (some ⟨B, off, none⟩) (m + 1) cap] 22) = W0 := ⟨_, rfl⟩
  have hsz : W0.heap.size = S + 4 := by rw [← hW0]; simp [hS]
  rw [hW0] at HH ⊢
  clear hW0 hS H cf
  have hx : ∀ pre (W : World), Pin f S w.heap.size (S + 1 + 2) (.slice (some ⟨B, off, none⟩) (m + 1) cap) (sumSh f pre) W ∧ Below w.heap.size w W → S + 4 ≤ W.heap.size := fun pre W h => by
    have := cell_lt h.1.2.2.2.2.2
    omega
  refine wpIn_rangeFunc_ownG rfl (by omega) (gf := 32) (lb := #[.pointer (some ⟨S + 1 + 2, 0, none⟩), .pointer (some ⟨S + 1 + 1, 0, none⟩), .pointer (some ⟨S + 1, 0, none⟩)]) rfl trivial (enters_of Tryd.func32 (by kernel_rfl) rfl)
    (ST.out (S + 1 + 2) (S + 1 + 1) (S + 1) (S + 4) S (by omega) (by omega) (by omega) (by omega) W0 (by omega) (HH.cell _ _ _ (by repeat (first | with_reducible exact List.mem_cons_self | with_reducible apply List.mem_cons_of_mem))) (HH.cell _ _ _ (by repeat (first | with_reducible exact List.mem_cons_self | with_reducible apply List.mem_cons_of_mem))) (HH.cell _ _ _ (by repeat (first | with_reducible exact List.mem_cons_self | with_reducible apply List.mem_cons_of_mem))) (HH.cells (by repeat (first | with_reducible exact List.mem_cons_self | with_reducible apply List.mem_cons_of_mem)))) (fun h k => h.trans k)
    (fun W l o o' hl h _ _ => KpS.of_below ((Below.refl (S + 4) W).grown (grownBy_putObj' W l o') (by have := (Array.getElem?_eq_some_iff.1 h).1; omega) (fun k e => by cases e; omega)) (Nat.le_refl _))
    (Below.refl _ _) (fun _ => rfl)
    (fun pre W => Pin f S w.heap.size (S + 1 + 2) (.slice (some ⟨B, off, none⟩) (m + 1) cap) (sumSh f pre) W ∧ Below w.heap.size w W)
    (fun _ _ _ => False)
    (OwnFrom.and (Own.from (pin_own _ _ _ _ _) _) (ownFrom_below (Nat.le_refl _) (by omega)))
    (fun _ _ _ _ _ hs _ _ => hs)
    ⟨⟨⟨show W0.cell? ⟨S, 0, none⟩ = some (.int .i64 0) from HH.cell S 0 (.int .i64 0) (by repeat (first | with_reducible exact List.mem_cons_self | with_reducible apply List.mem_cons_of_mem)), show W0.cell? ⟨S, 1, none⟩ = some (.int .i64 1) from HH.cell S 1 (.int .i64 1) (by repeat (first | with_reducible exact List.mem_cons_self | with_reducible apply List.mem_cons_of_mem))⟩, ⟨HH.frozen _ _ (by repeat (first | with_reducible exact List.mem_cons_self | with_reducible apply List.mem_cons_of_mem)), HH.frozen _ _ (by repeat (first | with_reducible exact List.mem_cons_self | with_reducible apply List.mem_cons_of_mem))⟩, HH.cell _ _ _ (by repeat (first | with_reducible exact List.mem_cons_self | with_reducible apply List.mem_cons_of_mem)), ⟨HH.cell _ _ _ (by repeat (first | with_reducible exact List.mem_cons_self | with_reducible apply List.mem_cons_of_mem)), HH.cell _ _ _ (by repeat (first | with_reducible exact List.mem_cons_self | with_reducible apply List.mem_cons_of_mem))⟩, ⟨HH.frozen _ _ (by repeat (first | with_reducible exact List.mem_cons_self | with_reducible apply List.mem_cons_of_mem)), HH.frozen _ _ (by repeat (first | with_reducible exact List.mem_cons_self | with_reducible apply List.mem_cons_of_mem))⟩, HH.cell _ _ _ (by repeat (first | with_reducible exact List.mem_cons_self | with_reducible apply List.mem_cons_of_mem))⟩, HH.old⟩
    (fun x => { tmps := #[.int .i64 a, .int .i64 b, .slice (some ⟨B, off, none⟩) (m + 1) cap, .int .i64 f, undef, undef, undef, .pointer (some ⟨w.heap.size, 0, none⟩), .pointer (some ⟨w.heap.size + 1, 0, none⟩), .int .i64 0, .int .i64 0, .pointer (some ⟨S, 0, none⟩), .int .i64 x.1.1, .int .i64 x.1.2, undef, undef, .int .i64 a, .int .i64 b, .slice (some ⟨B, off, none⟩) (m + 1) cap, .int .i64 f, .nilIface, .int .i64 0, .int .i64 0, .bool false, undef, undef, .agg #[.int .i64 0, .int .i64 1], .int .i64 a, .int .i64 b, .slice (some ⟨B, off, none⟩) (m + 1) cap, .func (.func 32) #[] #[.pointer (some ⟨S + 1 + 2, 0, none⟩), .pointer (some ⟨S + 1 + 1, 0, none⟩), .pointer (some ⟨S + 1, 0, none⟩)], .int .i64 x.1.1, .int .i64 x.1.2, undef, undef, undef, undef, undef, undef, undef, undef, undef, undef, undef, undef, undef, undef, undef], defers := [] }) ?assign ?body ?done ?stop
  case assign =>
    intro l x W K hK
    gi_wp2
    exact hK
  case body =>
    rintro l pre x W ⟨hP, hB⟩ _
    have hz := hx pre W ⟨hP, hB⟩
    have bd := share_bd f x hf
    have xb := x.2
    obtain ⟨p1, P1⟩ : ∃ p1, Hid (rN x.1.1 (f * x.1.2) = p1) := ⟨_, Lib.hid rfl⟩
    obtain ⟨q1, Q1⟩ : ∃ q1, Hid (rD x.1.1 (f * x.1.2) = q1) := ⟨_, Lib.hid rfl⟩
    obtain ⟨e1, E1⟩ : ∃ e1, Hid (rE x.1.1 (f * x.1.2) = e1) := ⟨_, Lib.hid rfl⟩
    obtain ⟨s0, S0⟩ : ∃ s0, Hid ((sumSh f pre).1 = s0) := ⟨_, Lib.hid rfl⟩
    obtain ⟨s1, S1⟩ : ∃ s1, Hid ((sumSh f pre).2 = s1) := ⟨_, Lib.hid rfl⟩
    obtain ⟨p2, P2⟩ : ∃ p2, Hid (aN s0 s1 p1 q1 = p2) := ⟨_, Lib.hid rfl⟩
    obtain ⟨q2, Q2⟩ : ∃ q2, Hid (aD s0 s1 p1 q1 = q2) := ⟨_, Lib.hid rfl⟩
    obtain ⟨e2, E2⟩ : ∃ e2, Hid (aE s0 s1 p1 q1 = e2) := ⟨_, Lib.hid rfl⟩
    have FIN : Hid ((sumSh f (pre ++ [x])).1 = p2 ∧ (sumSh f (pre ++ [x])).2 = q2) := Lib.hid (by rw [sumSh_snoc]; unfold add1; dsimp only; rw [P1.out, Q1.out, S0.out, S1.out, P2.out, Q2.out]; exact ⟨rfl, rfl⟩)
    have NW := Lib.hid (fun v => new_is x.1.1 (f * x.1.2) p1 q1 e1 v (by omega) (by omega) (by omega) (by omega) ⟨P1.out, Q1.out, E1.out⟩)
    have AD := Lib.hid (fun v => radd_tot s0 s1 p1 q1 p2 q2 e2 v P2.out Q2.out E2.out)
    obtain ⟨⟨h1, h2⟩, ⟨h3, h4⟩, h5, ⟨h6, h7⟩, ⟨h8, h9⟩, h10⟩ := hP
    rw [S0.out] at h1
    rw [S1.out] at h2
    have G := ((((((((((Held.start W).add (f := .cell S 0 _) h1).add (f := .cell S 1 _) h2).add (f := .free S 0) ⟨cell_lt h1, h3⟩).add (f := .free S 1) ⟨cell_lt h1, h4⟩).add (f := .cell w.heap.size 0 _) h5).add (f := .cell (w.heap.size + 1) 0 _) h6).add (f := .cell (w.heap.size + 1) 1 _) h7).add (f := .free (w.heap.size + 1) 0) ⟨cell_lt h6, h8⟩).add (f := .free (w.heap.size + 1) 1) ⟨cell_lt h6, h9⟩).add (f := .cell (S + 1 + 2) 0 _) h10
    clear h1 h2 h3 h4 h6 h7 h8 h9 h10 hx HH ST SH CO SI HS P1 Q1 E1 S0 S1 P2 Q2 E2
    gi_wp2_with fail
    refine ⟨trivial, ?_⟩
    refine (CallsIn.inRound l (callsIn_wide.2 (NW.out _))).mono ?_
    rintro e w3 ⟨rfl, hb⟩
    replace G := G.below hb
    clear hb
    have cs0 := G.cell S 0 (.int .i64 s0) (by repeat (first | with_reducible exact List.mem_cons_self | with_reducible apply List.mem_cons_of_mem))
    have cs1 := G.cell S 1 (.int .i64 s1) (by repeat (first | with_reducible exact List.mem_cons_self | with_reducible apply List.mem_cons_of_mem))
    have ls := cell_lt cs0
    gi_wp2_with fail
    clear cs0 cs1 ls
    replace G := G.pair w3.heap.size (.int .i64 p1) (.int .i64 q1) 27 rfl
    refine ⟨trivial, ?_⟩
    refine (CallsIn.inRound l (callsIn_wide.2 (AD.out _))).mono ?_
    rintro e w4 ⟨rfl, hb⟩
    replace G := G.below hb
    clear hb
    have cs0 := G.cell S 0 (.int .i64 s0) (by repeat (first | with_reducible exact List.mem_cons_self | with_reducible apply List.mem_cons_of_mem))
    have cs1 := G.cell S 1 (.int .i64 s1) (by repeat (first | with_reducible exact List.mem_cons_self | with_reducible apply List.mem_cons_of_mem))
    have fs0 := G.frozen S 0 (by repeat (first | with_reducible exact List.mem_cons_self | with_reducible apply List.mem_cons_of_mem))
    have fs1 := G.frozen S 1 (by repeat (first | with_reducible exact List.mem_cons_self | with_reducible apply List.mem_cons_of_mem))
    gi_wp2_with fail
    have d0 : S ≠ w.heap.size := by omega
    have d1 : S ≠ w.heap.size + 1 := by omega
    have d2 : S ≠ S + 1 + 2 := by omega
    have GO := G.old
    refine ⟨(((keepsOthers_below GO).trans (KeepsOthers.setCell _ _ _)).trans (KeepsOthers.setCell _ _ _)).from _, fun k hk hkS => ?_, ⟨⟨?_, ?_⟩, ⟨?_, ?_⟩, ?_, ⟨?_, ?_⟩, ⟨?_, ?_⟩, ?_⟩, ?_⟩
    · rw [Below.heap_setCell _ _ _ _ (fun h => hkS h), Below.heap_setCell _ _ _ _ (fun h => hkS h)]
      exact GO.block k (by omega)
    · rw [FIN.out.1, World.cell?_setCell_other _ _ _ _ (by simp)]
      exact World.cell?_setCell_same' _ _ _ (by rw [cs0]; rfl)
    · rw [FIN.out.2]
      exact World.cell?_setCell_same' _ _ _ (by rw [World.cell?_setCell_other _ _ _ _ (by simp), cs1]; rfl)
    · rw [World.frozen?_setCell, World.frozen?_setCell]; exact fs0
    · rw [World.frozen?_setCell, World.frozen?_setCell]; exact fs1
    · rw [World.cell?_setCell_far _ _ _ _ d0, World.cell?_setCell_far _ _ _ _ d0]; exact G.cell _ _ _ (by repeat (first | with_reducible exact List.mem_cons_self | with_reducible apply List.mem_cons_of_mem))
    · rw [World.cell?_setCell_far _ _ _ _ d1, World.cell?_setCell_far _ _ _ _ d1]; exact G.cell _ _ _ (by repeat (first | with_reducible exact List.mem_cons_self | with_reducible apply List.mem_cons_of_mem))
    · rw [World.cell?_setCell_far _ _ _ _ d1, World.cell?_setCell_far _ _ _ _ d1]; exact G.cell _ _ _ (by repeat (first | with_reducible exact List.mem_cons_self | with_reducible apply List.mem_cons_of_mem))
    · rw [World.frozen?_setCell, World.frozen?_setCell]; exact G.frozen _ _ (by repeat (first | with_reducible exact List.mem_cons_self | with_reducible apply List.mem_cons_of_mem))
    · rw [World.frozen?_setCell, World.frozen?_setCell]; exact G.frozen _ _ (by repeat (first | with_reducible exact List.mem_cons_self | with_reducible apply List.mem_cons_of_mem))
    · rw [World.cell?_setCell_far _ _ _ _ d2, World.cell?_setCell_far _ _ _ _ d2]; exact G.cell _ _ _ (by repeat (first | with_reducible exact List.mem_cons_self | with_reducible apply List.mem_cons_of_mem))
    · exact ((hB.trans (GO.mono hB.size)).setCell (by simp; omega) _).setCell (by simp; omega) _
  case done =>
    rintro D ys W hD rfl ⟨hP, hB⟩ hK
    rw [HS.out] at hP
    obtain ⟨⟨h1, h2⟩, ⟨h3, h4⟩, h5, ⟨h6, h7⟩, ⟨h8, h9⟩, h10⟩ := hP
    have l6 := cell_lt h6
    gi_wp2
    have hK' := ((KeepsOthers.setCell W ⟨w.heap.size + 1, 0, none⟩ (.int .i64 p)).trans (KeepsOthers.setCell _ ⟨w.heap.size + 1, 1, none⟩ (.int .i64 q))).same D _ hK rfl
    refine ⟨by simp, .inl ⟨_, _, rfl, run_takeDeferred hK', ?_⟩⟩
    have e6 : ((W.setCell ⟨w.heap.size + 1, 0, none⟩ (.int .i64 p)).setCell ⟨w.heap.size + 1, 1, none⟩ (.int .i64 q)).cell? ⟨w.heap.size + 1, 0, none⟩ = some (.int .i64 p) := by
      rw [World.cell?_setCell_other _ _ _ _ (by simp)]
      exact World.cell?_setCell_same' _ _ _ (by rw [h6]; rfl)
    have e7 : ((W.setCell ⟨w.heap.size + 1, 0, none⟩ (.int .i64 p)).setCell ⟨w.heap.size + 1, 1, none⟩ (.int .i64 q)).cell? ⟨w.heap.size + 1, 1, none⟩ = some (.int .i64 q) :=
      World.cell?_setCell_same' _ _ _ (by rw [World.cell?_setCell_other _ _ _ _ (by simp), h7]; rfl)
    have k6 := cell_kept e6 (grownBy_putObj' _ D (.deferred none)) (fun r e => by cases e; exact ⟨_, hK', rfl⟩)
    have k7 := cell_kept e7 (grownBy_putObj' _ D (.deferred none)) (fun r e => by cases e; exact ⟨_, hK', rfl⟩)
    refine ⟨.tuple #[.agg #[.int .i64 p, .int .i64 q], .int .i64 0], ?_, rfl, ((hB.setCell (by simp) _).setCell (by simp) _).trans (belowK_b (w := w) (Nat.le_refl _) _ D _ _ (by omega) hK' rfl rfl)⟩
    simp [results, Tryd.results9, go_sem, k6, k7]
  case stop =>
    rintro D c pre W _ _ h _
    exact h.elim
end Go.Proofs.YtcplfgmajbadmaaDoor
