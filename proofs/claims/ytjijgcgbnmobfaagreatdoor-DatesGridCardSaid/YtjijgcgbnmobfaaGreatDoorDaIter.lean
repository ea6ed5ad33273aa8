/- Package dates: steps, and the contract of what tells them one by one. -/
import Derived.RangeFuncNested
import Derived.RangeFuncBound
import Derived.RangeFuncCalls
import Derived.RangeFuncLeaves
import Derived.RangeFuncBox
import Derived.Shelf.Abstract
import Derived.Shelf.RegionOpen
import Derived.OwnWalkIn
import Derived.TacticsInMore
import Derived.LoopNIn
import Derived.LoopIn
import Derived.Test.YtjijgcgbnmobfaaGreatDoorDaSmall
import Derived.Test.YtjijgcgbnmobfaaGreatDoorMoMonths
namespace Go.Proofs.YtjijgcgbnmobfaaGreatDoor
open Go.RowKit Go.Shelf
set_option linter.unusedVariables false
set_option linter.unusedSimpArgs false
attribute [local go_sem] Oper.semAt_some

theorem steps_any (mo ra ki co st en ms : Int) (bk lg eo : Bool) (ro : Int) (w : World) (hm : -100 ≤ ms ∧ ms ≤ 100) :
    Calls Tryz.prog 28 #[.agg #[.int .i64 mo, .int .i64 ra, .int .i64 ki, .int .i64 co, .int .i64 st, .int .i64 en, .int .i64 ms, .bool bk, .bool lg, .bool eo, .int .i64 ro]] w fun e w' => ∃ B, e = .returned (.func (.func 41) #[] #[.pointer (some ⟨B, 0, none⟩), .pointer (some ⟨B + 1, 0, none⟩), .pointer (some ⟨w.heap.size, 0, none⟩)]) ∧ w.heap.size < B ∧ w'.heap.size = B + 2 ∧ Held w (.cell (B + 1) 0 (.int .i64 (Tm.mk mo ra ki co st en ms bk lg eo ro).ap) :: .free (B + 1) 0 :: .cell B 0 (.int .i64 (Tm.mk mo ra ki co st en ms bk lg eo ro).an) :: .free B 0 :: .cell (w.heap.size) 0 (.int .i64 mo) :: .cell (w.heap.size) 1 (.int .i64 ra) :: .cell (w.heap.size) 2 (.int .i64 ki) :: .cell (w.heap.size) 3 (.int .i64 co) :: .cell (w.heap.size) 4 (.int .i64 st) :: .cell (w.heap.size) 5 (.int .i64 en) :: .cell (w.heap.size) 6 (.int .i64 ms) :: .cell (w.heap.size) 7 (.bool bk) :: .cell (w.heap.size) 8 (.bool lg) :: .cell (w.heap.size) 9 (.bool eo) :: .cell (w.heap.size) 10 (.int .i64 ro) :: .free (w.heap.size) 0 :: .free (w.heap.size) 1 :: .free (w.heap.size) 2 :: .free (w.heap.size) 3 :: .free (w.heap.size) 4 :: .free (w.heap.size) 5 :: .free (w.heap.size) 6 :: .free (w.heap.size) 7 :: .free (w.heap.size) 8 :: .free (w.heap.size) 9 :: .free (w.heap.size) 10 :: []) w' := by
  have H := Held.start w
  have EN := Lib.hid (fun v => ends_any mo ra ki co st en ms bk lg eo ro v hm)
  go_enter Tryz.func28, Tryz.ntmps28
  go_wp2_with fail
  replace H := H.box_11 (w.heap.size) (.int .i64 mo) (.int .i64 ra) (.int .i64 ki) (.int .i64 co) (.int .i64 st) (.int .i64 en) (.int .i64 ms) (.bool bk) (.bool lg) (.bool eo) (.int .i64 ro) 23 rfl
  (with_reducible refine (EN.out _).mono ?_)
  rintro e w1 ⟨rfl, hb⟩
  have hlt := hb.size
  rw [World.size_alloc] at hlt
  replace hlt : w.heap.size < w1.heap.size := hlt
  replace H := H.below hb
  clear hb
  have ct0 := H.cell (w.heap.size) 0 (.int .i64 mo) (by repeat (first | with_reducible exact List.mem_cons_self | with_reducible apply List.mem_cons_of_mem))
  have ct1 := H.cell (w.heap.size) 1 (.int .i64 ra) (by repeat (first | with_reducible exact List.mem_cons_self | with_reducible apply List.mem_cons_of_mem))
  have ct2 := H.cell (w.heap.size) 2 (.int .i64 ki) (by repeat (first | with_reducible exact List.mem_cons_self | with_reducible apply List.mem_cons_of_mem))
  have ct3 := H.cell (w.heap.size) 3 (.int .i64 co) (by repeat (first | with_reducible exact List.mem_cons_self | with_reducible apply List.mem_cons_of_mem))
  have ct4 := H.cell (w.heap.size) 4 (.int .i64 st) (by repeat (first | with_reducible exact List.mem_cons_self | with_reducible apply List.mem_cons_of_mem))
  have ct5 := H.cell (w.heap.size) 5 (.int .i64 en) (by repeat (first | with_reducible exact List.mem_cons_self | with_reducible apply List.mem_cons_of_mem))
  have ct6 := H.cell (w.heap.size) 6 (.int .i64 ms) (by repeat (first | with_reducible exact List.mem_cons_self | with_reducible apply List.mem_cons_of_mem))
  have ct7 := H.cell (w.heap.size) 7 (.bool bk) (by repeat (first | with_reducible exact List.mem_cons_self | with_reducible apply List.mem_cons_of_mem))
  have ct8 := H.cell (w.heap.size) 8 (.bool lg) (by repeat (first | with_reducible exact List.mem_cons_self | with_reducible apply List.mem_cons_of_mem))
  have ct9 := H.cell (w.heap.size) 9 (.bool eo) (by repeat (first | with_reducible exact List.mem_cons_self | with_reducible apply List.mem_cons_of_mem))
  have ct10 := H.cell (w.heap.size) 10 (.int .i64 ro) (by repeat (first | with_reducible exact List.mem_cons_self | with_reducible apply List.mem_cons_of_mem))
  have lt := cell_lt ct0
  go_wp2_with fail
  clear ct0 ct1 ct2 ct3 ct4 ct5 ct6 ct7 ct8 ct9 ct10 lt
  replace H := H.lone (w1.heap.size) (.int .i64 (Tm.mk mo ra ki co st en ms bk lg eo ro).an) 3 rfl
  replace H := H.lone (w1.heap.size + 1) (.int .i64 (Tm.mk mo ra ki co st en ms bk lg eo ro).ap) 3 (by simp)
  go_ret
  exact ⟨w1.heap.size, rfl, hlt, by simp, H⟩
/-- All blocks below n₀ but one are as they were. -/
def KpS (n₀ S : Nat) (W W' : World) : Prop := ∀ k, k < n₀ → k ≠ S → W'.heap[k]? = W.heap[k]?
theorem KpS.refl (n₀ S : Nat) (W : World) : KpS n₀ S W W := fun _ _ _ => rfl
theorem KpS.trans {n₀ S : Nat} {A B C : World} (h : KpS n₀ S A B) (k : KpS n₀ S B C) : KpS n₀ S A C := fun i hi hs => (k i hi hs).trans (h i hi hs)
theorem KpS.cell {n₀ S : Nat} {A B : World} (h : KpS n₀ S A B) {b o : Nat} (hb : b < n₀) (hs : b ≠ S) : B.cell? ⟨b, o, none⟩ = A.cell? ⟨b, o, none⟩ := World.cell?_of_block (a := ⟨b, o, none⟩) (h b hb hs)
theorem KpS.of_below {n₀ S B : Nat} {W W' : World} (h : Below B W W') (hn : n₀ ≤ B) : KpS n₀ S W W' := fun k hk _ => h.block k (by omega)
theorem grown_below {W W' : World} (h : Below W.heap.size W W') : W.grownBy W' none := ⟨h.os, h.tape, h.output, h.size, fun k hk _ => h.block k hk⟩
theorem abides_below {β : Type} {B : Nat} {J : β → World → Prop} (hJ : AbidesFrom B J) {s : β} {W W' : World} (h : J s W) (hb : Below W.heap.size W W') : J s W' := hJ s W W' none h (grown_below hb) (fun r e => by cases e)
theorem KpS.below {n₀ S : Nat} {W W' W'' : World} (h : KpS n₀ S W W') (hb : Below W'.heap.size W' W'') (hn : n₀ ≤ W'.heap.size) : KpS n₀ S W W'' := h.trans (KpS.of_below hb hn)
theorem Lens.kps {n₀ S : Nat} {W W' : World} (h : Lens W) (hk : KpS n₀ S W W') (hg : 7 < n₀ ∧ 7 ≠ S) : Lens W' := fun i hi => (hk.cell (o := i) hg.1 hg.2).trans (h i hi)
theorem mul_bd {k a : Int} (h0 : 0 ≤ k) (h1 : k ≤ 1100) (h2 : -100 ≤ a) (h3 : a ≤ 100) : -110000 ≤ k * a ∧ k * a ≤ 110000 := by
  have x := Int.mul_le_mul_of_nonneg_left h3 h0
  have y := Int.mul_le_mul_of_nonneg_left h2 h0
  omega

set_option maxRecDepth 100000 in
set_option maxHeartbeats 8000000 in
theorem steps1_in (n : Nat) (hn : 1 ≤ n) (l Ba Bp Bt n₀ S : Nat) (mo ra ki co st en ms : Int) (bk lg eo : Bool) (ro : Int) (X E : Nat → Int) (m : Nat) (HWk : Hid ((Tm.mk mo ra ki co st en ms bk lg eo ro).Walk X E m)) (ap : Int) (hap : (Tm.mk mo ra ki co st en ms bk lg eo ro).ap = ap) (an : Int) (han : (Tm.mk mo ra ki co st en ms bk lg eo ro).an = an) (hab : -100 ≤ ap ∧ ap ≤ 100)
    (la : Ba < n₀ ∧ Ba ≠ S) (lp : Bp < n₀ ∧ Bp ≠ S) (lt : Bt < n₀ ∧ Bt ≠ S) (lg' : 7 < n₀ ∧ 7 ≠ S) (hlast : Bp + 1 = n₀) (J Jx : List Int → World → Prop) (W : World) (hJ : AbidesFrom W.heap.size J)
    (hY : ∀ pre x W, J pre W → pre.length < gl E m → YieldAt Fence.wide (n - 1) Tryz.prog l #[.int .i64 x] W fun e W' =>
      (e = .returned (.bool true) ∧ J (pre ++ [x]) W' ∧ KpS n₀ S W W') ∨ (e = .returned (.bool false) ∧ Jx (pre ++ [x]) W'))
    (hL : Lens W) (ca : W.cell? ⟨Ba, 0, none⟩ = some (.int .i64 an)) (cp : W.cell? ⟨Bp, 0, none⟩ = some (.int .i64 ap)) (c0 : W.cell? ⟨Bt, 0, none⟩ = some (.int .i64 mo)) (c1 : W.cell? ⟨Bt, 1, none⟩ = some (.int .i64 ra)) (c2 : W.cell? ⟨Bt, 2, none⟩ = some (.int .i64 ki)) (c3 : W.cell? ⟨Bt, 3, none⟩ = some (.int .i64 co)) (c4 : W.cell? ⟨Bt, 4, none⟩ = some (.int .i64 st)) (c5 : W.cell? ⟨Bt, 5, none⟩ = some (.int .i64 en)) (c6 : W.cell? ⟨Bt, 6, none⟩ = some (.int .i64 ms)) (c7 : W.cell? ⟨Bt, 7, none⟩ = some (.bool bk)) (c8 : W.cell? ⟨Bt, 8, none⟩ = some (.bool lg)) (c9 : W.cell? ⟨Bt, 9, none⟩ = some (.bool eo)) (c10 : W.cell? ⟨Bt, 10, none⟩ = some (.int .i64 ro)) (h0 : J [] W) :
    CallsIn Fence.wide n Tryz.prog 41 #[.func (.yield l) #[] #[], .pointer (some ⟨Ba, 0, none⟩), .pointer (some ⟨Bp, 0, none⟩), .pointer (some ⟨Bt, 0, none⟩)] W fun e W' => (∃ v, e = .returned v) ∧
      ((∃ ys, ys = dl X (gl E m) ∧ J ys W') ∨ (∃ pre, True ∧ Jx pre W')) := by
  have HMv := Lib.hid (fun (k : Nat) (q : Int) (v : World) (hq : (k : Int) * ap = q) (h : Lens v) => move_any an q (X k) (E k) eo v h (by rw [← hq, ← hap, ← han]; exact HWk.out.mv k))
  have HBt := Lib.hid (fun x b v h => between_any mo ra ki co st en ms bk lg eo ro x b v h)
  have one := HWk.out.one
  have top := HWk.out.top
  have HL := Lib.hid hL
  have HY := Lib.hid hY
  clear hL hap han hY
  refine callsIn_of_wp Tryz.func41 rfl trivial ?_ rfl
  simp only [Tryz.ntmps41, List.size_toArray, List.length_cons, List.length_nil, Nat.reduceAdd, Nat.reduceSub, Array.replicate_succ, Array.replicate_zero, List.push_toArray, List.append_toArray, List.nil_append, List.cons_append]
  gi_wp2
  gi_loopw [5, 6, 7] (fun kk dd ee wr => ∃ k : Nat, k ≤ m ∧ kk = .int .i64 k ∧ J (dl X k) wr ∧ KpS n₀ S W wr) (fun kk _ _ _ => m - (intOf kk).toNat)
  case atStart => exact ⟨0, Nat.zero_le _, rfl, h0, KpS.refl _ _ _⟩
  case round =>
    obtain ⟨k, hk, rfl, hJs, hnx⟩ := hrel
    have da := (hnx.cell (o := 0) la.1 la.2).trans ca
    have dp := (hnx.cell (o := 0) lp.1 lp.2).trans cp
    have d9 := (hnx.cell (o := 9) lt.1 lt.2).trans c9
    have hn0 : n₀ ≤ wr.heap.size := by have := cell_lt dp; omega
    have hLr := Lib.hid (HL.out.kps hnx lg')
    obtain ⟨q, hq⟩ : ∃ q, (k : Int) * ap = q := ⟨_, rfl⟩
    have bq := mul_bd (k := (k : Int)) (by omega) (by omega) hab.1 hab.2
    rw [hq] at bq
    have MV := Lib.hid (fun v h => HMv.out k q v hq h)
    have HN := Lib.hid hnx
    clear hnx
    gi_wp2_with fail
    clear hq
    refine ⟨trivial, ?_⟩
    refine (callsIn_wide.2 (MV.out _ hLr.out)).mono ?_
    rintro e w2 ⟨rfl, hb⟩
    have hJ2 : J (dl X k) w2 := abides_below hJ hJs hb
    have HN2 := Lib.hid (HN.out.below hb hn0)
    have hn2 : n₀ ≤ w2.heap.size := Nat.le_trans hn0 hb.size
    clear hJs HN MV hLr da dp d9 hb hn0
    by_cases hE : E k = 0
    · have hlen : (dl X k).length < gl E m := by
        rw [dl_len]
        unfold gl
        split
        · omega
        · next c =>
          have : k ≠ m := fun e => c (e ▸ hE)
          omega
      obtain ⟨fn, tmps, assign, body, hy, hR⟩ := HY.out (dl X k) (X k) w2 hJ2 hlen
      rw [← dl_succ] at hR
      have EZ := Lib.hid hE
      rw [hE]
      clear hE
      gi_wp2
      refine hR.mono ?_
      rintro e W3 (⟨rfl, hJ3, hk3⟩ | ⟨rfl, hJx3⟩)
      · have HN3 := Lib.hid (HN2.out.trans hk3)
        clear hR hy hk3
        by_cases hz : k = 0
        · subst hz
          gi_wp2
          refine ⟨trivial, ?_⟩
          gi_wp2
          go_roundw
          case rel => exact ⟨1, one, by go_num, hJ3, HN3.out⟩
          case measure => simp [intOf]; omega
        · have d0 := (HN3.out.cell (o := 0) lt.1 lt.2).trans c0
          have d1 := (HN3.out.cell (o := 1) lt.1 lt.2).trans c1
          have d2 := (HN3.out.cell (o := 2) lt.1 lt.2).trans c2
          have d3 := (HN3.out.cell (o := 3) lt.1 lt.2).trans c3
          have d4 := (HN3.out.cell (o := 4) lt.1 lt.2).trans c4
          have d5 := (HN3.out.cell (o := 5) lt.1 lt.2).trans c5
          have d6 := (HN3.out.cell (o := 6) lt.1 lt.2).trans c6
          have d7 := (HN3.out.cell (o := 7) lt.1 lt.2).trans c7
          have d8 := (HN3.out.cell (o := 8) lt.1 lt.2).trans c8
          have d9 := (HN3.out.cell (o := 9) lt.1 lt.2).trans c9
          have d10 := (HN3.out.cell (o := 10) lt.1 lt.2).trans c10
          have n3 : n₀ ≤ W3.heap.size := by have := cell_lt ((HN3.out.cell (o := 0) lp.1 lp.2).trans cp); omega
          obtain ⟨b, hb⟩ : ∃ b, (Tm.mk mo ra ki co st en ms bk lg eo ro).btw (X k) = b := ⟨_, rfl⟩
          have BT := Lib.hid (fun v => HBt.out (X k) b v hb)
          have HB := Lib.hid hb
          clear hb
          have kp : decide ((k : Int) > 0) = true := decide_eq_true (by omega)
          gi_wp2_with fail
          refine ⟨trivial, ?_⟩
          refine (callsIn_wide.2 (BT.out _)).mono ?_
          rintro e w4 ⟨rfl, hb4⟩
          have hJ4 : J (dl X (k + 1)) w4 := abides_below hJ hJ3 hb4
          have HN4 := Lib.hid (HN3.out.below hb4 n3)
          clear hJ3 hb4 BT HN3 HN2 d0 d1 d2 d3 d4 d5 d6 d7 d8 d9 d10
          cases b
          · have hkm : k = m := by
              rcases Nat.lt_or_ge k m with g | g
              · have := (Tm.btw_iff _ _).2 (HWk.out.mid k (by omega) g).2
                rw [HB.out] at this
                cases this
              · omega
            subst hkm
            have FIN := Lib.hid (show dl X (k + 1) = dl X (gl E k) by unfold gl; rw [if_pos EZ.out])
            gi_wp2
            refine bodyPost_ret (results_none rfl _ _ _) rfl ?_
            exact ⟨⟨_, rfl⟩, .inl ⟨_, FIN.out, hJ4⟩⟩
          · have hkm : k < m := by
              rcases Nat.lt_or_ge k m with g | g
              · exact g
              · obtain rfl : k = m := by omega
                exact absurd ((Tm.btw_iff _ _).1 HB.out) (HWk.out.last EZ.out)
            gi_wp2
            go_roundw
            case rel => exact ⟨k + 1, hkm, by go_num, hJ4, HN4.out⟩
            case measure => simp [intOf]; omega
      · gi_wp2
        refine bodyPost_ret (results_none rfl _ _ _) rfl ?_
        exact ⟨⟨_, rfl⟩, .inr ⟨_, trivial, hJx3⟩⟩
    · have hkm : k = m := by
        rcases Nat.lt_or_ge k m with g | g
        · rcases Nat.eq_zero_or_pos k with z | z
          · subst z; exact absurd HWk.out.e0 hE
          · exact absurd (HWk.out.mid k z g).1 hE
        · omega
      subst hkm
      have e3 : E k = 3 := (HWk.out.code k).resolve_left hE
      have FIN := Lib.hid (show dl X k = dl X (gl E k) by unfold gl; rw [if_neg hE])
      rw [e3]
      clear hE e3
      gi_wp2
      refine ⟨fun _ h => (by cases h), ?_⟩
      gi_wp2
      refine bodyPost_ret (results_none rfl _ _ _) rfl ?_
      exact ⟨⟨_, rfl⟩, .inl ⟨_, FIN.out, hJ2⟩⟩
end Go.Proofs.YtjijgcgbnmobfaaGreatDoor
