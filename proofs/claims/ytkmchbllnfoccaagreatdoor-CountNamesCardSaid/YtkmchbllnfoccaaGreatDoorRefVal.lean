/- The reference: what divides both of two numbers of any size; a number as an int. -/
import Derived.Test.YtkmchbllnfoccaaGreatDoorQuot
import Derived.Test.YtkmchbllnfoccaaGreatDoorHeld
import Derived.Test.YtkmchbllnfoccaaGreatDoorRatioNum
import Derived.Deep.LoopGhost
namespace Go.Proofs.YtkmchbllnfoccaaGreatDoor
open Go.RowKit
set_option linter.unusedVariables false

theorem BigN.none {W : World} {a : Option Addr} {k c m : Nat} (h : BigN W (.slice a k c) 0 m) : k = 0 := by
  obtain ⟨ds, h1, h2, h3, h4, h5⟩ := h
  obtain ⟨aa, ac, e⟩ := h1.slice
  rw [h5 h3] at e
  cases e; rfl
theorem BigN.some {W : World} {a : Option Addr} {k c m : Nat} {n : Int} (h : BigN W (.slice a k c) n m) (hn : 0 < n) : 0 < k := by
  obtain ⟨ds, h1, h2, h3, h4, h5⟩ := h
  obtain ⟨aa, ac, e⟩ := h1.slice
  cases e
  rcases Nat.eq_zero_or_pos ds.length with hz | hz
  · have := List.eq_nil_of_length_eq_zero hz
    subst this
    rw [bv_nil] at h3; omega
  · exact hz
/-- The number n, of at most m parts, is handed back. -/
def NumIs (n : Int) (m : Nat) (w : World) (e : Ending) (w' : World) : Prop := ∃ a k c, e = .returned (.agg #[.slice a k c]) ∧ BigN w' (.slice a k c) n m ∧ Below w.heap.size w w'

/-- What stays true of the memory while two numbers are divided by each other in turn. -/
structure Turning (w W : World) (B m : Nat) (s1 s2 : Value) (p q : Int) : Prop where
  ca : W.cell? ⟨B, 0, none⟩ = some s1
  fa : W.frozen? ⟨B, 0, none⟩ = false
  cb : W.cell? ⟨B + 1, 0, none⟩ = some s2
  fb : W.frozen? ⟨B + 1, 0, none⟩ = false
  cr : W.cell? ⟨B + 2, 0, none⟩ = some (.slice none 0 0)
  fr : W.frozen? ⟨B + 2, 0, none⟩ = false
  na : BigN W s1 p m
  nb : BigN W s2 q m
  oa : ∀ i, s1.ownBlock = some i → i < B ∨ B + 3 ≤ i
  ob : ∀ i, s2.ownBlock = some i → i < B ∨ B + 3 ≤ i
  old : Below B w W
  size : B + 3 ≤ W.heap.size
theorem Turning.below {w W W' : World} {B m : Nat} {s1 s2 : Value} {p q : Int} (h : Turning w W B m s1 s2 p q) (hb : Below W.heap.size W W') : Turning w W' B m s1 s2 p q :=
  ⟨keep hb (cell_lt h.ca) h.ca, frozen_below hb (cell_lt h.ca) h.fa, keep hb (cell_lt h.cb) h.cb, frozen_below hb (cell_lt h.cb) h.fb, keep hb (cell_lt h.cr) h.cr, frozen_below hb (cell_lt h.cr) h.fr, h.na.below hb, h.nb.below hb, h.oa, h.ob, h.old.trans (hb.mono (by have := h.size; omega)), Nat.le_trans h.size hb.size⟩
theorem Turning.turn {w W : World} {B m : Nat} {s1 s2 : Value} {p q : Int} (h : Turning w W B m s1 s2 p q) {s4 : Value} {r : Int} (hn : BigN W s4 r m) (ho : ∀ i, s4.ownBlock = some i → B + 3 ≤ i) :
    Turning w ((W.setCell ⟨B, 0, none⟩ s2).setCell ⟨B + 1, 0, none⟩ s4) B m s2 s4 q r := by
  have far : ∀ (x : Addr), x.block ≠ B → x.block ≠ B + 1 → ((W.setCell ⟨B, 0, none⟩ s2).setCell ⟨B + 1, 0, none⟩ s4).cell? x = W.cell? x := fun x h1 h2 =>
    (World.cell?_setCell_far _ _ _ _ (Ne.symm h2)).trans (World.cell?_setCell_far _ _ _ _ (Ne.symm h1))
  have nn : ∀ {v : Value} {n : Int}, BigN W v n m → (∀ i, v.ownBlock = some i → i < B ∨ B + 3 ≤ i) → BigN ((W.setCell ⟨B, 0, none⟩ s2).setCell ⟨B + 1, 0, none⟩ s4) v n m := fun hv hi =>
    (hv.setCell (p := ⟨B, 0, none⟩) (fun e => by have := hi _ e; simp at this; omega) s2).setCell (p := ⟨B + 1, 0, none⟩) (fun e => by have := hi _ e; simp at this; omega) s4
  refine ⟨?_, by rw [World.frozen?_setCell, World.frozen?_setCell]; exact h.fa, ?_, by rw [World.frozen?_setCell, World.frozen?_setCell]; exact h.fb, (far _ (by simp) (by simp)).trans h.cr, by rw [World.frozen?_setCell, World.frozen?_setCell]; exact h.fr,
    nn h.nb h.ob, nn hn (fun i hi => Or.inr (ho i hi)), h.ob, fun i hi => Or.inr (ho i hi), (h.old.setCell (by simp) _).setCell (by simp) _, by simpa using h.size⟩
  · exact (World.cell?_setCell_far _ _ _ _ (by simp)).trans (World.cell?_setCell_same W _ _ h.ca)
  · exact World.cell?_setCell_same _ _ _ ((World.cell?_setCell_far _ _ _ _ (by simp)).trans h.cb)
theorem turning_start {w : World} {B m : Nat} {s1 s2 : Value} {p q : Int} {t1 t2 t3 : TypeId} (hB : w.heap.size = B) (h1 : BigN w s1 p m) (h2 : BigN w s2 q m) :
    Turning w (((w.alloc (.cells #[s1] t1)).alloc (.cells #[s2] t2)).alloc (.cells #[.slice none 0 0] t3)) B m s1 s2 p q := by
  subst hB
  exact ⟨by simp [go_sem], by simp [go_sem], by simp [go_sem], by simp [go_sem], by simp [go_sem], by simp [go_sem], ((h1.alloc _).alloc _).alloc _, ((h2.alloc _).alloc _).alloc _,
    fun i hi => Or.inl (h1.old i hi), fun i hi => Or.inl (h2.old i hi), (((Below.refl _ _).alloc (Nat.le_refl _) _).alloc (by simp) _).alloc (by simp <;> omega) _, by simp⟩

set_option maxHeartbeats 2000000 in
theorem rgcd_n (aa : Option Addr) (ak ac : Nat) (ba : Option Addr) (bk bc : Nat) (x y : Int) (m : Nat) (w : World) (ha : BigN w (.slice aa ak ac) x m) (hb : BigN w (.slice ba bk bc) y m) (hm : m ≤ 30000) :
    Calls Tryz.prog 53 #[.agg #[.slice aa ak ac], .agg #[.slice ba bk bc]] w (NumIs (gi x y) m w) := by
  obtain ⟨B, hB⟩ : ∃ B, w.heap.size = B := ⟨_, rfl⟩
  have T0 := Lib.hid (turning_start (t1 := 71) (t2 := 71) (t3 := 71) hB ha hb)
  obtain ⟨g, HG⟩ : ∃ g, Hid (gi x y = g) := ⟨_, Lib.hid rfl⟩
  rw [HG.out]
  have x0 := ha.nonneg
  have y0 := hb.nonneg
  clear ha hb
  have HB := Lib.hid hB
  clear hB
  go_enter Tryz.func53, Tryz.ntmps53
  go_wp2
  rw [HB.out]
  go_loopg [5] y.toNat (fun k s5 wr => ∃ (p q : Int) (a1 : Option Addr) (k1 c1 : Nat) (a2 : Option Addr) (k2 c2 : Nat), k = q.toNat ∧ 0 ≤ p ∧ 0 ≤ q ∧ gi p q = g ∧ Turning w wr B m (.slice a1 k1 c1) (.slice a2 k2 c2) p q)
  case atStart => exact ⟨x, y, aa, ak, ac, ba, bk, bc, rfl, x0, y0, HG.out, T0.out⟩
  case round =>
    obtain ⟨p, q, a1, k1, c1, a2, k2, c2, rfl, p0, q0, hg, T⟩ := hrel
    have HH := Lib.hid hg
    have TT := Lib.hid T
    have ca := T.ca
    have cb := T.cb
    have cr := T.cr
    have fa := T.fa
    have fb := T.fb
    have fr := T.fr
    clear hg T
    by_cases hz : q = 0
    · subst hz
      have e2 := TT.out.nb.none
      subst e2
      have hp : p = g := by rw [← HH.out, gi_zero p p0]
      have HP := Lib.hid hp
      clear hp
      go_wp2
      have BN := TT.out.na.setCell (p := ⟨B + 2, 0, none⟩) (fun e => by have := TT.out.oa _ e; simp at this; omega) (.slice a1 k1 c1)
      rw [HP.out] at BN
      exact bodyPost_ret (v := .agg #[.slice a1 k1 c1]) (by simp [results, Tryz.results53, go_sem, cr]) rfl ⟨_, _, _, rfl, BN, by rw [HB.out]; exact TT.out.old.setCell (by simp <;> omega) _⟩
    · have k0 := TT.out.nb.some (by omega)
      have hq : 0 < q := by omega
      go_wp2_with fail
      (with_reducible refine (quot_f (.slice a1 k1 c1) a2 k2 c2 p q m m _ TT.out.na TT.out.nb hm hm hq).mono ?_)
      rintro e w1 ⟨a3, k3, c3, a4, k4, c4, rfl, N3, N4, F3, F4, hb⟩
      have T1 := TT.out.below hb
      have T2 := Lib.hid ((T1.turn N4 (fun i hi => Nat.le_trans TT.out.size (F4 i hi))).below (((Below.refl _ _).alloc (Nat.le_refl _) (.cells #[.slice a3 k3 c3] 71)).alloc (by simp) (.cells #[.slice a4 k4 c4] 71)))
      have ca := T1.ca
      have cb := T1.cb
      have cr := T1.cr
      have fa := T1.fa
      have fb := T1.fb
      have la : B < w1.heap.size := cell_lt ca
      have lb : B + 1 < w1.heap.size := cell_lt cb
      have k5 : Hid (gi q (p % q) = g) := Lib.hid ((gi_step p q p0 q0).trans HH.out)
      have k6 : 0 ≤ p % q := Int.emod_nonneg _ hz
      have k7 : p % q < q := Int.emod_lt_of_pos _ hq
      clear T1 hb N3 N4 F3 F4
      go_wp2
      go_roundg (p % q).toNat
      case measure => omega
      case rel => exact ⟨q, p % q, a2, k2, c2, a4, k4, c4, rfl, q0, k6, k5.out, T2.out⟩

theorem bv_drop_le (ds : List Int) (hd : Dig ds) (k : Nat) : 0 ≤ bv (ds.drop k) ∧ bv (ds.drop k) ≤ bv ds := by
  have dd : ∀ j, Dig (ds.drop j) := fun j d h => hd d (List.mem_of_mem_drop h)
  refine ⟨(bv_bd (dd k)).1, ?_⟩
  induction k with
  | zero => exact Int.le_refl _
  | succ k ih =>
    by_cases hk : k < ds.length
    · have e := drop_at ds k hk
      have a := (bv_bd (dd (k + 1))).1
      have b := (dig_getD hd k).1
      omega
    · rw [List.drop_of_length_le (by omega), bv_nil]; exact (bv_bd hd).1

set_option maxHeartbeats 2000000 in
theorem value_n (aa : Option Addr) (ak ac : Nat) (x : Int) (m : Nat) (w : World) (ha : BigN w (.slice aa ak ac) x m) (hm : m ≤ 30000) (hx : x ≤ 4611686018427387904) :
    Calls Tryz.prog 57 #[.agg #[.slice aa ak ac]] w fun e w' => e = .returned (.int .i64 x) ∧ Below w.heap.size w w' := by
  obtain ⟨ds, hbig, hdig, hval, hlen, -⟩ := ha
  obtain ⟨a', c', e'⟩ := hbig.slice
  cases e'
  have HBG := Lib.hid hbig
  have HD := Lib.hid hdig
  have HV := Lib.hid hval
  have hl : ds.length ≤ 30000 := by omega
  clear hbig hdig hval hlen
  go_enter Tryz.func57, Tryz.ntmps57
  go_wp2
  go_loop [3, 4] (fun n i => ∃ k : Nat, k ≤ ds.length ∧ i = .int .i64 ((k : Int) - 1) ∧ n = .int .i64 (bv (ds.drop k))) (fun _ i => (intOf i + 1).toNat)
  case atStart => exact ⟨ds.length, Nat.le_refl _, rfl, by rw [List.drop_of_length_le (Nat.le_refl _), bv_nil]⟩
  case round =>
    obtain ⟨k, hk, rfl, rfl⟩ := hrel
    by_cases hz : k = 0
    · subst hz
      have e : bv (ds.drop 0) = x := by rw [List.drop_zero]; exact HV.out
      have HE := Lib.hid e
      clear e
      go_wp2
      go_ret
      exact ⟨by rw [← HE.out]; rfl, (Below.refl _ _).alloc (Nat.le_refl _) _⟩
    · obtain ⟨j, rfl⟩ : ∃ j, k = j + 1 := ⟨k - 1, by omega⟩
      have hjl : j < ds.length := by omega
      have e1 : ((j + 1 : Nat) : Int) - 1 = (j : Int) := by omega
      rw [e1]
      have b1 := bv_drop_le ds HD.out (j + 1)
      have b2 := bv_drop_le ds HD.out j
      have st := drop_at ds j hjl
      have d1 := dig_getD HD.out j
      rw [HV.out] at b1 b2
      obtain ⟨g, cap, e2, hc⟩ := HBG.out.cell hjl
      obtain ⟨N, HN⟩ : ∃ N, Hid (bv (ds.drop (j + 1)) = N) := ⟨_, Lib.hid rfl⟩
      obtain ⟨d, HDj⟩ : ∃ d, Hid (ds.getD j 0 = d) := ⟨_, Lib.hid rfl⟩
      rw [HN.out] at b1 st ⊢
      rw [HDj.out] at st d1 hc
      rw [st] at b2
      have ST := Lib.hid st
      obtain ⟨b11, b12⟩ := b1
      obtain ⟨b21, b22⟩ := b2
      obtain ⟨d11, d12⟩ := d1
      cases e2
      clear st e1
      have m1 : IntKind.i64.wrap (10000 * N) = 10000 * N := IntWalk.i64_in _ (by omega)
      have m2 : IntKind.i64.wrap (10000 * N + d) = 10000 * N + d := IntWalk.i64_in _ (by omega)
      have gl : g < w.heap.size := cell_lt hc
      go_wp2
      go_round
      case rel => exact ⟨j, by omega, rfl, by rw [ST.out, Int.add_comm]⟩
      case measure => simp [intOf]
end Go.Proofs.YtkmchbllnfoccaaGreatDoor
