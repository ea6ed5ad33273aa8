/- The reference's numbers of any size: the sum. -/
import Derived.Test.YtghhnpbepilefaaBigC
namespace Go.Proofs.Ytghhnpbepilefaa
open Go.RowKit

/-- What stays true of the memory while two numbers are gone through: the two, the row that is made (v, ds), and the variable of the result. -/
structure Going (w : World) (B : Nat) (va vb : Value) (da db : List Int) (v : Value) (ds : List Int) (W : World) : Prop where
  a : Big W va da
  b : Big W vb db
  own : W.ownsRow (B + 3) 3 1 v ds.length (ds.map (Value.int .i64))
  ra : W.cell? ⟨B, 0, none⟩ = some va
  rb : W.cell? ⟨B + 1, 0, none⟩ = some vb
  rc : W.cell? ⟨B + 2, 0, none⟩ = some (.slice none 0 0)
  rf : W.frozen? ⟨B + 2, 0, none⟩ = false
  old : Below B w W
  size : B + 3 ≤ W.heap.size

theorem own_below {W W' : World} {base : Nat} {e : TypeId} {size n : Nat} {v : Value} {xs : List Value} (h : W.ownsRow base e size v n xs) (hb : Below W.heap.size W W') : W'.ownsRow base e size v n xs := by
  obtain ⟨h1, h2⟩ := h
  refine ⟨h1, ?_⟩
  rcases h2 with h2 | ⟨g, cap, cur, hv, hg, hh, hr⟩
  · exact .inl h2
  · exact .inr ⟨g, cap, cur, hv, hg, by rw [hb.block g ((Array.getElem?_eq_some_iff.1 hh).1)]; exact hh, hr⟩

theorem Going.below {w : World} {B : Nat} {va vb v : Value} {da db ds : List Int} {W W' : World} (h : Going w B va vb da db v ds W) (hb : Below W.heap.size W W') : Going w B va vb da db v ds W' :=
  ⟨h.a.below hb, h.b.below hb, own_below h.own hb, keep hb (by have := h.size; omega) h.ra, keep hb (by have := h.size; omega) h.rb, keep hb (by have := h.size; omega) h.rc, frozen_below hb (by have := h.size; omega) h.rf, h.old.trans (hb.mono (by have := h.size; omega)), by have := h.size; have := hb.size; omega⟩
theorem Going.drew {w : World} {B : Nat} {va vb v : Value} {da db ds : List Int} {W : World} (h : Going w B va vb da db v ds W) : Going w B va vb da db v ds W.drew :=
  ⟨h.a, h.b, h.own, h.ra, h.rb, h.rc, h.rf, h.old.drew, h.size⟩
/-- A part more is appended. -/
theorem Going.more {w : World} {B : Nat} {va vb v v' : Value} {da db ds : List Int} {W W' : World} {x : Int} {o : Obj} (h : Going w B va vb da db v ds W) (fa : ∀ k, va.ownBlock = some k → k < B) (fb : ∀ k, vb.ownBlock = some k → k < B)
    (hown : W'.ownsRow (B + 3) 3 1 v' (ds.length + 1) (ds.map (Value.int .i64) ++ [.int .i64 x])) (hg : (W.alloc o).grownBy W' v.ownBlock) : Going w B va vb da db v' (ds ++ [x]) W' := by
  have R : Below (B + 3) W W' := grown_row h.size h.own hg
  have far : ∀ {u : Value} {es : List Int}, Big W u es → (∀ k, u.ownBlock = some k → k < B) → Big W' u es := by
    intro u es hu fu
    obtain ⟨h1, h2⟩ := hu
    refine ⟨h1, ?_⟩
    rcases h2 with h2 | ⟨g, cap, cur, hv, hgg, hh, hr⟩
    · exact .inl h2
    · have := fu g (by rw [hv]; rfl)
      exact .inr ⟨g, cap, cur, hv, hgg, by rw [R.block g (by omega)]; exact hh, hr⟩
  refine ⟨far h.a fa, far h.b fb, by simpa using hown, (R.cell (p := ⟨B, 0, none⟩) (by simp)).trans h.ra, (R.cell (p := ⟨B + 1, 0, none⟩) (by simp)).trans h.rb, (R.cell (p := ⟨B + 2, 0, none⟩) (by simp)).trans h.rc,
    (R.frozen (p := ⟨B + 2, 0, none⟩) (by simp)).trans h.rf, h.old.trans (R.mono (by omega)), by have := R.size; have := h.size; omega⟩
theorem Big.old {w : World} {v : Value} {ds : List Int} (h : Big w v ds) : ∀ k, v.ownBlock = some k → k < w.heap.size := fun k hk => (World.ownsRow.lt h k hk).2
theorem goingS {w : World} {B : Nat} {va vb v : Value} {da db ds : List Int} {W : World} (h : W.cell? ⟨B, 0, none⟩ = some va ∧ W.cell? ⟨B + 1, 0, none⟩ = some vb ∧ Going w B va vb da db v ds W) : Going w B va vb da db v ds W := h.2.2
theorem goingS' {w : World} {B : Nat} {va vb v : Value} {da db ds : List Int} {W : World} (h : Going w B va vb da db v ds W) : W.cell? ⟨B, 0, none⟩ = some va ∧ W.cell? ⟨B + 1, 0, none⟩ = some vb ∧ Going w B va vb da db v ds W := ⟨h.ra, h.rb, h⟩

theorem going_start {w : World} {va vb : Value} {da db : List Int} {t : TypeId} (ha : Big w va da) (hb : Big w vb db) :
    Going w w.heap.size va vb da db (.slice none 0 0) [] (((w.alloc (.cells #[va] t)).alloc (.cells #[vb] t)).alloc (.cells #[.slice none 0 0] t)) :=
  ⟨((ha.alloc _).alloc _).alloc _, ((hb.alloc _).alloc _).alloc _, World.ownsRow_nil _ _ _ _, by simp [go_sem], by simp [go_sem], by simp [go_sem], by simp [go_sem], (((Below.refl _ _).alloc (Nat.le_refl _) _).alloc (by simp) _).alloc (by simp <;> omega) _, by simp⟩

def PlusRel (w : World) (B : Nat) (va vb : Value) (da db : List Int) (v c i : Value) (wr : World) : Prop :=
  ∃ (k : Nat) (cc : Int) (ds : List Int), i = .int .i64 k ∧ c = .int .i64 cc ∧ ds.length = k ∧ 0 ≤ cc ∧ cc ≤ 1 ∧ Dig ds ∧ bv ds + p4 k * cc = bv (pad da k) + bv (pad db k) ∧ k ≤ max da.length db.length + 1 ∧ (max da.length db.length < k → cc = 0) ∧ Going w B va vb da db v ds wr

theorem plus_step {da db ds : List Int} {k : Nat} {cc : Int} (ha : Dig da) (hb : Dig db) (hl : ds.length = k) (hd : Dig ds) (hv : bv ds + p4 k * cc = bv (pad da k) + bv (pad db k)) :
    Dig (ds ++ [(da.getD k 0 + db.getD k 0 + cc) % 10000]) ∧ bv (ds ++ [(da.getD k 0 + db.getD k 0 + cc) % 10000]) + p4 (k + 1) * ((da.getD k 0 + db.getD k 0 + cc) / 10000) = bv (pad da (k + 1)) + bv (pad db (k + 1)) := by
  have x := dig_getD ha k
  have y := dig_getD hb k
  refine ⟨dig_snoc hd (by omega) (by omega), ?_⟩
  rw [bv_snoc, hl, bv_pad_succ, bv_pad_succ, p4_succ]
  generalize da.getD k 0 = X at *
  generalize db.getD k 0 = Y at *
  have e : X + Y + cc = (X + Y + cc) % 10000 + 10000 * ((X + Y + cc) / 10000) := by omega
  have : p4 k * (X + Y + cc) = p4 k * ((X + Y + cc) % 10000) + 10000 * p4 k * ((X + Y + cc) / 10000) := by
    conv => lhs; rw [e]
    rw [Int.mul_add, ← Int.mul_assoc, Int.mul_comm (p4 k) 10000]
  rw [Int.mul_add, Int.mul_add] at this
  omega

theorem plus_nil (aa : Option Addr) (ac : Nat) (ba : Option Addr) (bc : Nat) (w : World) :
    Calls Try.prog 37 #[.agg #[.slice aa 0 ac], .agg #[.slice ba 0 bc]] w (BigOut (fun es => es = []) w) := by
  go_enter Try.func37, Try.ntmps37
  go_wp2
  refine wp_loop_rounds 1 ?_
  rw [rounds_succ]
  go_wp2
  exact bodyPost_ret (v := .agg #[.slice none 0 0]) (by simp [results, Try.results37, go_sem]) rfl ⟨_, [], rfl, World.ownsRow_nil _ _ _ _, dig_nil, rfl, (((Below.refl _ _).alloc (Nat.le_refl _) _).alloc (by simp) _).alloc (by simp <;> omega) _⟩

set_option maxHeartbeats 1600000 in
set_option maxRecDepth 100000 in
theorem plusB (va vb : Value) (da db : List Int) (w : World) (ha : Big w va da) (hb : Big w vb db) (hda : Dig da) (hdb : Dig db) (la : da.length ≤ 90000) (lb : db.length ≤ 90000) :
    Calls Try.prog 37 #[.agg #[va], .agg #[vb]] w (BigOut (fun es => bv es = bv da + bv db ∧ es.length ≤ max da.length db.length + 1) w) := by
  obtain ⟨i0, hi, hz0, hz1, hz2⟩ := info_parts infoInt
  have G0 := Lib.hid (going_start (t := 35) ha hb)
  have FA := Lib.hid ha.old
  have FB := Lib.hid hb.old
  obtain ⟨aa, ac, ea⟩ := ha.slice
  obtain ⟨ba, bc, eb⟩ := hb.slice
  have HA := Lib.hid hda
  have HD := Lib.hid hdb
  clear hda hdb ha hb
  subst ea eb
  obtain ⟨B, hB⟩ : ∃ B, w.heap.size = B := ⟨_, rfl⟩
  rw [hB] at G0 FA FB
  go_enter Try.func37, Try.ntmps37
  go_wp2
  go_loopw [5, 6, 7] (fun v c i wr => PlusRel w B (.slice aa da.length ac) (.slice ba db.length bc) da db v c i wr) (fun _ _ i _ => (max da.length db.length + 2 - (intOf i).toNat))
  case atStart => exact ⟨0, 0, [], rfl, rfl, rfl, by decide, by decide, dig_nil, rfl, by omega, fun h => by omega, G0.out⟩
  case round =>
    obtain ⟨k, cc, ds, rfl, rfl, hl, c0, c1, hd, hv, hk, hc, G⟩ := hrel
    have HV := Lib.hid hv
    have HC := Lib.hid hc
    have HL := Lib.hid hl
    have HDs := Lib.hid hd
    have ra := G.ra
    have rb := G.rb
    have GG := Lib.hid G
    clear hv hc hl hd G
    have hk2 : k ≤ 90001 := by omega
    by_cases hgo : k < da.length ∨ k < db.length ∨ 0 < cc
    · have xb := dig_getD HA.out k
      have yb := dig_getD HD.out k
      obtain ⟨x, EX⟩ : ∃ x, Hid (da.getD k 0 = x) := ⟨_, Lib.hid rfl⟩
      obtain ⟨y, EY⟩ : ∃ y, Hid (db.getD k 0 = y) := ⟨_, Lib.hid rfl⟩
      rw [EX.out] at xb
      rw [EY.out] at yb
      obtain ⟨x0, x1⟩ := xb
      obtain ⟨y0, y1⟩ := yb
      have st := plus_step HA.out HD.out HL.out HDs.out HV.out
      rw [EX.out, EY.out] at st
      have ST := Lib.hid st
      have CZ : Hid (max da.length db.length < k + 1 → (x + y + cc) / 10000 = 0) := Lib.hid (fun hm => by
        have hx : da.getD k 0 = 0 := by simp [List.getD, List.getElem?_eq_none (by omega : da.length ≤ k)]
        have hy : db.getD k 0 = 0 := by simp [List.getD, List.getElem?_eq_none (by omega : db.length ≤ k)]
        rw [EX.out] at hx
        rw [EY.out] at hy
        omega)
      have KM : k ≤ max da.length db.length := by
        by_cases e : max da.length db.length < k
        · have := HC.out e; omega
        · omega
      have HS := Lib.hid (goingS' GG.out.drew)
      clear st
      have e1 : IntKind.i64.wrap (x + y) = x + y := IntWalk.i64_in _ (by omega)
      have e2 : IntKind.i64.wrap (x + y + cc) = x + y + cc := IntWalk.i64_in _ (by omega)
      have hgo' : k < da.length ∨ (¬ k < da.length ∧ k < db.length) ∨ (¬ k < da.length ∧ ¬ k < db.length ∧ 0 < cc) := by omega
      clear hgo
      rcases hgo' with h1 | ⟨h1, h2⟩ | ⟨h1, h2, h3⟩
      · go_wp2_with fail
        go_region_held3 (fun w' => w'.cell? ⟨B, 0, none⟩ = some (.slice aa da.length ac) ∧ w'.cell? ⟨B + 1, 0, none⟩ = some (.slice ba db.length bc) ∧ Going w B (.slice aa da.length ac) (.slice ba db.length bc) da db u5 ds w') (first | exact HS.out | (refine goingS' (Going.below (goingS ?_) hb); assumption))
          (first
            | (go_at_call 32; (with_reducible refine (part_any (.slice aa da.length ac) da (k : Int) _ (Going.a (goingS (by assumption))) (by omega) (by omega)).mono ?_); rw [Int.toNat_natCast, EX.out]; rintro e w' ⟨rfl, hb⟩)
            | (go_at_call 32; (with_reducible refine (part_any (.slice ba db.length bc) db (k : Int) _ (Going.b (goingS (by assumption))) (by omega) (by omega)).mono ?_); rw [Int.toNat_natCast, EY.out]; rintro e w' ⟨rfl, hb⟩))
        have G2 : Going w B (.slice aa da.length ac) (.slice ba db.length bc) da db u5 ds w' := goingS (by assumption)
        have hsz := G2.size
        have HL2 : ds.length ≤ 90001 := by have := HL.out; omega
        go_wp2_with (at_builtin; refine wpList_append_own _ rfl _ _ 33 rfl (B + 3) 3 i0 (.int .i64 0) 1 8 Try.underlying33 hi hz0 hz1 hz2 rfl (by decide) _ _ _ rfl (G2.own.alloc _) ⟨w'.heap.size, 0, none⟩ 1 1 [.int .i64 ((x + y + cc) % 10000)] rfl rfl ?c1a ?c2a ?c3a ?c4a ?c5a ?_)
        case c1a =>
          intro j u hj
          match j, hj with
          | 0, hj => simp at hj; subst hj; simp [Addr.add, World.cell?_alloc_new]
        case c2a => intro u hu; simp at hu; subst hu; rfl
        case c3a => unfold maxLen; omega
        case c4a => omega
        case c5a => simp; omega
        · intro v' w1 hown' hgrow _
          have G3 := Going.more G2 FA.out FB.out hown' hgrow
          have H3 := Lib.hid G3
          clear hown' hgrow G3 G2
          go_wp2
          go_roundw
          case rel =>
            exact ⟨k + 1, (x + y + cc) / 10000, ds ++ [(x + y + cc) % 10000], by go_num, rfl, by simp [HL.out], by omega, by omega, ST.out.1, ST.out.2, by omega, CZ.out, H3.out⟩
          case measure => simp [intOf]; omega
      · go_wp2_with fail
        go_region_held3 (fun w' => w'.cell? ⟨B, 0, none⟩ = some (.slice aa da.length ac) ∧ w'.cell? ⟨B + 1, 0, none⟩ = some (.slice ba db.length bc) ∧ Going w B (.slice aa da.length ac) (.slice ba db.length bc) da db u5 ds w') (first | exact HS.out | (refine goingS' (Going.below (goingS ?_) hb); assumption))
          (first
            | (go_at_call 32; (with_reducible refine (part_any (.slice aa da.length ac) da (k : Int) _ (Going.a (goingS (by assumption))) (by omega) (by omega)).mono ?_); rw [Int.toNat_natCast, EX.out]; rintro e w' ⟨rfl, hb⟩)
            | (go_at_call 32; (with_reducible refine (part_any (.slice ba db.length bc) db (k : Int) _ (Going.b (goingS (by assumption))) (by omega) (by omega)).mono ?_); rw [Int.toNat_natCast, EY.out]; rintro e w' ⟨rfl, hb⟩))
        have G2 : Going w B (.slice aa da.length ac) (.slice ba db.length bc) da db u5 ds w' := goingS (by assumption)
        have hsz := G2.size
        have HL2 : ds.length ≤ 90001 := by have := HL.out; omega
        go_wp2_with (at_builtin; refine wpList_append_own _ rfl _ _ 33 rfl (B + 3) 3 i0 (.int .i64 0) 1 8 Try.underlying33 hi hz0 hz1 hz2 rfl (by decide) _ _ _ rfl (G2.own.alloc _) ⟨w'.heap.size, 0, none⟩ 1 1 [.int .i64 ((x + y + cc) % 10000)] rfl rfl ?c1b ?c2b ?c3b ?c4b ?c5b ?_)
        case c1b =>
          intro j u hj
          match j, hj with
          | 0, hj => simp at hj; subst hj; simp [Addr.add, World.cell?_alloc_new]
        case c2b => intro u hu; simp at hu; subst hu; rfl
        case c3b => unfold maxLen; omega
        case c4b => omega
        case c5b => simp; omega
        · intro v' w1 hown' hgrow _
          have G3 := Going.more G2 FA.out FB.out hown' hgrow
          have H3 := Lib.hid G3
          clear hown' hgrow G3 G2
          go_wp2
          go_roundw
          case rel =>
            exact ⟨k + 1, (x + y + cc) / 10000, ds ++ [(x + y + cc) % 10000], by go_num, rfl, by simp [HL.out], by omega, by omega, ST.out.1, ST.out.2, by omega, CZ.out, H3.out⟩
          case measure => simp [intOf]; omega
      · go_wp2_with fail
        go_region_held3 (fun w' => w'.cell? ⟨B, 0, none⟩ = some (.slice aa da.length ac) ∧ w'.cell? ⟨B + 1, 0, none⟩ = some (.slice ba db.length bc) ∧ Going w B (.slice aa da.length ac) (.slice ba db.length bc) da db u5 ds w') (first | exact HS.out | (refine goingS' (Going.below (goingS ?_) hb); assumption))
          (first
            | (go_at_call 32; (with_reducible refine (part_any (.slice aa da.length ac) da (k : Int) _ (Going.a (goingS (by assumption))) (by omega) (by omega)).mono ?_); rw [Int.toNat_natCast, EX.out]; rintro e w' ⟨rfl, hb⟩)
            | (go_at_call 32; (with_reducible refine (part_any (.slice ba db.length bc) db (k : Int) _ (Going.b (goingS (by assumption))) (by omega) (by omega)).mono ?_); rw [Int.toNat_natCast, EY.out]; rintro e w' ⟨rfl, hb⟩))
        have G2 : Going w B (.slice aa da.length ac) (.slice ba db.length bc) da db u5 ds w' := goingS (by assumption)
        have hsz := G2.size
        have HL2 : ds.length ≤ 90001 := by have := HL.out; omega
        go_wp2_with (at_builtin; refine wpList_append_own _ rfl _ _ 33 rfl (B + 3) 3 i0 (.int .i64 0) 1 8 Try.underlying33 hi hz0 hz1 hz2 rfl (by decide) _ _ _ rfl (G2.own.alloc _) ⟨w'.heap.size, 0, none⟩ 1 1 [.int .i64 ((x + y + cc) % 10000)] rfl rfl ?c1c ?c2c ?c3c ?c4c ?c5c ?_)
        case c1c =>
          intro j u hj
          match j, hj with
          | 0, hj => simp at hj; subst hj; simp [Addr.add, World.cell?_alloc_new]
        case c2c => intro u hu; simp at hu; subst hu; rfl
        case c3c => unfold maxLen; omega
        case c4c => omega
        case c5c => simp; omega
        · intro v' w1 hown' hgrow _
          have G3 := Going.more G2 FA.out FB.out hown' hgrow
          have H3 := Lib.hid G3
          clear hown' hgrow G3 G2
          go_wp2
          go_roundw
          case rel =>
            exact ⟨k + 1, (x + y + cc) / 10000, ds ++ [(x + y + cc) % 10000], by go_num, rfl, by simp [HL.out], by omega, by omega, ST.out.1, ST.out.2, by omega, CZ.out, H3.out⟩
          case measure => simp [intOf]; omega
    · have hc0 : cc = 0 := by omega
      have n1 : ¬ k < da.length := by omega
      have n2 : ¬ k < db.length := by omega
      have n3 : ¬ 0 < cc := by omega
      have HC0 := Lib.hid hc0
      clear hc0 hgo
      obtain ⟨a3, m3, c3, rfl⟩ := own_slice GG.out.own
      have rc := GG.out.rc
      have rf := GG.out.rf
      go_wp2
      refine bodyPost_ret (v := .agg #[.slice a3 m3 c3]) (by simp [results, Try.results37, go_sem, rc]) rfl ⟨_, ds, rfl, ?_, HDs.out, ⟨?_, ?_⟩, ?_⟩
      · exact World.ownsRow.mono (ownsRow_setCell_below GG.out.own (by simp) _) (by omega)
      · have := HV.out
        rw [HC0.out, Int.mul_zero, Int.add_zero, bv_pad da k (by omega), bv_pad db k (by omega)] at this
        exact this
      · rw [HL.out]; exact hk
      · rw [hB]; exact GG.out.old.setCell (by simp; omega) _
end Go.Proofs.Ytghhnpbepilefaa
