/- The reference's numbers of any size: the difference, where it isn't below 0. -/
import Derived.Test.YtghhnpbepilefaaBigD
namespace Go.Proofs.Ytghhnpbepilefaa
open Go.RowKit

theorem trim_any (v : Value) (ds : List Int) (w : World) (h : Big w v ds) (hd : Dig ds) (hl : ds.length ≤ 100000) :
    Calls Try.prog 41 #[v] w (BigOut (fun es => bv es = bv ds ∧ es.length ≤ ds.length ∧ (bv es = 0 → es = [])) w) := by
  rcases h.form with ⟨rfl, rfl⟩ | ⟨g, cap, rfl, _⟩
  · refine (trim_nil w).mono ?_
    rintro e w' ⟨v, es, he, hb, hd, rfl, hw⟩
    exact ⟨v, [], he, hb, hd, ⟨rfl, Nat.le_refl _, fun _ => rfl⟩, hw⟩
  · exact trim_some g cap ds w h hd hl

def LessRel (w : World) (B : Nat) (va vb : Value) (da db : List Int) (v c i : Value) (wr : World) : Prop :=
  ∃ (k : Nat) (cc : Int) (ds : List Int), i = .int .i64 k ∧ c = .int .i64 cc ∧ ds.length = k ∧ 0 ≤ cc ∧ cc ≤ 1 ∧ Dig ds ∧ bv (pad da k) - bv (pad db k) = bv ds - p4 k * cc ∧ k ≤ da.length ∧ Going w B va vb da db v ds wr

theorem less_step {da db ds : List Int} {k : Nat} {cc x y s b : Int} (hx : da.getD k 0 = x) (hy : db.getD k 0 = y) (hs : x - y - cc = s - 10000 * b) (s0 : 0 ≤ s) (s1 : s ≤ 9999) (hl : ds.length = k) (hd : Dig ds) (hv : bv (pad da k) - bv (pad db k) = bv ds - p4 k * cc) :
    Dig (ds ++ [s]) ∧ bv (pad da (k + 1)) - bv (pad db (k + 1)) = bv (ds ++ [s]) - p4 (k + 1) * b := by
  refine ⟨dig_snoc hd s0 s1, ?_⟩
  rw [bv_snoc, hl, bv_pad_succ, bv_pad_succ, p4_succ, hx, hy]
  have : p4 k * (x - y - cc) = p4 k * s - 10000 * p4 k * b := by
    rw [hs, Int.mul_sub, ← Int.mul_assoc, Int.mul_comm (p4 k) 10000]
  rw [Int.mul_sub, Int.mul_sub] at this
  omega
theorem less_end {da db ds : List Int} {cc : Int} (hda : Dig da) (hdb : Dig db) (hd : Dig ds) (hl : ds.length = da.length) (c0 : 0 ≤ cc) (hle : bv db ≤ bv da) (hv : bv (pad da da.length) - bv (pad db da.length) = bv ds - p4 da.length * cc) : bv ds = bv da - bv db := by
  rw [bv_pad da _ (Nat.le_refl _)] at hv
  have ba := bv_bd hda
  have bd := bv_bd hd
  rw [hl] at bd
  obtain ⟨r, hr⟩ := bv_split db da.length
  have bp := bv_bd (dig_pad hdb da.length)
  rw [pad_length] at bp
  have bb := bv_bd hdb
  have pp := p4_pos da.length
  -- what lies above is nought
  have r0 : r = 0 := by
    by_cases h1 : 1 ≤ r
    · have := Int.mul_le_mul_of_nonneg_left h1 (Int.le_of_lt pp); omega
    · by_cases h2 : r ≤ -1
      · have := Int.mul_le_mul_of_nonneg_left h2 (Int.le_of_lt pp); rw [Int.mul_neg] at this; omega
      · omega
  rw [r0, Int.mul_zero, Int.add_zero] at hr
  have z : cc = 0 := by
    by_cases h1 : 1 ≤ cc
    · have := Int.mul_le_mul_of_nonneg_left h1 (Int.le_of_lt pp); omega
    · omega
  rw [z, Int.mul_zero] at hv
  omega

set_option maxHeartbeats 1600000 in
set_option maxRecDepth 100000 in
theorem lessB (va vb : Value) (da db : List Int) (w : World) (ha : Big w va da) (hb : Big w vb db) (hda : Dig da) (hdb : Dig db) (la : da.length ≤ 90000) (hle : bv db ≤ bv da) :
    Calls Try.prog 42 #[.agg #[va], .agg #[vb]] w (BigOut (fun es => bv es = bv da - bv db ∧ es.length ≤ da.length ∧ (bv es = 0 → es = [])) w) := by
  obtain ⟨i0, hi, hz0, hz1, hz2⟩ := info_parts infoInt
  have G0 := Lib.hid (going_start (t := 35) ha hb)
  have FA := Lib.hid ha.old
  have FB := Lib.hid hb.old
  obtain ⟨aa, ac, ea⟩ := ha.slice
  obtain ⟨ba, bc, eb⟩ := hb.slice
  have HA := Lib.hid hda
  have HD := Lib.hid hdb
  have HLE := Lib.hid hle
  clear hda hdb ha hb hle
  subst ea eb
  obtain ⟨B, hB⟩ : ∃ B, w.heap.size = B := ⟨_, rfl⟩
  rw [hB] at G0 FA FB
  go_enter Try.func42, Try.ntmps42
  go_wp2
  go_loopw [5, 6, 7] (fun v c i wr => LessRel w B (.slice aa da.length ac) (.slice ba db.length bc) da db v c i wr) (fun _ _ i _ => (da.length - (intOf i).toNat))
  case atStart => exact ⟨0, 0, [], rfl, rfl, rfl, by decide, by decide, dig_nil, rfl, by omega, G0.out⟩
  case round =>
    obtain ⟨k, cc, ds, rfl, rfl, hl, c0, c1, hd, hv, hk, G⟩ := hrel
    have HV := Lib.hid hv
    have HL := Lib.hid hl
    have HDs := Lib.hid hd
    have ra := G.ra
    have rb := G.rb
    have GG := Lib.hid G
    clear hv hl hd G
    have hk2 : k ≤ 90000 := by omega
    by_cases hgo : k < da.length
    · have xb := dig_getD HA.out k
      have yb := dig_getD HD.out k
      obtain ⟨x, EX⟩ : ∃ x, Hid (da.getD k 0 = x) := ⟨_, Lib.hid rfl⟩
      obtain ⟨y, EY⟩ : ∃ y, Hid (db.getD k 0 = y) := ⟨_, Lib.hid rfl⟩
      rw [EX.out] at xb
      rw [EY.out] at yb
      obtain ⟨x0, x1⟩ := xb
      obtain ⟨y0, y1⟩ := yb
      have HS := Lib.hid (goingS' GG.out.drew)
      have e1 : IntKind.i64.wrap (x - y) = x - y := IntWalk.i64_in _ (by omega)
      have e2 : IntKind.i64.wrap (x - y - cc) = x - y - cc := IntWalk.i64_in _ (by omega)
      go_wp2_with fail
      go_region_held3 (fun w' => w'.cell? ⟨B, 0, none⟩ = some (.slice aa da.length ac) ∧ w'.cell? ⟨B + 1, 0, none⟩ = some (.slice ba db.length bc) ∧ Going w B (.slice aa da.length ac) (.slice ba db.length bc) da db u5 ds w') (first | exact HS.out | (refine goingS' (Going.below (goingS ?_) hb); assumption))
        (first
          | (go_at_call 32; (with_reducible refine (part_any (.slice aa da.length ac) da (k : Int) _ (Going.a (goingS (by assumption))) (by omega) (by omega)).mono ?_); rw [Int.toNat_natCast, EX.out]; rintro e w' ⟨rfl, hb⟩)
          | (go_at_call 32; (with_reducible refine (part_any (.slice ba db.length bc) db (k : Int) _ (Going.b (goingS (by assumption))) (by omega) (by omega)).mono ?_); rw [Int.toNat_natCast, EY.out]; rintro e w' ⟨rfl, hb⟩))
      have G2 : Going w B (.slice aa da.length ac) (.slice ba db.length bc) da db u5 ds w' := goingS (by assumption)
      have hsz := G2.size
      have HL2 : ds.length ≤ 90000 := by have := HL.out; omega
      clear e1 e2
      by_cases hneg : x - y - cc < 0
      · have ST := Lib.hid (less_step (s := x - y - cc + 10000) (b := 1) EX.out EY.out (by omega) (by omega) (by omega) HL.out HDs.out HV.out)
        go_wp2_with (at_builtin; refine wpList_append_own _ rfl _ _ 33 rfl (B + 3) 3 i0 (.int .i64 0) 1 8 Try.underlying33 hi hz0 hz1 hz2 rfl (by decide) _ _ _ rfl (G2.own.alloc _) ⟨w'.heap.size, 0, none⟩ 1 1 [.int .i64 (x - y - cc + 10000)] rfl rfl ?c1a ?c2a ?c3a ?c4a ?c5a ?_)
        case c1a =>
          intro j u hj
          match j, hj with
          | 0, hj => simp at hj; subst hj; simp [Addr.add, World.cell?_alloc_new]
        case c2a => first | (intro u hu; simp at hu; subst hu; rfl) | rfl | trivial
        case c3a => unfold maxLen; omega
        case c4a => omega
        case c5a => first | (simp; omega) | omega
        · intro v' w1 hown' hgrow _
          have G3 := Going.more G2 FA.out FB.out hown' hgrow
          have H3 := Lib.hid G3
          clear hown' hgrow G3 G2
          go_wp2
          go_roundw
          case rel =>
            exact ⟨k + 1, 1, ds ++ [x - y - cc + 10000], by go_num, rfl, by simp [HL.out], by decide, by decide, ST.out.1, ST.out.2, by omega, H3.out⟩
          case measure => simp [intOf]; omega
      · have ST := Lib.hid (less_step (s := x - y - cc) (b := 0) EX.out EY.out (by omega) (by omega) (by omega) HL.out HDs.out HV.out)
        go_wp2_with (at_builtin; refine wpList_append_own _ rfl _ _ 33 rfl (B + 3) 3 i0 (.int .i64 0) 1 8 Try.underlying33 hi hz0 hz1 hz2 rfl (by decide) _ _ _ rfl (G2.own.alloc _) ⟨w'.heap.size, 0, none⟩ 1 1 [.int .i64 (x - y - cc)] rfl rfl ?c1b ?c2b ?c3b ?c4b ?c5b ?_)
        case c2b => first | (intro u hu; simp at hu; subst hu; rfl) | rfl | trivial
        case c3b => unfold maxLen; omega
        case c4b => omega
        case c5b => first | (simp; omega) | omega
        · intro v' w1 hown' hgrow _
          have G3 := Going.more G2 FA.out FB.out hown' hgrow
          have H3 := Lib.hid G3
          clear hown' hgrow G3 G2
          go_wp2
          go_roundw
          case rel =>
            exact ⟨k + 1, 0, ds ++ [x - y - cc], by go_num, rfl, by simp [HL.out], by decide, by decide, ST.out.1, ST.out.2, by omega, H3.out⟩
          case measure => simp [intOf]; omega
    · have hkl : k = da.length := by omega
      have EN : Hid (bv ds = bv da - bv db) := Lib.hid (less_end HA.out HD.out HDs.out (by rw [HL.out]; exact hkl) c0 HLE.out (by rw [← hkl]; exact HV.out))
      have HKL := Lib.hid hkl
      clear hkl
      have hsz := GG.out.size
      go_wp2_with fail
      have hbg : Big wr u5 ds := World.ownsRow.mono GG.out.own (Nat.zero_le _)
      (with_reducible refine (trim_any _ ds _ hbg HDs.out (by rw [HL.out]; omega)).mono ?_)
      rintro e w2 ⟨v', es, rfl, hbig, hdig, ⟨hval, hlen, hnil⟩, hb2⟩
      have G4 := GG.out.below hb2
      have rc := G4.rc
      have rf := G4.rf
      have FIN : Hid (bv es = bv da - bv db ∧ es.length ≤ da.length ∧ (bv es = 0 → es = [])) := Lib.hid ⟨by rw [hval]; exact EN.out, by rw [HL.out, HKL.out] at hlen; exact hlen, hnil⟩
      have HO := Lib.hid (And.intro G4.old hbig)
      clear hval hlen hnil hb2
      obtain ⟨a3, m3, c3, rfl⟩ := own_slice hbig
      go_wp2
      refine bodyPost_ret (v := .agg #[.slice a3 m3 c3]) (by simp [results, Try.results42, go_sem, rc]) rfl ⟨_, es, rfl, ?_, hdig, FIN.out, ?_⟩
      · exact World.ownsRow.mono (ownsRow_setCell_below HO.out.2 (by simp; omega) _) (by omega)
      · rw [hB]; exact HO.out.1.setCell (by simp; omega) _
end Go.Proofs.Ytghhnpbepilefaa
