/- The reference's numbers of any size: the product. -/
import Derived.Test.YtmaioofcmgaakaaGreatDoorBigE
import Derived.Test.YtmaioofcmgaakaaGreatDoorProdNum
namespace Go.Proofs.YtmaioofcmgaakaaGreatDoor
open Go.RowKit

/-- What stays true of the memory while a product is made: the two numbers, the row that is made (block g, parts l), and the variable of the result. -/
structure Making (w : World) (B g n : Nat) (va vb : Value) (da db l : List Int) (W : World) : Prop where
  a : Big W va da
  b : Big W vb db
  own : W.ownsRow (B + 3) 3 1 (.slice (some ⟨g, 0, none⟩) n n) n (l.map (Value.int .i64))
  len : l.length = n
  ra : W.cell? ⟨B, 0, none⟩ = some va
  rb : W.cell? ⟨B + 1, 0, none⟩ = some vb
  rc : W.cell? ⟨B + 2, 0, none⟩ = some (.slice none 0 0)
  rf : W.frozen? ⟨B + 2, 0, none⟩ = false
  old : Below B w W
  size : B + 3 ≤ W.heap.size

theorem Making.below {w : World} {B g n : Nat} {va vb : Value} {da db l : List Int} {W W' : World} (h : Making w B g n va vb da db l W) (hb : Below W.heap.size W W') : Making w B g n va vb da db l W' :=
  ⟨h.a.below hb, h.b.below hb, own_below h.own hb, h.len, keep hb (by have := h.size; omega) h.ra, keep hb (by have := h.size; omega) h.rb, keep hb (by have := h.size; omega) h.rc, frozen_below hb (by have := h.size; omega) h.rf, h.old.trans (hb.mono (by have := h.size; omega)), by have := h.size; have := hb.size; omega⟩
theorem Making.drew {w : World} {B g n : Nat} {va vb : Value} {da db l : List Int} {W : World} (h : Making w B g n va vb da db l W) : Making w B g n va vb da db l W.drew :=
  ⟨h.a, h.b, h.own, h.len, h.ra, h.rb, h.rc, h.rf, h.old.drew, h.size⟩
theorem Making.at {w : World} {B g n : Nat} {va vb : Value} {da db l : List Int} {W : World} (h : Making w B g n va vb da db l W) {k : Nat} (hk : k < n) : W.cell? ⟨g, k, none⟩ = some (.int .i64 (l.getD k 0)) := by
  rw [World.ownsRow.cellAt h.own k (by omega)]
  simp [List.getD, List.getElem?_eq_getElem (show k < l.length by rw [h.len]; exact hk)]
/-- A part is written. -/
theorem Making.stored {w : World} {B g n : Nat} {va vb : Value} {da db l : List Int} {W : World} (h : Making w B g n va vb da db l W) (fa : ∀ k, va.ownBlock = some k → k < B) (fb : ∀ k, vb.ownBlock = some k → k < B) (k : Nat) (x : Int) :
    Making w B g n va vb da db (l.set k x) (W.setCell ⟨g, k, none⟩ (.int .i64 x)) := by
  have hg : B + 3 ≤ g := (World.ownsRow.lt h.own g rfl).1
  have R : Below (B + 3) W (W.setCell ⟨g, k, none⟩ (.int .i64 x)) := (Below.refl _ _).setCell hg _
  have far : ∀ {u : Value} {es : List Int}, Big W u es → (∀ k, u.ownBlock = some k → k < B) → Big (W.setCell ⟨g, k, none⟩ (.int .i64 x)) u es := by
    intro u es hu fu
    obtain ⟨h1, h2⟩ := hu
    refine ⟨h1, ?_⟩
    rcases h2 with h2 | ⟨g', cap, cur, hv, hgg, hh, hr⟩
    · exact .inl h2
    · have := fu g' (by rw [hv]; rfl)
      exact .inr ⟨g', cap, cur, hv, hgg, by rw [R.block g' (by omega)]; exact hh, hr⟩
  refine ⟨far h.a fa, far h.b fb, ?_, by simp [h.len], (R.cell (p := ⟨B, 0, none⟩) (by simp)).trans h.ra, (R.cell (p := ⟨B + 1, 0, none⟩) (by simp)).trans h.rb, (R.cell (p := ⟨B + 2, 0, none⟩) (by simp)).trans h.rc,
    (R.frozen (p := ⟨B + 2, 0, none⟩) (by simp)).trans h.rf, h.old.trans (R.mono (by omega)), by have := R.size; have := h.size; omega⟩
  have := (World.ownsRow.stored h.own k (.int .i64 x)).1
  rwa [← List.map_set] at this

theorem making_start {w : World} {B n : Nat} {va vb : Value} {da db l : List Int} {v : Value} {W W' : World} (G : Going w B va vb da db v [] W) (fa : ∀ k, va.ownBlock = some k → k < B) (fb : ∀ k, vb.ownBlock = some k → k < B)
    (hown : W'.ownsRow (B + 3) 3 1 (.slice (some ⟨B + 3, 0, none⟩) n n) n (l.map (Value.int .i64))) (hg : W.grownBy W' none) : Making w B (B + 3) n va vb da db l W' := by
  have R : Below (B + 3) W W' := (Below.refl _ _).grown hg G.size (fun k hk => by cases hk)
  have far : ∀ {u : Value} {es : List Int}, Big W u es → (∀ k, u.ownBlock = some k → k < B) → Big W' u es := by
    intro u es hu fu
    obtain ⟨h1, h2⟩ := hu
    refine ⟨h1, ?_⟩
    rcases h2 with h2 | ⟨g, cap, cur, hv, hgg, hh, hr⟩
    · exact .inl h2
    · have := fu g (by rw [hv]; rfl)
      exact .inr ⟨g, cap, cur, hv, hgg, by rw [R.block g (by omega)]; exact hh, hr⟩
  refine ⟨far G.a fa, far G.b fb, hown, ?_, (R.cell (p := ⟨B, 0, none⟩) (by simp)).trans G.ra, (R.cell (p := ⟨B + 1, 0, none⟩) (by simp)).trans G.rb, (R.cell (p := ⟨B + 2, 0, none⟩) (by simp)).trans G.rc,
    (R.frozen (p := ⟨B + 2, 0, none⟩) (by simp)).trans G.rf, G.old.trans (R.mono (by omega)), by have := R.size; have := G.size; omega⟩
  have := hown.1
  simpa using this

theorem Big.cell {W : World} {v : Value} {ds : List Int} (h : Big W v ds) {k : Nat} (hk : k < ds.length) : ∃ g cap, v = .slice (some ⟨g, 0, none⟩) ds.length cap ∧ W.cell? ⟨g, k, none⟩ = some (.int .i64 (ds.getD k 0)) := by
  rcases h.form with ⟨_, rfl⟩ | ⟨g, cap, rfl, hg, _, hc⟩
  · simp at hk
  · exact ⟨g, cap, rfl, hc k hk⟩

theorem makingS {w : World} {B g n k ga i : Nat} {va vb : Value} {da db l : List Int} {z x : Value} {W : World} (h : W.cell? ⟨B, 0, none⟩ = some va ∧ W.cell? ⟨B + 1, 0, none⟩ = some vb ∧ W.cell? ⟨g, k, none⟩ = some z ∧ W.cell? ⟨ga, i, none⟩ = some x ∧ Making w B g n va vb da db l W) : Making w B g n va vb da db l W := h.2.2.2.2
theorem makingS' {w : World} {B g n k ga i : Nat} {va vb : Value} {da db l : List Int} {z x : Value} {W : World} (h : Making w B g n va vb da db l W) (hz : W.cell? ⟨g, k, none⟩ = some z) (hx : W.cell? ⟨ga, i, none⟩ = some x) :
    W.cell? ⟨B, 0, none⟩ = some va ∧ W.cell? ⟨B + 1, 0, none⟩ = some vb ∧ W.cell? ⟨g, k, none⟩ = some z ∧ W.cell? ⟨ga, i, none⟩ = some x ∧ Making w B g n va vb da db l W := ⟨h.ra, h.rb, hz, hx, h⟩
theorem makingS'' {w : World} {B g n k ga i : Nat} {va vb : Value} {da db l : List Int} {z x : Value} {W W' : World} (h : W.cell? ⟨B, 0, none⟩ = some va ∧ W.cell? ⟨B + 1, 0, none⟩ = some vb ∧ W.cell? ⟨g, k, none⟩ = some z ∧ W.cell? ⟨ga, i, none⟩ = some x ∧ Making w B g n va vb da db l W) (hb : Below W.heap.size W W') :
    W'.cell? ⟨B, 0, none⟩ = some va ∧ W'.cell? ⟨B + 1, 0, none⟩ = some vb ∧ W'.cell? ⟨g, k, none⟩ = some z ∧ W'.cell? ⟨ga, i, none⟩ = some x ∧ Making w B g n va vb da db l W' :=
  makingS' (h.2.2.2.2.below hb) (keep hb (cell_lt h.2.2.1) h.2.2.1) (keep hb (cell_lt h.2.2.2.1) h.2.2.2.1)

def ProdOut (w : World) (B g n : Nat) (va vb : Value) (da db : List Int) (i : Value) (wr : World) : Prop :=
  ∃ (k : Nat) (l : List Int), i = .int .i64 k ∧ k ≤ da.length ∧ Dig l ∧ bv l = bv (pad da k) * bv db ∧ Making w B g n va vb da db l wr
def ProdIn (w : World) (B g n i : Nat) (va vb : Value) (da db : List Int) (c j : Value) (wr : World) : Prop :=
  ∃ (k : Nat) (cc : Int) (l : List Int), j = .int .i64 k ∧ c = .int .i64 cc ∧ 0 ≤ cc ∧ cc ≤ 9999 ∧ k ≤ db.length + 1 ∧ Dig l ∧ ProdIs da db l i k cc ∧ Making w B g n va vb da db l wr

set_option maxHeartbeats 1600000 in
set_option maxRecDepth 100000 in
theorem prodB (va vb : Value) (da db : List Int) (w : World) (ha : Big w va da) (hb : Big w vb db) (hda : Dig da) (hdb : Dig db) (la : da.length ≤ 40000) (lb : db.length ≤ 40000) :
    Calls Tryz.prog 21 #[.agg #[va], .agg #[vb]] w (BigOut (fun es => bv es = bv da * bv db ∧ es.length ≤ da.length + db.length + 1 ∧ (bv es = 0 → es = [])) w) := by
  obtain ⟨i0, hi, hz0, hz1, hz2⟩ := info_parts infoInt
  have G0 := Lib.hid (going_start (t := 54) ha hb)
  have FA := Lib.hid ha.old
  have FB := Lib.hid hb.old
  obtain ⟨aa, ac, ea⟩ := ha.slice
  obtain ⟨ba, bc, eb⟩ := hb.slice
  have HA := Lib.hid hda
  have HD := Lib.hid hdb
  clear hda hdb ha hb
  subst ea eb
  obtain ⟨B, hB⟩ : ∃ B, w.heap.size = B := ⟨_, rfl⟩
  rw [hB] at G0 FA FB
  go_enter Tryz.func21, Tryz.ntmps21
  go_wp2_with (first | (at_make; refine wpList_make_full _ rfl _ _ 52 rfl (B + 3) 3 i0 (.int .i64 0) 1 Tryz.underlying52 hi hz0 hz1 _ _ _ _ (da.length + db.length + 1) rfl rfl ?c1 ?c2 ?c3 ?c4 ?c5 ?_) | go_in)
  case c1 => first | rfl | omega | (simp; omega)
  case c2 => first | rfl | omega | (simp; omega)
  case c3 => rw [hz2]; omega
  case c4 => unfold maxLen; omega
  case c5 => simp [hB]
  intro w1 hown hgrow
  have hown' : w1.ownsRow (B + 3) 3 1 (.slice (some ⟨B + 3, 0, none⟩) (da.length + db.length + 1) (da.length + db.length + 1)) (da.length + db.length + 1) ((List.replicate (da.length + db.length + 1) (0 : Int)).map (Value.int .i64)) := by
    rw [List.map_replicate, ← toList_madeCells_one]; exact hown
  have G1 := Lib.hid (making_start G0.out FA.out FB.out hown' hgrow)
  clear hown hown' hgrow G0
  go_wp2
  go_loopw [6] (fun i wr => ProdOut w B (B + 3) (da.length + db.length + 1) (.slice aa da.length ac) (.slice ba db.length bc) da db i wr) (fun i _ => (da.length - (intOf i).toNat))
  case atStart => exact ⟨0, List.replicate (da.length + db.length + 1) 0, rfl, Nat.zero_le _, dig_noughts _, by rw [bv_noughts]; simp [pad, bv_nil], G1.out⟩
  case round =>
    obtain ⟨i, l, rfl, hi1, hd, hv, G⟩ := hrel
    have HV := Lib.hid hv
    have HDs := Lib.hid hd
    have ra := G.ra
    have rb := G.rb
    have GG := Lib.hid G
    clear hv hd G
    by_cases hgo : i < da.length
    · go_wp2
      obtain ⟨wo, rfl⟩ : ∃ wo : World, wo = wr := ⟨_, rfl⟩
      clear ra rb
      go_loopw [7, 8, 9] (fun c j _ wr => ProdIn w B (B + 3) (da.length + db.length + 1) i (.slice aa da.length ac) (.slice ba db.length bc) da db c j wr) (fun _ j _ _ => (db.length + 2 - (intOf j).toNat))
      case atStart => exact ⟨0, 0, l, rfl, rfl, by decide, by decide, by omega, HDs.out, prod_first HV.out, GG.out⟩
      case round =>
        obtain ⟨j, cc, l2, rfl, rfl, c0, c1, hj, hd2, hv2, G2⟩ := hrel
        have HV2 := Lib.hid hv2
        have HD2 := Lib.hid hd2
        have rb2 := G2.rb
        have ra2 := G2.ra
        have GG2 := Lib.hid G2
        clear hv2 hd2 G2
        by_cases hin : j < db.length ∨ 0 < cc
        · have hjb : j ≤ db.length := by
            rcases hin with h | h
            · omega
            · exact prod_room HA.out HD.out HD2.out HV2.out h
          have hlen : i + j < l2.length := by rw [GG2.out.len]; omega
          have ST := prod_step HV2.out hlen
          have xb := dig_getD HA.out i
          have yb := dig_getD HD.out j
          have zb := dig_getD HD2.out (i + j)
          have cl := GG2.out.at (k := i + j) (by omega)
          have ca := GG2.out.a.cell hgo
          obtain ⟨x, EX⟩ : ∃ x, Hid (da.getD i 0 = x) := ⟨_, Lib.hid rfl⟩
          obtain ⟨y, EY⟩ : ∃ y, Hid (db.getD j 0 = y) := ⟨_, Lib.hid rfl⟩
          obtain ⟨z, EZ⟩ : ∃ z, Hid (l2.getD (i + j) 0 = z) := ⟨_, Lib.hid rfl⟩
          rw [EX.out] at xb ST ca
          rw [EY.out] at yb ST
          rw [EZ.out] at zb ST cl
          obtain ⟨x0, x1⟩ := xb
          obtain ⟨y0, y1⟩ := yb
          obtain ⟨z0, z1⟩ := zb
          obtain ⟨m0, m1⟩ := mul_small x0 x1 y0 y1
          obtain ⟨ga, oa, eaa, hcell⟩ := ca
          obtain ⟨p, EP⟩ : ∃ p, Hid (x * y = p) := ⟨_, Lib.hid rfl⟩
          rw [EP.out] at m0 m1 ST
          have HST := Lib.hid ST
          clear ST
          simp only [Value.slice.injEq, true_and] at eaa
          obtain ⟨rfl, rfl⟩ := eaa
          have HS := Lib.hid (makingS' GG2.out.drew cl hcell)
          have w1' : IntKind.i64.wrap ((i : Int) + j) = (i : Int) + j := IntWalk.i64_in _ (by omega)
          have w2 : IntKind.i64.wrap (x * y) = p := by rw [EP.out]; exact IntWalk.i64_in _ (by omega)
          have w3 : IntKind.i64.wrap (z + p) = z + p := IntWalk.i64_in _ (by omega)
          have w4 : IntKind.i64.wrap (z + p + cc) = z + p + cc := IntWalk.i64_in _ (by omega)
          have k1 : (0 : Int) ≤ (i : Int) + j := by omega
          have k2 : (i : Int) + j < (da.length : Int) + db.length + 1 := by omega
          have k3 : ((i : Int) + j).toNat = i + j := by omega
          by_cases h1 : j < db.length
          all_goals
            go_wp2_with fail
            go_region_held3 (fun w' => w'.cell? ⟨B, 0, none⟩ = some (.slice (some ⟨ga, 0, none⟩) da.length ac) ∧ w'.cell? ⟨B + 1, 0, none⟩ = some (.slice ba db.length bc) ∧ w'.cell? ⟨B + 3, i + j, none⟩ = some (.int .i64 z) ∧ w'.cell? ⟨ga, i, none⟩ = some (.int .i64 x) ∧ Making w B (B + 3) (da.length + db.length + 1) (.slice (some ⟨ga, 0, none⟩) da.length ac) (.slice ba db.length bc) da db l2 w') (first | exact HS.out | (refine makingS'' ?_ hb; assumption))
              (first
                | (go_at_call 30; (with_reducible refine (part_any (.slice ba db.length bc) db (j : Int) _ (Making.b (makingS (by assumption))) (by omega) (by omega)).mono ?_); rw [Int.toNat_natCast, EY.out]; rintro e w' ⟨rfl, hb⟩))
            have G3 : Making w B (B + 3) (da.length + db.length + 1) (.slice (some ⟨ga, 0, none⟩) da.length ac) (.slice ba db.length bc) da db l2 w' := makingS (by assumption)
            have fz := World.ownsRow.frozenAt G3.own (i + j)
            have cl3 := G3.at (k := i + j) (by omega)
            rw [EZ.out] at cl3
            have G4 := Lib.hid (G3.stored FA.out FB.out (i + j) ((z + p + cc) % 10000))
            clear G3
            go_wp2
            go_roundw
            case rel => exact ⟨j + 1, (z + p + cc) / 10000, _, by go_num, rfl, by omega, by omega, by omega, dig_set HD2.out _ (by omega) (by omega), HST.out, G4.out⟩
            case measure => simp [intOf]; omega
        · have n1 : ¬ j < db.length := by omega
          have n2 : ¬ 0 < cc := by omega
          have EN : Hid (bv l2 = bv (pad da (i + 1)) * bv db) := Lib.hid (prod_last (j := j) (by have := HV2.out; rwa [show cc = 0 from by omega] at this) (by omega))
          clear hin
          go_wp2
          go_roundw
          case rel => exact ⟨i + 1, l2, by go_num, by omega, HD2.out, EN.out, GG2.out⟩
          case measure => simp [intOf]; omega
    · have hkl : i = da.length := by omega
      have EN : Hid (bv l = bv da * bv db) := Lib.hid (by have := HV.out; rwa [hkl, pad_all] at this)
      clear hkl
      have hsz := GG.out.size
      go_wp2_with fail
      have hbg : Big wr (.slice (some ⟨B + 3, 0, none⟩) (da.length + db.length + 1) (da.length + db.length + 1)) l := by
        have := GG.out.len
        have h := World.ownsRow.mono GG.out.own (Nat.zero_le _)
        unfold Big
        rw [this]
        exact h
      (with_reducible refine (trim_any _ l _ hbg HDs.out (by rw [GG.out.len]; omega)).mono ?_)
      rintro e w2 ⟨v', es, rfl, hbig, hdig, ⟨hval, hlen, hnil⟩, hb2⟩
      have G4 := GG.out.below hb2
      have rc := G4.rc
      have rf := G4.rf
      have FIN : Hid (bv es = bv da * bv db ∧ es.length ≤ da.length + db.length + 1 ∧ (bv es = 0 → es = [])) := Lib.hid ⟨by rw [hval]; exact EN.out, by rw [GG.out.len] at hlen; exact hlen, hnil⟩
      have HO := Lib.hid (And.intro G4.old hbig)
      clear hval hlen hnil hb2 G4
      obtain ⟨a3, m3, c3, rfl⟩ := own_slice hbig
      go_wp2
      refine bodyPost_ret (v := .agg #[.slice a3 m3 c3]) (by simp [results, Tryz.results21, go_sem, rc]) rfl ⟨_, es, rfl, ?_, hdig, FIN.out, ?_⟩
      · exact World.ownsRow.mono (ownsRow_setCell_below HO.out.2 (by simp; omega) _) (by omega)
      · rw [hB]; exact HO.out.1.setCell (by simp; omega) _
end Go.Proofs.YtmaioofcmgaakaaGreatDoor
