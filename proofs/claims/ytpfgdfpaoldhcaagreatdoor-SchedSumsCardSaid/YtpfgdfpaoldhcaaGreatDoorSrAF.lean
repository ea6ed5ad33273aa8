/- Several texts in one: RoNum~W, MoRef, GBig~W, QuotNum. -/
import Derived.Test.YtpfgdfpaoldhcaaGreatDoorSrAD
import Derived.Test.YtpfgdfpaoldhcaaGreatDoorSrAE
set_option maxHeartbeats 8000000
set_option maxRecDepth 100000
set_option linter.unusedVariables false
set_option linter.unusedSimpArgs false
namespace Go.Proofs.YtpfgdfpaoldhcaaGreatDoor
def rk (s : ByteArray) : Int × Int := if ((rn 0).toList == s.toList) = true then (0, 0) else if ((rn 1).toList == s.toList) = true then (1, 0) else if ((rn 2).toList == s.toList) = true then (2, 0) else if ((rn 3).toList == s.toList) = true then (3, 0) else if ((rn 4).toList == s.toList) = true then (4, 0) else (0, 10)
end Go.Proofs.YtpfgdfpaoldhcaaGreatDoor
namespace Go.Proofs.YtpfgdfpaoldhcaaGreatDoor
open Go.RowKit
theorem rlast_in (n y m d : Int) (b : Bool) (w : World) (h : may y m d) (hn : nb y m d = n) (hb : decide (d = ln y m) = b) :
  Calls Tryz.prog 68 #[n] w fun e' w' => e' = .returned b ∧ Below w w w' := by
 have H := Held.start w
 have O1 : Hid (zAf n y m d 0) := zh (Or.inl ⟨h, hn, rfl⟩)
 obtain ⟨l, HB⟩ : ∃ l, Hid (ln y m = l) := ⟨_, zh rfl⟩
 have C1 := zh (fun v => zBu y m v)
 rw [HB.out] at hb C1
 clear h hn
 have hb2 : (d == l) = b := by rw [← hb, Bool.eq_iff_iff]; simp
 subst hb2
 go_enter Tryz.func68, Tryz.ntmps68
 go_wp2_with fail
 revert H
 with_reducible refine zG (fun _ => zA5 n y m d 0 _ O1.out) ?_
 intro w1 H
 go_wp2
 replace H := (H.triple w1 y m d 86 rfl)
 obtain ⟨cc0, cc1, cc2⟩ := H.cells3 w1
 have lc := H.lt w1 0 y i0_
 have HK := H.old
 clear H
 go_quiet ((go_at_call 75; with_reducible exact zAt (C1.out _)))
 go_wp2
 go_ret
 exact ⟨zs, zA7 HK _⟩
theorem zT5 (n : Int) (w : World) (h : n < 1 ∨ 3652059 < n) :
  Calls Tryz.prog 68 #[n] w fun e' w' => e' = .returned false ∧ Below w w w' := by
 have H := Held.start w
 have O1 : Hid (zAf n 0 0 0 3) := zh (Or.inr ⟨h, rfl, rfl, rfl, rfl⟩)
 clear h
 go_enter Tryz.func68, Tryz.ntmps68
 go_wp2_with fail
 revert H
 with_reducible refine zG (fun _ => zA5 n 0 0 0 3 _ O1.out) ?_
 intro w1 H
 go_wp2_with fail
 replace H := (H.triple w1 (0:Int) (0:Int) (0:Int) 86 rfl)
 go_ret
 exact ⟨rfl, H.old⟩
theorem zAn (n : Int) (b : Bool) (w : World) (h : zB6 n b) : Calls Tryz.prog 68 #[n] w fun e' w' => e' = .returned b ∧ Below w w w' := by
 rcases h with ⟨y, m, d, h1, h2, rfl⟩ | ⟨h, rfl⟩
 ·exact rlast_in n y m d _ w h1 h2 rfl
 ·exact zT5 n w h
end Go.Proofs.YtpfgdfpaoldhcaaGreatDoor
namespace Go.Proofs.YtpfgdfpaoldhcaaGreatDoor
theorem bv_split (l : List Int) (k : Nat) : ∃ r, bv l = bv (pad l k) + p4 k * r := by
 by_cases h : l.length ≤ k
 ·exact ⟨0, by rw [zDw l k h]; omega⟩
 ·refine ⟨bv (l.drop k), ?_⟩
  have e : pad l k = l.take k := by
   apply List.ext_getElem
   ·simp [pad]; omega
   ·intro i h1 h2
    simp at h2
    simp [pad, List.getElem?_eq_getElem (by omega : i < l.length)]
  have := zGd (l.take k) (l.drop k)
  rw [List.take_append_drop] at this
  rw [this, e]
  have el : (l.take k).length = k := zx
  rw [el]
end Go.Proofs.YtpfgdfpaoldhcaaGreatDoor
namespace Go.Proofs.YtpfgdfpaoldhcaaGreatDoor
open Go.RowKit
end Go.Proofs.YtpfgdfpaoldhcaaGreatDoor
namespace Go.Proofs.YtpfgdfpaoldhcaaGreatDoor
open Go.RowKit
end Go.Proofs.YtpfgdfpaoldhcaaGreatDoor
namespace Go.Proofs.YtpfgdfpaoldhcaaGreatDoor
open Go.RowKit
end Go.Proofs.YtpfgdfpaoldhcaaGreatDoor
namespace Go.Proofs.YtpfgdfpaoldhcaaGreatDoor
open Go.RowKit
theorem Going.more {w : World} {B : Nat} {va vb v v' : Value} {da db ds : List Int} {W W' : World} {x : Int} {o : Obj} (h : Going w B va vb da db v ds W) (fa : ∀ k, va.ownBlock = some k → k < B) (fb : ∀ k, vb.ownBlock = some k → k < B)
  (hown : W'.ownsRow (B + 3) 3 1 v' (ds.length + 1) (ds.map (Value.int .i64) ++ [.int .i64 x])) (hg : (W.alloc o).grownBy W' v.ownBlock) : Going w B va vb da db v' (ds ++ [x]) W' := by
 have R : Below (B + 3) W W' := zJf h.size h.own hg
 have far : ∀ {u : Value} {es : List Int}, Big W u es → (∀ k, u.ownBlock = some k → k < B) → Big W' u es := by
  intro u es hu fu
  obtain ⟨h1, h2⟩ := hu
  refine ⟨h1, ?_⟩
  rcases h2 with h2 | ⟨g, cap, cur, hv, hgg, hh, hr⟩
  ·exact .inl h2
  ·have := fu g (by rw [hv]; rfl)
   exact .inr ⟨g, cap, cur, hv, hgg, by rw [R.block g zo]; exact hh, hr⟩
 refine ⟨far h.a fa, far h.b fb, by simpa using hown, (R.cell (p := ⟨B, 0, none⟩) zs).trans h.ra, (R.cell (p := ⟨B + 1, 0, none⟩) zs).trans h.rb, (R.cell (p := ⟨B + 2, 0, none⟩) zs).trans h.rc,
  (R.frozen (p := ⟨B + 2, 0, none⟩) zs).trans h.rf, h.old.trans (R.mono zo), by have := R.size; have := h.size; omega⟩
theorem zC5 {w : World} {B : Nat} {va vb v : Value} {da db ds : List Int} {W : World} (h : W.cell? ⟨B, 0, none⟩ = some va ∧ W.cell? ⟨B + 1, 0, none⟩ = some vb ∧ Going w B va vb da db v ds W) : Going w B va vb da db v ds W := h.2.2
theorem zF9 {w : World} {B : Nat} {va vb v : Value} {da db ds : List Int} {W : World} (h : Going w B va vb da db v ds W) : W.cell? ⟨B, 0, none⟩ = some va ∧ W.cell? ⟨B + 1, 0, none⟩ = some vb ∧ Going w B va vb da db v ds W := ⟨h.ra, h.rb, h⟩
def PlusRel (w : World) (B : Nat) (va vb : Value) (da db : List Int) (v c i : Value) (wr : World) : Prop :=
 ∃ (k : Nat) (cc : Int) (ds : List Int), i = .int .i64 k ∧ c = .int .i64 cc ∧ ds.length = k ∧ 0 ≤ cc ∧ cc ≤ 1 ∧ Dig ds ∧ bv ds + p4 k * cc = bv (pad da k) + bv (pad db k) ∧ k ≤ max da.length db.length + 1 ∧ (max da.length db.length < k → cc = 0) ∧ Going w B va vb da db v ds wr
theorem zS6 {da db ds : List Int} {k : Nat} {cc : Int} (ha : Dig da) (hb : Dig db) (hl : ds.length = k) (hd : Dig ds) (hv : bv ds + p4 k * cc = bv (pad da k) + bv (pad db k)) :
  Dig (ds ++ [(da.getD k 0 + db.getD k 0 + cc) % 10000]) ∧ bv (ds ++ [(da.getD k 0 + db.getD k 0 + cc) % 10000]) + p4 (k + 1) * ((da.getD k 0 + db.getD k 0 + cc) / 10000) = bv (pad da (k + 1)) + bv (pad db (k + 1)) := by
 have x := zB4 ha k
 have y := zB4 hb k
 refine ⟨zIa hd zo zo, ?_⟩
 rw [zGe, hl, zAu, zAu, zDg]
 generalize da.getD k 0 = X at *
 generalize db.getD k 0 = Y at *
 have e : X + Y + cc = (X + Y + cc) % 10000 + 10000 * ((X + Y + cc) / 10000) := zo
 have : p4 k * (X + Y + cc) = p4 k * ((X + Y + cc) % 10000) + 10000 * p4 k * ((X + Y + cc) / 10000) := by
  conv => lhs; rw [e]
  rw [Int.mul_add, ← Int.mul_assoc, Int.mul_comm (p4 k) 10000]
 rw [Int.mul_add, Int.mul_add] at this
 omega
theorem plus_nil (aa : Option Addr) (ac : Nat) (ba : Option Addr) (bc : Nat) (w : World) :
  Calls Tryz.prog 43 #[.agg #[.slice aa 0 ac], .agg #[.slice ba 0 bc]] w (zEg (fun es => es = []) w) := by
 go_enter Tryz.func43, Tryz.ntmps43
 go_wp2
 refine wp_loop_rounds 1 ?_
 rw [rounds_succ]
 go_wp2
 exact bodyPost_ret (v := .agg #[.slice none 0 0]) (by simp [results, Tryz.results43, go_sem]) rfl ⟨_, [], rfl, World.ownsRow_nil _ _ _ _, zE6, rfl, (((Below.refl _ _).alloc (Nat.le_refl _) _).alloc zs _).alloc zw _⟩
theorem zqcqgf {P : Prop} (h : P := by
 intro v' w1 hown' hgrow _
 have G3 := Going.more G2 FA.out FB.out hown' hgrow
 have H3 := zh G3
 clear hown' hgrow G3 G2
 go_wp2
 go_roundw
 case rel =>
  exact ⟨k + 1, (x + y + cc) / 10000, ds ++ [(x + y + cc) % 10000], by go_num, rfl, by simp [HL.out], zo, zo, ST.out.1, ST.out.2, zo, CZ.out, H3.out⟩
 case measure => simp [intOf]; omega) : P := h
theorem zqcyv3 {P : Prop} (h : P := by
 intro j u hj
 match j, hj with
 | 0, hj => simp at hj; subst hj; simp [Addr.add, World.cell?_alloc_new]) : P := h
theorem plusB (va vb : Value) (da db : List Int) (w : World) (ha : Big w va da) (hb : Big w vb db) (hda : Dig da) (hdb : Dig db) (la : da.length ≤ 90000) (lb : db.length ≤ 90000) :
  Calls Tryz.prog 43 #[.agg #[va], .agg #[vb]] w (zEg (fun es => bv es = bv da + bv db ∧ es.length ≤ max da.length db.length + 1) w) := by
 obtain ⟨i0, hi, hz0, hz1, hz2⟩ := info_parts zFa
 have G0 := zh (zE7 (t := 68) ha hb)
 have FA := zh ha.old
 have FB := zh hb.old
 obtain ⟨aa, ac, ea⟩ := ha.slice
 obtain ⟨ba, bc, eb⟩ := hb.slice
 have HA := zh hda
 have HD := zh hdb
 clear hda hdb ha hb
 subst ea eb
 obtain ⟨B, hB⟩ : ∃ B, w.heap.size = B := ⟨_, rfl⟩
 rw [hB] at G0 FA FB
 go_enter Tryz.func43, Tryz.ntmps43
 go_wp2
 go_loopw [5, 6, 7] (fun v c i wr => PlusRel w B (.slice aa da.length ac) (.slice ba db.length bc) da db v c i wr) (fun _ _ i _ => (max da.length db.length + 2 - (intOf i).toNat))
 case atStart => exact ⟨0, 0, [], rfl, rfl, rfl, zd, zd, zE6, rfl, zo, fun h => by omega, G0.out⟩
 case round =>
  obtain ⟨k, cc, ds, rfl, rfl, hl, c0, c1, hd, hv, hk, hc, G⟩ := hrel
  have HV := zh hv
  have HC := zh hc
  have HL := zh hl
  have HDs := zh hd
  have ra := G.ra
  have rb := G.rb
  have GG := zh G
  clear hv hc hl hd G
  have hk2 : k ≤ 90001 := zo
  by_cases hgo : k < da.length ∨ k < db.length ∨ 0 < cc
  ·have xb := zB4 HA.out k
   have yb := zB4 HD.out k
   obtain ⟨x, EX⟩ : ∃ x, Hid (da.getD k 0 = x) := ⟨_, zh rfl⟩
   obtain ⟨y, EY⟩ : ∃ y, Hid (db.getD k 0 = y) := ⟨_, zh rfl⟩
   rw [EX.out] at xb
   rw [EY.out] at yb
   obtain ⟨x0, x1⟩ := xb
   obtain ⟨y0, y1⟩ := yb
   have st := zS6 HA.out HD.out HL.out HDs.out HV.out
   rw [EX.out, EY.out] at st
   have ST := zh st
   have CZ : Hid (max da.length db.length < k + 1 → (x + y + cc) / 10000 = 0) := zh (fun hm => by
    have hx : da.getD k 0 = 0 := by simp [List.getD, List.getElem?_eq_none (by omega : da.length ≤ k)]
    have hy : db.getD k 0 = 0 := by simp [List.getD, List.getElem?_eq_none (by omega : db.length ≤ k)]
    rw [EX.out] at hx
    rw [EY.out] at hy
    omega)
   have KM : k ≤ max da.length db.length := by
    by_cases e : max da.length db.length < k
    ·have := HC.out e; omega
    ·omega
   have HS := zh (zF9 GG.out.drew)
   clear st
   have e1 : IntKind.i64.wrap (x + y) = x + y := IntWalk.i64_in _ zo
   have e2 : IntKind.i64.wrap (x + y + cc) = x + y + cc := IntWalk.i64_in _ zo
   have hgo' : k < da.length ∨ (¬ k < da.length ∧ k < db.length) ∨ (¬ k < da.length ∧ ¬ k < db.length ∧ 0 < cc) := zo
   clear hgo
   rcases hgo' with h1 | ⟨h1, h2⟩ | ⟨h1, h2, h3⟩
   ·go_wp2_with fail
    go_region_held3 (fun w' => w'.cell? ⟨B, 0, none⟩ = some (.slice aa da.length ac) ∧ w'.cell? ⟨B + 1, 0, none⟩ = some (.slice ba db.length bc) ∧ Going w B (.slice aa da.length ac) (.slice ba db.length bc) da db u5 ds w') (first | exact HS.out | (refine zF9 (Going.below (zC5 ?_) hb); assumption))
     (first
      | (go_at_call 56; (with_reducible refine (zBr (.slice aa da.length ac) da (k : Int) _ (Going.a (zC5 za)) zo zo).mono ?_); rw [Int.toNat_natCast, EX.out]; rintro e w' ⟨rfl, hb⟩)
      | (go_at_call 56; (with_reducible refine (zBr (.slice ba db.length bc) db (k : Int) _ (Going.b (zC5 za)) zo zo).mono ?_); rw [Int.toNat_natCast, EY.out]; rintro e w' ⟨rfl, hb⟩))
    have G2 : Going w B (.slice aa da.length ac) (.slice ba db.length bc) da db u5 ds w' := zC5 za
    have hsz := G2.size
    have HL2 : ds.length ≤ 90001 := by have := HL.out; omega
    go_wp2_with (at_builtin; refine wpList_append_own _ rfl _ _ 26 rfl (B + 3) 3 i0 (0:Int) 1 8 Tryz.underlying26 hi hz0 hz1 hz2 rfl zd _ _ _ rfl (G2.own.alloc _) ⟨w', 0, none⟩ 1 1 [.int .i64 ((x + y + cc) % 10000)] rfl rfl ?c1a ?c2a ?c3a ?c4a ?c5a ?_)
    case c1a =>
     exact zqcyv3
    case c2a => intro u hu; simp at hu; subst hu; rfl
    case c3a => unfold maxLen; omega
    case c4a => omega
    case c5a => simp; omega
    ·exact zqcqgf
   ·go_wp2_with fail
    go_region_held3 (fun w' => w'.cell? ⟨B, 0, none⟩ = some (.slice aa da.length ac) ∧ w'.cell? ⟨B + 1, 0, none⟩ = some (.slice ba db.length bc) ∧ Going w B (.slice aa da.length ac) (.slice ba db.length bc) da db u5 ds w') (first | exact HS.out | (refine zF9 (Going.below (zC5 ?_) hb); assumption))
     (first
      | (go_at_call 56; (with_reducible refine (zBr (.slice aa da.length ac) da (k : Int) _ (Going.a (zC5 za)) zo zo).mono ?_); rw [Int.toNat_natCast, EX.out]; rintro e w' ⟨rfl, hb⟩)
      | (go_at_call 56; (with_reducible refine (zBr (.slice ba db.length bc) db (k : Int) _ (Going.b (zC5 za)) zo zo).mono ?_); rw [Int.toNat_natCast, EY.out]; rintro e w' ⟨rfl, hb⟩))
    have G2 : Going w B (.slice aa da.length ac) (.slice ba db.length bc) da db u5 ds w' := zC5 za
    have hsz := G2.size
    have HL2 : ds.length ≤ 90001 := by have := HL.out; omega
    go_wp2_with (at_builtin; refine wpList_append_own _ rfl _ _ 26 rfl (B + 3) 3 i0 (0:Int) 1 8 Tryz.underlying26 hi hz0 hz1 hz2 rfl zd _ _ _ rfl (G2.own.alloc _) ⟨w', 0, none⟩ 1 1 [.int .i64 ((x + y + cc) % 10000)] rfl rfl ?c1b ?c2b ?c3b ?c4b ?c5b ?_)
    case c1b =>
     exact zqcyv3
    case c2b => intro u hu; simp at hu; subst hu; rfl
    case c3b => unfold maxLen; omega
    case c4b => omega
    case c5b => simp; omega
    ·exact zqcqgf
   ·go_wp2_with fail
    go_region_held3 (fun w' => w'.cell? ⟨B, 0, none⟩ = some (.slice aa da.length ac) ∧ w'.cell? ⟨B + 1, 0, none⟩ = some (.slice ba db.length bc) ∧ Going w B (.slice aa da.length ac) (.slice ba db.length bc) da db u5 ds w') (first | exact HS.out | (refine zF9 (Going.below (zC5 ?_) hb); assumption))
     (first
      | (go_at_call 56; (with_reducible refine (zBr (.slice aa da.length ac) da (k : Int) _ (Going.a (zC5 za)) zo zo).mono ?_); rw [Int.toNat_natCast, EX.out]; rintro e w' ⟨rfl, hb⟩)
      | (go_at_call 56; (with_reducible refine (zBr (.slice ba db.length bc) db (k : Int) _ (Going.b (zC5 za)) zo zo).mono ?_); rw [Int.toNat_natCast, EY.out]; rintro e w' ⟨rfl, hb⟩))
    have G2 : Going w B (.slice aa da.length ac) (.slice ba db.length bc) da db u5 ds w' := zC5 za
    have hsz := G2.size
    have HL2 : ds.length ≤ 90001 := by have := HL.out; omega
    go_wp2_with (at_builtin; refine wpList_append_own _ rfl _ _ 26 rfl (B + 3) 3 i0 (0:Int) 1 8 Tryz.underlying26 hi hz0 hz1 hz2 rfl zd _ _ _ rfl (G2.own.alloc _) ⟨w', 0, none⟩ 1 1 [.int .i64 ((x + y + cc) % 10000)] rfl rfl ?c1c ?c2c ?c3c ?c4c ?c5c ?_)
    case c1c =>
     exact zqcyv3
    case c2c => intro u hu; simp at hu; subst hu; rfl
    case c3c => unfold maxLen; omega
    case c4c => omega
    case c5c => simp; omega
    ·exact zqcqgf
  ·have hc0 : cc = 0 := zo
   have n1 : ¬ k < da.length := zo
   have n2 : ¬ k < db.length := zo
   have n3 : ¬ 0 < cc := zo
   have HC0 := zh hc0
   clear hc0 hgo
   obtain ⟨a3, m3, c3, rfl⟩ := zCw GG.out.own
   have rc := GG.out.rc
   have rf := GG.out.rf
   go_wp2
   refine bodyPost_ret (v := .agg #[.slice a3 m3 c3]) (by simp [results, Tryz.results43, go_sem, rc]) rfl ⟨_, ds, rfl, ?_, HDs.out, ⟨?_, ?_⟩, ?_⟩
   ·exact World.ownsRow.mono (ownsRow_setCell_below GG.out.own zs _) zo
   ·have := HV.out
    rw [HC0.out, Int.mul_zero, Int.add_zero, zDw da k zo, zDw db k zo] at this
    exact this
   ·rw [HL.out]; exact hk
   ·rw [hB]; exact GG.out.old.setCell zx _
end Go.Proofs.YtpfgdfpaoldhcaaGreatDoor
namespace Go.Proofs.YtpfgdfpaoldhcaaGreatDoor
open Go.RowKit
def LessRel (w : World) (B : Nat) (va vb : Value) (da db : List Int) (v c i : Value) (wr : World) : Prop :=
 ∃ (k : Nat) (cc : Int) (ds : List Int), i = .int .i64 k ∧ c = .int .i64 cc ∧ ds.length = k ∧ 0 ≤ cc ∧ cc ≤ 1 ∧ Dig ds ∧ bv (pad da k) - bv (pad db k) = bv ds - p4 k * cc ∧ k ≤ da.length ∧ Going w B va vb da db v ds wr
theorem zJk {da db ds : List Int} {k : Nat} {cc x y s b : Int} (hx : da.getD k 0 = x) (hy : db.getD k 0 = y) (hs : x - y - cc = s - 10000 * b) (s0 : 0 ≤ s) (s1 : s ≤ 9999) (hl : ds.length = k) (hd : Dig ds) (hv : bv (pad da k) - bv (pad db k) = bv ds - p4 k * cc) :
  Dig (ds ++ [s]) ∧ bv (pad da (k + 1)) - bv (pad db (k + 1)) = bv (ds ++ [s]) - p4 (k + 1) * b := by
 refine ⟨zIa hd s0 s1, ?_⟩
 rw [zGe, hl, zAu, zAu, zDg, hx, hy]
 have : p4 k * (x - y - cc) = p4 k * s - 10000 * p4 k * b := by
  rw [hs, Int.mul_sub, ← Int.mul_assoc, Int.mul_comm (p4 k) 10000]
 rw [Int.mul_sub, Int.mul_sub] at this
 omega
theorem less_end {da db ds : List Int} {cc : Int} (hda : Dig da) (hdb : Dig db) (hd : Dig ds) (hl : ds.length = da.length) (c0 : 0 ≤ cc) (hle : bv db ≤ bv da) (hv : bv (pad da da.length) - bv (pad db da.length) = bv ds - p4 da.length * cc) : bv ds = bv da - bv db := by
 rw [zDw da _ (Nat.le_refl _)] at hv
 have ba := zD8 hda
 have bd := zD8 hd
 rw [hl] at bd
 obtain ⟨r, hr⟩ := bv_split db da.length
 have bp := zD8 (zI9 hdb da.length)
 rw [zDq] at bp
 have bb := zD8 hdb
 have pp := zE2 da.length
 have r0 : r = 0 := by
  by_cases h1 : 1 ≤ r
  ·have := Int.mul_le_mul_of_nonneg_left h1 (Int.le_of_lt pp); omega
  ·by_cases h2 : r ≤ -1
   ·have := Int.mul_le_mul_of_nonneg_left h2 (Int.le_of_lt pp); rw [Int.mul_neg] at this; omega
   ·omega
 rw [r0, Int.mul_zero, Int.add_zero] at hr
 have z : cc = 0 := by
  by_cases h1 : 1 ≤ cc
  ·have := Int.mul_le_mul_of_nonneg_left h1 (Int.le_of_lt pp); omega
  ·omega
 rw [z, Int.mul_zero] at hv
 omega
theorem lessB (va vb : Value) (da db : List Int) (w : World) (ha : Big w va da) (hb : Big w vb db) (hda : Dig da) (hdb : Dig db) (la : da.length ≤ 90000) (hle : bv db ≤ bv da) :
  Calls Tryz.prog 83 #[.agg #[va], .agg #[vb]] w (zEg (fun es => bv es = bv da - bv db ∧ es.length ≤ da.length ∧ (bv es = 0 → es = [])) w) := by
 obtain ⟨i0, hi, hz0, hz1, hz2⟩ := info_parts zFa
 have G0 := zh (zE7 (t := 68) ha hb)
 have FA := zh ha.old
 have FB := zh hb.old
 obtain ⟨aa, ac, ea⟩ := ha.slice
 obtain ⟨ba, bc, eb⟩ := hb.slice
 have HA := zh hda
 have HD := zh hdb
 have HLE := zh hle
 clear hda hdb ha hb hle
 subst ea eb
 obtain ⟨B, hB⟩ : ∃ B, w.heap.size = B := ⟨_, rfl⟩
 rw [hB] at G0 FA FB
 go_enter Tryz.func83, Tryz.ntmps83
 go_wp2
 go_loopw [5, 6, 7] (fun v c i wr => LessRel w B (.slice aa da.length ac) (.slice ba db.length bc) da db v c i wr) (fun _ _ i _ => (da.length - (intOf i).toNat))
 case atStart => exact ⟨0, 0, [], rfl, rfl, rfl, zd, zd, zE6, rfl, zo, G0.out⟩
 case round =>
  obtain ⟨k, cc, ds, rfl, rfl, hl, c0, c1, hd, hv, hk, G⟩ := hrel
  have HV := zh hv
  have HL := zh hl
  have HDs := zh hd
  have ra := G.ra
  have rb := G.rb
  have GG := zh G
  clear hv hl hd G
  have hk2 : k ≤ 90000 := zo
  by_cases hgo : k < da.length
  ·have xb := zB4 HA.out k
   have yb := zB4 HD.out k
   obtain ⟨x, EX⟩ : ∃ x, Hid (da.getD k 0 = x) := ⟨_, zh rfl⟩
   obtain ⟨y, EY⟩ : ∃ y, Hid (db.getD k 0 = y) := ⟨_, zh rfl⟩
   rw [EX.out] at xb
   rw [EY.out] at yb
   obtain ⟨x0, x1⟩ := xb
   obtain ⟨y0, y1⟩ := yb
   have HS := zh (zF9 GG.out.drew)
   have e1 : IntKind.i64.wrap (x - y) = x - y := IntWalk.i64_in _ zo
   have e2 : IntKind.i64.wrap (x - y - cc) = x - y - cc := IntWalk.i64_in _ zo
   go_wp2_with fail
   go_region_held3 (fun w' => w'.cell? ⟨B, 0, none⟩ = some (.slice aa da.length ac) ∧ w'.cell? ⟨B + 1, 0, none⟩ = some (.slice ba db.length bc) ∧ Going w B (.slice aa da.length ac) (.slice ba db.length bc) da db u5 ds w') (first | exact HS.out | (refine zF9 (Going.below (zC5 ?_) hb); assumption))
    (first
     | (go_at_call 56; (with_reducible refine (zBr (.slice aa da.length ac) da (k : Int) _ (Going.a (zC5 za)) zo zo).mono ?_); rw [Int.toNat_natCast, EX.out]; rintro e w' ⟨rfl, hb⟩)
     | (go_at_call 56; (with_reducible refine (zBr (.slice ba db.length bc) db (k : Int) _ (Going.b (zC5 za)) zo zo).mono ?_); rw [Int.toNat_natCast, EY.out]; rintro e w' ⟨rfl, hb⟩))
   have G2 : Going w B (.slice aa da.length ac) (.slice ba db.length bc) da db u5 ds w' := zC5 za
   have hsz := G2.size
   have HL2 : ds.length ≤ 90000 := by have := HL.out; omega
   clear e1 e2
   by_cases hneg : x - y - cc < 0
   ·have ST := zh (zJk (s := x - y - cc + 10000) (b := 1) EX.out EY.out zo zo zo HL.out HDs.out HV.out)
    go_wp2_with (at_builtin; refine wpList_append_own _ rfl _ _ 26 rfl (B + 3) 3 i0 (0:Int) 1 8 Tryz.underlying26 hi hz0 hz1 hz2 rfl zd _ _ _ rfl (G2.own.alloc _) ⟨w', 0, none⟩ 1 1 [.int .i64 (x - y - cc + 10000)] rfl rfl ?c1a ?c2a ?c3a ?c4a ?c5a ?_)
    case c1a =>
     exact zqcyv3
    case c2a => first | (intro u hu; simp at hu; subst hu; rfl) | rfl | trivial
    case c3a => unfold maxLen; omega
    case c4a => omega
    case c5a => first | (simp; omega) | omega
    ·intro v' w1 hown' hgrow _
     have G3 := Going.more G2 FA.out FB.out hown' hgrow
     have H3 := zh G3
     clear hown' hgrow G3 G2
     go_wp2
     go_roundw
     case rel =>
      exact ⟨k + 1, 1, ds ++ [x - y - cc + 10000], by go_num, rfl, by simp [HL.out], zd, zd, ST.out.1, ST.out.2, zo, H3.out⟩
     case measure => simp [intOf]; omega
   ·have ST := zh (zJk (s := x - y - cc) (b := 0) EX.out EY.out zo zo zo HL.out HDs.out HV.out)
    go_wp2_with (at_builtin; refine wpList_append_own _ rfl _ _ 26 rfl (B + 3) 3 i0 (0:Int) 1 8 Tryz.underlying26 hi hz0 hz1 hz2 rfl zd _ _ _ rfl (G2.own.alloc _) ⟨w', 0, none⟩ 1 1 [.int .i64 (x - y - cc)] rfl rfl ?c1b ?c2b ?c3b ?c4b ?c5b ?_)
    case c2b => first | (intro u hu; simp at hu; subst hu; rfl) | rfl | trivial
    case c3b => unfold maxLen; omega
    case c4b => omega
    case c5b => first | (simp; omega) | omega
    ·intro v' w1 hown' hgrow _
     have G3 := Going.more G2 FA.out FB.out hown' hgrow
     have H3 := zh G3
     clear hown' hgrow G3 G2
     go_wp2
     go_roundw
     case rel =>
      exact ⟨k + 1, 0, ds ++ [x - y - cc], by go_num, rfl, by simp [HL.out], zd, zd, ST.out.1, ST.out.2, zo, H3.out⟩
     case measure => simp [intOf]; omega
  ·have hkl : k = da.length := zo
   have EN : Hid (bv ds = bv da - bv db) := zh (less_end HA.out HD.out HDs.out (by rw [HL.out]; exact hkl) c0 HLE.out (by rw [← hkl]; exact HV.out))
   have HKL := zh hkl
   clear hkl
   have hsz := GG.out.size
   go_wp2_with fail
   have hbg : Big wr u5 ds := World.ownsRow.mono GG.out.own (Nat.zero_le _)
   with_reducible refine (zG4 _ ds _ hbg HDs.out (by rw [HL.out]; omega)).mono ?_
   rintro e w2 ⟨v', es, rfl, hbig, hdig, ⟨hval, hlen, hnil⟩, hb2⟩
   have G4 := GG.out.below hb2
   have rc := G4.rc
   have rf := G4.rf
   have FIN : Hid (bv es = bv da - bv db ∧ es.length ≤ da.length ∧ (bv es = 0 → es = [])) := zh ⟨by rw [hval]; exact EN.out, by rw [HL.out, HKL.out] at hlen; exact hlen, hnil⟩
   have HO := zh (And.intro G4.old hbig)
   clear hval hlen hnil hb2
   obtain ⟨a3, m3, c3, rfl⟩ := zCw hbig
   go_wp2
   refine bodyPost_ret (v := .agg #[.slice a3 m3 c3]) (by simp [results, Tryz.results83, go_sem, rc]) rfl ⟨_, es, rfl, ?_, hdig, FIN.out, ?_⟩
   ·exact World.ownsRow.mono (ownsRow_setCell_below HO.out.2 zx _) zo
   ·rw [hB]; exact HO.out.1.setCell zx _
end Go.Proofs.YtpfgdfpaoldhcaaGreatDoor
namespace Go.Proofs.YtpfgdfpaoldhcaaGreatDoor
end Go.Proofs.YtpfgdfpaoldhcaaGreatDoor
namespace Go.Proofs.YtpfgdfpaoldhcaaGreatDoor
open Go.RowKit
end Go.Proofs.YtpfgdfpaoldhcaaGreatDoor
namespace Go.Proofs.YtpfgdfpaoldhcaaGreatDoor
open Go.RowKit
theorem BigN.nonneg {w : World} {v : Value} {n : Int} {m : Nat} (h : BigN w v n m) : 0 ≤ n := by
 obtain ⟨ds, _, h2, rfl, _⟩ := h
 exact (zD8 h2).1
theorem BigN.more {w : World} {v : Value} {n : Int} {m m' : Nat} (h : BigN w v n m) (hm : m ≤ m') : BigN w v n m' := by
 obtain ⟨ds, h1, h2, h3, h4⟩ := h
 exact ⟨ds, h1, h2, h3, Nat.le_trans h4.1 hm, h4.2⟩
theorem plus_n (va vb : Value) (x y : Int) (a b : Nat) (w : World) (ha : BigN w va x a) (hb : BigN w vb y b) (la : a ≤ 90000) (lb : b ≤ 90000) :
  Calls Tryz.prog 43 #[.agg #[va], .agg #[vb]] w (zEh (x + y) (max a b + 1) w) := by
 obtain ⟨da, a1, a2, rfl, a4⟩ := ha
 obtain ⟨db, b1, b2, rfl, b4⟩ := hb
 by_cases hz : bv da + bv db = 0
 ·have za := (zD8 a2).1
  have zb := (zD8 b2).1
  obtain rfl := a4.2 zo
  obtain rfl := b4.2 zo
  obtain ⟨aa, ac, rfl⟩ := a1.slice
  obtain ⟨ba, bc, rfl⟩ := b1.slice
  refine (plus_nil aa ac ba bc w).mono fun _ _ h => zEb h fun _ h => ?_
  subst h
  exact ⟨rfl, Nat.zero_le _, fun _ => rfl⟩
 ·exact (plusB va vb da db w a1 b1 a2 b2 zo zo).mono fun _ _ h => zEb h fun _ h => ⟨h.1, zo, fun h' => absurd (h.1.symm.trans h') hz⟩
theorem less_n (va vb : Value) (x y : Int) (a b : Nat) (w : World) (ha : BigN w va x a) (hb : BigN w vb y b) (la : a ≤ 90000) (hle : y ≤ x) :
  Calls Tryz.prog 83 #[.agg #[va], .agg #[vb]] w (zEh (x - y) a w) := by
 obtain ⟨da, a1, a2, rfl, a4⟩ := ha
 obtain ⟨db, b1, b2, rfl, b4⟩ := hb
 exact (lessB va vb da db w a1 b1 a2 b2 zo hle).mono fun _ _ h => zEb h fun _ h => ⟨h.1, zo, h.2.2⟩
end Go.Proofs.YtpfgdfpaoldhcaaGreatDoor
namespace Go.Proofs.YtpfgdfpaoldhcaaGreatDoor
open Go.RowKit
end Go.Proofs.YtpfgdfpaoldhcaaGreatDoor
namespace Go.Proofs.YtpfgdfpaoldhcaaGreatDoor
open Go.RowKit
end Go.Proofs.YtpfgdfpaoldhcaaGreatDoor
namespace Go.Proofs.YtpfgdfpaoldhcaaGreatDoor
open Go.RowKit
end Go.Proofs.YtpfgdfpaoldhcaaGreatDoor
namespace Go.Proofs.YtpfgdfpaoldhcaaGreatDoor
def zIz (da q : List Int) (y : Int) (k : Nat) (r : Int) : Prop := bv (da.drop k) = bv (q.drop k) * y + r ∧ 0 ≤ r ∧ r < y
theorem zOj {da q : List Int} {y : Int} (hy : 0 < y) (hq : q.length = da.length) : zIz da q y da.length 0 := by
 refine ⟨?_, Int.le_refl _, hy⟩
 rw [List.drop_of_length_le (Nat.le_refl _), List.drop_of_length_le zo, zD9]
 simp
theorem zIb (l : List Int) (k : Nat) (h : k < l.length) : bv (l.drop k) = l.getD k 0 + 10000 * bv (l.drop (k + 1)) := by
 rw [List.drop_eq_getElem_cons h, zC8]
 simp [List.getD, List.getElem?_eq_getElem h]
theorem zSg {da q : List Int} {y r lo : Int} {k : Nat} (h : zIz da q y (k + 1) r) (hk : k < da.length) (hq : q.length = da.length)
  (h1 : y * lo ≤ da.getD k 0 + 10000 * r) (h2 : da.getD k 0 + 10000 * r < y * (lo + 1)) : zIz da (q.set k lo) y k (da.getD k 0 + 10000 * r - y * lo) := by
 obtain ⟨e, r0, r1⟩ := h
 refine ⟨?_, zo, by rw [Int.mul_add] at h2; omega⟩
 rw [zIb da k hk, zIb _ k zx, List.drop_set_of_lt zo, e]
 have : (q.set k lo).getD k 0 = lo := by simp [List.getD, show k < q.length by omega]
 rw [this]
 generalize da.getD k 0 = x
 generalize bv (q.drop (k + 1)) = Q
 grind
theorem zOi {x y r : Int} (x1 : x ≤ 9999) (r1 : r < y) : x + 10000 * r < y * 10000 := zo
theorem zSf {da q : List Int} {y r : Int} (h : zIz da q y 0 r) : bv q = bv da / y ∧ r = bv da % y := by
 obtain ⟨e, r0, r1⟩ := h
 rw [List.drop_zero, List.drop_zero] at e
 have hy : 0 < y := zo
 constructor
 ·rw [e, Int.add_comm, Int.add_mul_ediv_right _ _ zo, Int.ediv_eq_zero_of_lt r0 r1]; omega
 ·rw [e, Int.add_comm, Int.add_mul_emod_self_right, Int.emod_eq_of_lt r0 r1]
theorem dig_cons {d : Int} {l : List Int} (h : Dig l) (h0 : 0 ≤ d) (h1 : d ≤ 9999) : Dig (d :: l) := by
 intro x hx
 rcases List.mem_cons.1 hx with rfl | hx
 ·exact ⟨h0, h1⟩
 ·exact h x hx
end Go.Proofs.YtpfgdfpaoldhcaaGreatDoor
