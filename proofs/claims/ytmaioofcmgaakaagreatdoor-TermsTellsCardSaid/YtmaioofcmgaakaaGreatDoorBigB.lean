/- The reference's numbers of any size: how two lie to each other. -/
import Derived.Test.YtmaioofcmgaakaaGreatDoorBigA
import Derived.Test.YtmaioofcmgaakaaGreatDoorOrders
namespace Go.Proofs.YtmaioofcmgaakaaGreatDoor
open Go.RowKit

theorem Big.slice {w : World} {v : Value} {ds : List Int} (h : Big w v ds) : ∃ a c, v = .slice a ds.length c := by
  rcases h.form with ⟨rfl, rfl⟩ | ⟨g, cap, rfl, _⟩
  · exact ⟨_, _, rfl⟩
  · exact ⟨_, _, rfl⟩

/-- Down to part k both numbers' parts are the same. -/
def CmpRel (da db : List Int) (va vb : Value) (B : Nat) (w : World) (i : Value) (wr : World) : Prop :=
  ∃ k : Nat, k ≤ 100000 ∧ i = .int .i64 ((k : Int) - 1) ∧ bv da - bv db = bv (pad da k) - bv (pad db k) ∧ Big wr va da ∧ Big wr vb db ∧ wr.cell? ⟨B, 0, none⟩ = some va ∧ wr.cell? ⟨B + 1, 0, none⟩ = some vb ∧ Below B w wr ∧ B + 1 < wr.heap.size

theorem cmp_top {da db : List Int} {k : Nat} (ha : Dig da) (hb : Dig db) (h : bv da - bv db = bv (pad da (k + 1)) - bv (pad db (k + 1))) :
    (da.getD k 0 < db.getD k 0 → bv da < bv db) ∧ (db.getD k 0 < da.getD k 0 → bv db < bv da) ∧ (da.getD k 0 = db.getD k 0 → bv da - bv db = bv (pad da k) - bv (pad db k)) := by
  have b1 := bv_bd (dig_pad ha k)
  have b2 := bv_bd (dig_pad hb k)
  rw [pad_length] at b1 b2
  rw [bv_pad_succ, bv_pad_succ] at h
  have pp := p4_pos k
  refine ⟨fun e => ?_, fun e => ?_, fun e => ?_⟩
  · have := Int.mul_le_mul_of_nonneg_left (show da.getD k 0 + 1 ≤ db.getD k 0 by omega) (Int.le_of_lt pp)
    rw [Int.mul_add] at this
    omega
  · have := Int.mul_le_mul_of_nonneg_left (show db.getD k 0 + 1 ≤ da.getD k 0 by omega) (Int.le_of_lt pp)
    rw [Int.mul_add] at this
    omega
  · rw [e] at h; omega

set_option maxHeartbeats 1600000 in
set_option maxRecDepth 100000 in
theorem cmpB (va vb : Value) (da db : List Int) (w : World) (ha : Big w va da) (hb : Big w vb db) (hda : Dig da) (hdb : Dig db) (la : da.length ≤ 100000) (lb : db.length ≤ 100000) :
    Calls Tryz.prog 23 #[.agg #[va], .agg #[vb]] w fun e w' => e = .returned (.int .i64 (cmpI (bv da) (bv db))) ∧ Below w.heap.size w w' := by
  obtain ⟨c, C⟩ : ∃ c, Hid (cmpI (bv da) (bv db) = c) := ⟨_, Lib.hid rfl⟩
  rw [C.out]
  obtain ⟨aa, ac, ea⟩ := ha.slice
  obtain ⟨ba, bc, eb⟩ := hb.slice
  obtain ⟨B, hB⟩ : ∃ B, w.heap.size = B := ⟨_, rfl⟩
  have HA := Lib.hid hda
  have HD := Lib.hid hdb
  clear hda hdb
  have HG : Hid (Below B w ((w.alloc (.cells #[va] 54)).alloc (.cells #[vb] 54))) := Lib.hid (by rw [← hB]; exact ((Below.refl _ _).alloc (Nat.le_refl _) _).alloc (by simp) _)
  subst ea eb
  by_cases hl : da.length < db.length
  all_goals
    go_enter Tryz.func23, Tryz.ntmps23
    go_wp2
    go_loopw [6] (fun i wr => CmpRel da db (.slice aa da.length ac) (.slice ba db.length bc) B w i wr) (fun i _ => (intOf i + 1).toNat)
    case atStart =>
      first
        | exact ⟨db.length, lb, rfl, by rw [bv_pad da _ (by omega), bv_pad db _ (by omega)], (ha.alloc _).alloc _, (hb.alloc _).alloc _, by simp [← hB, go_sem], by simp [← hB, go_sem], HG.out, by simp [hB]⟩
        | exact ⟨da.length, la, rfl, by rw [bv_pad da _ (by omega), bv_pad db _ (by omega)], (ha.alloc _).alloc _, (hb.alloc _).alloc _, by simp [← hB, go_sem], by simp [← hB, go_sem], HG.out, by simp [hB]⟩
    case round =>
      obtain ⟨k, hk, rfl, hv, Ha, Hb, ca, cb, hbw, hsz⟩ := hrel
      have HV := Lib.hid hv
      clear hv
      by_cases hk0 : k = 0
      · subst hk0
        go_wp2
        go_ret
        refine ⟨?_, hbw.mono (by omega)⟩
        have e := C.out
        have v := HV.out
        rw [cmpI_eq (by simp [pad, bv_nil] at v; omega)] at e
        rw [← e]
        rfl
      · obtain ⟨j, rfl⟩ : ∃ j, k = j + 1 := ⟨k - 1, by omega⟩
        obtain ⟨T1, T2, T3⟩ := cmp_top HA.out HD.out HV.out
        obtain ⟨x, EX⟩ : ∃ x, Hid (da.getD j 0 = x) := ⟨_, Lib.hid rfl⟩
        obtain ⟨y, EY⟩ : ∃ y, Hid (db.getD j 0 = y) := ⟨_, Lib.hid rfl⟩
        rw [EX.out, EY.out] at T1 T2 T3
        have HT := Lib.hid (And.intro T1 (And.intro T2 T3))
        clear T1 T2 T3
        go_wp2_with fail
        (with_reducible refine (part_any _ da (j : Int) _ Ha (by omega) (by omega)).mono ?_)
        rw [Int.toNat_natCast, EX.out]
        rintro e w1 ⟨rfl, hb1⟩
        replace ca := keep hb1 (by omega) ca
        replace cb := keep hb1 (by omega) cb
        replace Ha := Ha.below hb1
        replace Hb := Hb.below hb1
        replace hbw := hbw.trans (hb1.mono (by omega))
        replace hsz : B + 1 < w1.heap.size := by have := hb1.size; omega
        clear hb1
        go_wp2_with fail
        (with_reducible refine (part_any _ db (j : Int) _ Hb (by omega) (by omega)).mono ?_)
        rw [Int.toNat_natCast, EY.out]
        rintro e w2 ⟨rfl, hb1⟩
        replace ca := keep hb1 (by omega) ca
        replace cb := keep hb1 (by omega) cb
        replace Ha := Ha.below hb1
        replace Hb := Hb.below hb1
        replace hbw := hbw.trans (hb1.mono (by omega))
        replace hsz : B + 1 < w2.heap.size := by have := hb1.size; omega
        clear hb1
        by_cases h1 : x < y
        · go_wp2
          go_ret
          refine ⟨?_, hbw.mono (by omega)⟩
          have e := C.out
          rw [cmpI_lt (HT.out.1 h1)] at e
          rw [← e]
          rfl
        · by_cases h2 : y < x
          · go_wp2
            go_ret
            refine ⟨?_, hbw.mono (by omega)⟩
            have e := C.out
            rw [cmpI_gt (HT.out.2.1 h2)] at e
            rw [← e]
            rfl
          · go_wp2
            go_roundw
            case rel => exact ⟨j, by omega, congrArg (Value.int .i64) (by omega), HT.out.2.2 (by omega), Ha, Hb, ca, cb, hbw, hsz⟩
            case measure => simp [intOf]
end Go.Proofs.YtmaioofcmgaakaaGreatDoor
