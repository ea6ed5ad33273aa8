/- The reference's numbers of any size, in memory: a part, and a number of 64 bits in parts. -/
import Derived.Test.YtmaioofcmgaakaaGreatDoorBigNum
import Derived.Test.YtmaioofcmgaakaaGreatDoorFact
import Derived.Deep.Onto
namespace Go.Proofs.YtmaioofcmgaakaaGreatDoor
open Go.RowKit

theorem infoInt : (Tryz.prog.info? 3).map (fun i => (i.zero, i.size, i.bytes)) = some (some (.int .i64 0), 1, 8) := by kernel_rfl

/-- A slice of the reference's own: its parts are ds. -/
def Big (w : World) (v : Value) (ds : List Int) : Prop := w.ownsRow 0 3 1 v ds.length (ds.map (Value.int .i64))

theorem Big.below {w w' : World} {v : Value} {ds : List Int} (h : Big w v ds) (hb : Below w.heap.size w w') : Big w' v ds := by
  obtain ⟨h1, h2⟩ := h
  refine ⟨h1, ?_⟩
  rcases h2 with h2 | ⟨g, cap, cur, hv, hg, hh, hr⟩
  · exact .inl h2
  · refine .inr ⟨g, cap, cur, hv, hg, ?_, hr⟩
    rw [hb.block g (by have := (Array.getElem?_eq_some_iff.1 hh).1; exact this)]
    exact hh
theorem Big.alloc {w : World} {v : Value} {ds : List Int} (h : Big w v ds) (o : Obj) : Big (w.alloc o) v ds := World.ownsRow.alloc h o

/-- What a slice of the reference's own is: nil, or a row of cells. -/
theorem Big.form {w : World} {v : Value} {ds : List Int} (h : Big w v ds) :
    (v = .slice none 0 0 ∧ ds = []) ∨ ∃ g cap, v = .slice (some ⟨g, 0, none⟩) ds.length cap ∧ g < w.heap.size ∧ ds.length ≤ maxLen ∧ ∀ j, j < ds.length → w.cell? ⟨g, j, none⟩ = some (.int .i64 (ds.getD j 0)) := by
  have h' := h
  obtain ⟨h1, h2⟩ := h
  rcases h2 with ⟨rfl, h2⟩ | ⟨g, cap, cur, rfl, hg, hh, hc, hm, hr⟩
  · exact .inl ⟨rfl, List.length_eq_zero_iff.1 h2⟩
  · refine .inr ⟨g, cap, rfl, (Array.getElem?_eq_some_iff.1 hh).1, by omega, fun j hj => ?_⟩
    rw [World.ownsRow.cellAt h' j (by omega)]
    simp [List.getD, List.getElem?_eq_getElem hj]

set_option maxHeartbeats 400000 in
theorem part_any (v : Value) (ds : List Int) (i : Int) (w : World) (h : Big w v ds) (h0 : 0 ≤ i) (h1 : i ≤ 4611686018427387904) :
    Calls Tryz.prog 30 #[.agg #[v], .int .i64 i] w fun e w' => e = .returned (.int .i64 (ds.getD i.toNat 0)) ∧ Below w.heap.size w w' := by
  obtain ⟨k, rfl⟩ := Int.eq_ofNat_of_zero_le h0
  rw [Int.toNat_natCast]
  rcases h.form with ⟨rfl, rfl⟩ | ⟨g, cap, rfl, hg, hm, hc⟩
  · go_enter Tryz.func30, Tryz.ntmps30
    go_wp2
    go_ret
    exact ⟨by simp, (Below.refl _ _).alloc (Nat.le_refl _) _⟩
  · unfold maxLen at hm
    by_cases hk : k < ds.length
    · have hcell := hc k hk
      go_enter Tryz.func30, Tryz.ntmps30
      go_wp2
      go_ret
      exact ⟨by simp [hk], (Below.refl _ _).alloc (Nat.le_refl _) _⟩
    · have hz : ds.getD k 0 = 0 := by simp [List.getD, List.getElem?_eq_none (by omega : ds.length ≤ k)]
      rw [hz]
      go_enter Tryz.func30, Tryz.ntmps30
      go_wp2
      go_ret
      exact ⟨rfl, (Below.refl _ _).alloc (Nat.le_refl _) _⟩

/-- A number of the reference's is handed back, in new memory, of which P holds. -/
def BigOut (P : List Int → Prop) (w : World) (e : Ending) (w' : World) : Prop := ∃ v ds, e = .returned (.agg #[v]) ∧ w'.ownsRow w.heap.size 3 1 v ds.length (ds.map (Value.int .i64)) ∧ Dig ds ∧ P ds ∧ Below w.heap.size w w'

theorem own_slice {w : World} {base : Nat} {e : TypeId} {size : Nat} {v : Value} {n : Nat} {xs : List Value} (h : w.ownsRow base e size v n xs) : ∃ a k c, v = .slice a k c := by
  rcases h.2 with ⟨rfl, _⟩ | ⟨g, cap, cur, rfl, _⟩
  · exact ⟨_, _, _, rfl⟩
  · exact ⟨_, _, _, rfl⟩
/-- Behind an append of one part to a row of the call's own: below the row's base nothing has turned. -/
theorem grown_row {wr w1 : World} {base : Nat} {e : TypeId} {size n : Nat} {v : Value} {xs : List Value} {o : Obj} (hsz : base ≤ wr.heap.size) (hown : wr.ownsRow base e size v n xs) (hg : (wr.alloc o).grownBy w1 v.ownBlock) : Below base wr w1 :=
  ((Below.refl base wr).alloc hsz o).grown hg (by simp; omega) (fun k hk => (World.ownsRow.lt hown k hk).1)

def FromRel (N : Int) (B : Nat) (w : World) (n v : Value) (wr : World) : Prop :=
  ∃ (m : Int) (ds : List Int), n = .int .u64 m ∧ 0 ≤ m ∧ m < 18446744073709551616 ∧ wr.ownsRow (B + 1) 3 1 v ds.length (ds.map (Value.int .i64)) ∧ Dig ds ∧ bv ds + p4 ds.length * m = N ∧
    (0 < ds.length → p4 (ds.length - 1) ≤ N) ∧ wr.cell? ⟨B, 0, none⟩ = some (.slice none 0 0) ∧ wr.frozen? ⟨B, 0, none⟩ = false ∧ Below B w wr ∧ B + 1 ≤ wr.heap.size
theorem len5 {k : Nat} {N : Int} (h : p4 k ≤ N) (hN : N < 18446744073709551616) : k < 5 := by
  by_cases hk : k < 5
  · exact hk
  · have := p4_mono (show 5 ≤ k by omega)
    have e : p4 5 = 100000000000000000000 := by decide
    omega
theorem from_step {N : Int} {m : Int} {ds : List Int} (hm : 0 < m) (hN : N < 18446744073709551616) (hd : Dig ds) (hv : bv ds + p4 ds.length * m = N) :
    ds.length < 5 ∧ Dig (ds ++ [m % 10000]) ∧ bv (ds ++ [m % 10000]) + p4 (ds ++ [m % 10000]).length * (m / 10000) = N ∧ p4 ((ds ++ [m % 10000]).length - 1) ≤ N := by
  have b := bv_bd hd
  have pp := p4_pos ds.length
  have hle : p4 ds.length ≤ p4 ds.length * m := by
    have := Int.mul_le_mul_of_nonneg_left (show 1 ≤ m by omega) (Int.le_of_lt pp)
    omega
  have hN' : p4 ds.length ≤ N := by omega
  refine ⟨len5 hN' hN, dig_snoc hd (by omega) (by omega), ?_, ?_⟩
  · rw [bv_snoc, List.length_append, List.length_singleton, p4_succ]
    have e : m = m % 10000 + 10000 * (m / 10000) := by omega
    have : p4 ds.length * m = p4 ds.length * (m % 10000) + 10000 * p4 ds.length * (m / 10000) := by
      conv => lhs; rw [e]
      rw [Int.mul_add, ← Int.mul_assoc, Int.mul_comm (p4 ds.length) 10000]
    omega
  · rw [List.length_append, List.length_singleton, Nat.add_sub_cancel]; exact hN'

set_option maxHeartbeats 1600000 in
set_option maxRecDepth 100000 in
theorem fromU (n : Int) (w : World) (h0 : 0 ≤ n) (h1 : n < 18446744073709551616) :
    Calls Tryz.prog 32 #[.int .u64 n] w (BigOut (fun ds => bv ds = n ∧ ds.length ≤ 5 ∧ (bv ds = 0 → ds = [])) w) := by
  obtain ⟨i0, hi, hz0, hz1, hz2⟩ := info_parts infoInt
  obtain ⟨B, hB⟩ : ∃ B, w.heap.size = B := ⟨_, rfl⟩
  have HB := Lib.hid hB
  go_enter Tryz.func32, Tryz.ntmps32
  go_wp2
  go_loopw [0, 3] (fun n' v wr => FromRel n B w n' v wr) (fun n' _ _ => (intOf n').toNat)
  case atStart => exact ⟨n, [], rfl, h0, h1, World.ownsRow_nil _ _ _ _, dig_nil, by rw [bv_nil, List.length_nil, p4_zero]; omega, fun h => by simp at h, by simp [← HB.out, World.cell?_alloc_new], by simp [← HB.out, go_sem], by rw [← HB.out]; exact (Below.refl _ _).alloc (Nat.le_refl _) _, by simp [← HB.out]⟩
  case round =>
    obtain ⟨m, ds, rfl, m0, m1, hown, hd, hv, hp, hcB, hfB, hb, hsz⟩ := hrel
    have HV := Lib.hid hv
    have HP := Lib.hid hp
    have HD := Lib.hid hd
    clear hv hp hd
    by_cases hm : 0 < m
    · obtain ⟨s1, s2, s3, s4⟩ := from_step hm h1 HD.out HV.out
      have S := Lib.hid (And.intro s2 (And.intro s3 s4))
      clear s2 s3 s4
      go_wp2_with (first
        | (at_builtin; refine wpList_append_own _ rfl _ _ 52 rfl (B + 1) 3 i0 (.int .i64 0) 1 8 Tryz.underlying52 hi hz0 hz1 hz2 rfl (by decide) _ _ _ rfl (hown.alloc _) ⟨wr.heap.size, 0, none⟩ 1 1 [.int .i64 (m % 10000)] rfl rfl ?c1 ?c2 ?c3 ?c4 ?c5 ?_)
        | go_in)
      case c1 =>
        intro j u hj
        match j, hj with
        | 0, hj => simp at hj; subst hj; simp [Addr.add, World.cell?_alloc_new]
      case c2 => intro u hu; simp at hu; subst hu; rfl
      case c3 => unfold maxLen; omega
      case c4 => omega
      case c5 => simp; omega
      · intro v' w1 hown' hgrow _
        have R := grown_row hsz hown hgrow
        clear hgrow hown
        go_wp2
        go_roundw
        case rel =>
          exact ⟨m / 10000, ds ++ [m % 10000], rfl, by omega, by omega, by simpa using hown', S.out.1, S.out.2.1, fun _ => S.out.2.2, (R.cell (p := ⟨B, 0, none⟩) (by simp)).trans hcB, (R.frozen (p := ⟨B, 0, none⟩) (by simp)).trans hfB, hb.trans (R.mono (by omega)), by have := R.size; omega⟩
        case measure => simp [intOf]; omega
    · obtain ⟨a3, n3, c3, rfl⟩ := own_slice hown
      go_wp2
      refine bodyPost_ret (v := .agg #[.slice a3 n3 c3]) (by simp [results, Tryz.results32, go_sem, hcB]) rfl ⟨_, ds, rfl, ?_, HD.out, ⟨?_, ?_, ?_⟩, ?_⟩
      · exact World.ownsRow.mono (ownsRow_setCell_below hown (by simp) _) (by omega)
      · have := HV.out
        rw [show m = 0 from by omega, Int.mul_zero, Int.add_zero] at this
        exact this
      · by_cases hl : 0 < ds.length
        · have := len5 (HP.out hl) h1
          omega
        · omega
      · intro hbv
        have hv := HV.out
        rw [show m = 0 from by omega, Int.mul_zero, Int.add_zero, hbv] at hv
        by_cases hl : 0 < ds.length
        · have := HP.out hl
          have := p4_pos (ds.length - 1)
          omega
        · exact List.eq_nil_of_length_eq_zero (by omega)
      · exact (hb.setCell (by simp) _).mono (by omega)
end Go.Proofs.YtmaioofcmgaakaaGreatDoor
