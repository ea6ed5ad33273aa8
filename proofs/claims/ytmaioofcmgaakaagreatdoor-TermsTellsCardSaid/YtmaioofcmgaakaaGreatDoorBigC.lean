/- The reference's numbers of any size: noughts ahead are cut off. -/
import Derived.Test.YtmaioofcmgaakaaGreatDoorBigB
namespace Go.Proofs.YtmaioofcmgaakaaGreatDoor
open Go.RowKit

theorem bv_take {ds : List Int} {n : Nat} (hn : n ≤ ds.length) (h : ∀ j, n ≤ j → j < ds.length → ds.getD j 0 = 0) : bv (ds.take n) = bv ds := by
  have e : ds = ds.take n ++ ds.drop n := (List.take_append_drop n ds).symm
  have z : ∀ l : List Int, (∀ d ∈ l, d = 0) → bv l = 0 := by
    intro l hl
    induction l with
    | nil => rfl
    | cons d l ih =>
      rw [bv_cons, hl d (by simp), ih (fun x hx => hl x (by simp [hx]))]
      rfl
  have hz : bv (ds.drop n) = 0 := by
    apply z
    intro d hd
    obtain ⟨i, hi, rfl⟩ := List.getElem_of_mem hd
    simp at hi
    have := h (n + i) (by omega) (by omega)
    simpa [List.getD, List.getElem?_eq_getElem (show n + i < ds.length by omega)] using this
  have := bv_append (ds.take n) (ds.drop n)
  rw [List.take_append_drop] at this
  rw [this, hz]
  omega
theorem bv_take_pos {ds : List Int} {m : Nat} (hd : Dig ds) (hm : m < ds.length) (hx : ds.getD m 0 ≠ 0) : bv (ds.take (m + 1)) ≠ 0 := by
  have e : ds.getD m 0 = ds[m] := by simp [List.getD, List.getElem?_eq_getElem hm]
  rw [List.take_succ_eq_append_getElem hm, bv_snoc]
  have a := (bv_bd (fun d h => hd d (List.mem_of_mem_take h) : Dig (ds.take m))).1
  have b := (hd ds[m] (List.getElem_mem hm)).1
  have c : 0 < p4 (ds.take m).length * ds[m] := Int.mul_pos (p4_pos _) (by rw [e] at hx; omega)
  omega
theorem dig_take {ds : List Int} (h : Dig ds) (n : Nat) : Dig (ds.take n) := fun d hd => h d (List.mem_of_mem_take hd)

theorem own_none (w : World) (o : Obj) : ((w.alloc o).alloc (.cells #[] 3)).ownsRow (w.heap.size + 1) 3 1 (.slice (some ⟨w.heap.size + 1, 0, none⟩) 0 0) 0 [] := by
  refine ⟨by simp, .inr ⟨w.heap.size + 1, 0, #[], rfl, Nat.le_refl _, ?_, Nat.le_refl _, Nat.zero_le _, by simp, by simp⟩⟩
  show (((w.heap.push o).push (.cells #[] 3)))[w.heap.size + 1]? = _
  rw [Array.getElem?_push, if_pos (by simp)]
theorem trim_nil (w : World) :
    Calls Tryz.prog 31 #[.slice none 0 0] w (BigOut (fun es => es = []) w) := by
  go_enter Tryz.func31, Tryz.ntmps31
  go_wp2
  refine wp_loop_rounds 1 ?_
  rw [rounds_succ]
  go_wp2
  exact bodyPost_ret (v := .agg #[.slice (some ⟨w.heap.size + 1, 0, none⟩) 0 0]) (by simp [results, Tryz.results31, go_sem]) rfl ⟨_, [], rfl, World.ownsRow.mono (own_none _ _) (Nat.le_succ _), dig_nil, rfl, ((Below.refl _ _).alloc (Nat.le_refl _) _).alloc (by simp) _⟩

set_option maxHeartbeats 1600000 in
set_option maxRecDepth 100000 in
theorem trim_some (g cap : Nat) (ds : List Int) (w : World) (h : Big w (.slice (some ⟨g, 0, none⟩) ds.length cap) ds) (hd : Dig ds) (hl : ds.length ≤ 100000) :
    Calls Tryz.prog 31 #[.slice (some ⟨g, 0, none⟩) ds.length cap] w (BigOut (fun es => bv es = bv ds ∧ es.length ≤ ds.length ∧ (bv es = 0 → es = [])) w) := by
  obtain ⟨i0, hi, hz0, hz1, hz2⟩ := info_parts infoInt
  have hcap : ds.length ≤ cap := by
    rcases h.2 with ⟨e, _⟩ | ⟨g', cap', cur, e, _, _, hc, _⟩
    · cases e
    · cases e; exact hc
  obtain ⟨hg, hc⟩ : g < w.heap.size ∧ ∀ j, j < ds.length → w.cell? ⟨g, j, none⟩ = some (.int .i64 (ds.getD j 0)) := by
    rcases h.form with ⟨e, _⟩ | ⟨g', cap', e, hg, _, hc⟩
    · cases e
    · cases e; exact ⟨hg, hc⟩
  have HC := Lib.hid hc
  have HD := Lib.hid hd
  clear hc hd
  go_enter Tryz.func31, Tryz.ntmps31
  go_wp2
  go_loop [3] (fun s => ∃ n : Nat, n ≤ ds.length ∧ s = .int .i64 n ∧ ∀ j, n ≤ j → j < ds.length → ds.getD j 0 = 0) (fun s => (intOf s).toNat)
  case atStart => exact ⟨ds.length, Nat.le_refl _, rfl, fun j h1 h2 => absurd h2 (by omega)⟩
  case round =>
    obtain ⟨n, hn, rfl, hz⟩ := hrel
    have HZ := Lib.hid hz
    clear hz
    by_cases hn0 : n = 0
    · subst hn0
      go_wp2
      exact bodyPost_ret (v := .agg #[.slice (some ⟨w.heap.size + 1, 0, none⟩) 0 0]) (by simp [results, Tryz.results31, go_sem]) rfl ⟨_, [], rfl, World.ownsRow.mono (own_none _ _) (Nat.le_succ _), dig_nil, ⟨by rw [← bv_take (Nat.zero_le _) (HZ.out)]; rfl, Nat.zero_le _, fun _ => rfl⟩, ((Below.refl _ _).alloc (Nat.le_refl _) _).alloc (by simp) _⟩
    · obtain ⟨m, rfl⟩ : ∃ m, n = m + 1 := ⟨n - 1, by omega⟩
      have hcm := HC.out m (by omega)
      obtain ⟨x, EX⟩ : ∃ x, Hid (ds.getD m 0 = x) := ⟨_, Lib.hid rfl⟩
      rw [EX.out] at hcm
      by_cases hx : x = 0
      · have hxb : (x == 0) = true := beq_iff_eq.2 hx
        have HX := Lib.hid hx
        clear hx
        go_wp2
        go_round
        case rel =>
          refine ⟨m, by omega, rfl, fun j h1 h2 => ?_⟩
          by_cases hj : j = m
          · subst hj; rw [EX.out, HX.out]
          · exact HZ.out j (by omega) h2
        case measure => simp [intOf]
      · have hxb : (x == 0) = false := beq_eq_false_iff_ne.2 hx
        have hT : (ds.take (m + 1)).length = m + 1 := by simp; omega
        have HT := Lib.hid hT
        have NZ := Lib.hid (bv_take_pos (m := m) HD.out (by omega) (by rw [EX.out]; exact hx))
        clear hT hx
        go_wp2_with (at_builtin; refine wpList_append_own _ rfl _ _ 52 rfl (w.heap.size + 1) 3 i0 (.int .i64 0) 1 8 Tryz.underlying52 hi hz0 hz1 hz2 rfl (by decide) _ 0 [] rfl (own_none w _) ⟨g, 0, none⟩ (m + 1) cap ((ds.take (m + 1)).map (Value.int .i64)) rfl ?c0 ?c1 ?c2 ?c3 ?c4 ?c5 ?_)
        case c1 =>
          intro j u hj
          by_cases hjm : j < m + 1
          · have hjl : j < ds.length := by omega
            have := HC.out j hjl
            rw [List.getElem?_take, if_pos hjm, List.getElem?_map, List.getElem?_eq_getElem hjl] at hj
            simp at hj
            subst hj
            rw [this]
            simp [List.getD, List.getElem?_eq_getElem hjl]
          · rw [List.getElem?_take, if_neg hjm] at hj
            simp at hj
        case c2 =>
          intro u hu
          obtain ⟨d, _, rfl⟩ := List.mem_map.1 (List.mem_of_mem_take hu)
          rfl
        case c3 => unfold maxLen; omega
        case c4 => omega
        · intro v' w1 hown' hgrow _
          have R : Below (w.heap.size + 1) ((w.alloc (.cells #[.slice none 0 0] 54)).alloc (.cells #[] 3)) w1 := (Below.refl _ _).grown hgrow (by simp) (fun k hk => by simp [Value.ownBlock] at hk; omega)
          have cB : w1.cell? ⟨w.heap.size, 0, none⟩ = some (.slice none 0 0) := (R.cell (p := ⟨w.heap.size, 0, none⟩) (by simp)).trans (by simp [go_sem])
          have fB : w1.frozen? ⟨w.heap.size, 0, none⟩ = false := (R.frozen (p := ⟨w.heap.size, 0, none⟩) (by simp)).trans (by simp [go_sem])
          have hB : Below w.heap.size w w1 := (((Below.refl _ _).alloc (Nat.le_refl _) _).alloc (by simp) _).trans (R.mono (by omega))
          obtain ⟨a3, n3, c3, rfl⟩ := own_slice hown'
          clear hgrow R
          go_wp2
          refine bodyPost_ret (v := .agg #[.slice a3 n3 c3]) (by simp [results, Tryz.results31, go_sem, cB]) rfl ⟨_, ds.take (m + 1), rfl, ?_, dig_take HD.out _, ⟨bv_take (by omega) HZ.out, by rw [HT.out]; omega, fun h => absurd h NZ.out⟩, hB.setCell (by simp) _⟩
          rw [HT.out]
          have := World.ownsRow.mono (ownsRow_setCell_below hown' (a := ⟨w.heap.size, 0, none⟩) (by simp) (.slice a3 n3 c3)) (Nat.le_succ _)
          simpa using this
end Go.Proofs.YtmaioofcmgaakaaGreatDoor
