/- The reference of layer 6: digits, Show, Read. -/
import Derived.Test.YtgdhpganognmlaaDoorIsNum
import Derived.Test.YtgdhpganognmlaaDoorCShown
namespace Go.Proofs.YtgdhpganognmlaaDoor
open Go.RowKit
set_option linter.unusedVariables false
set_option linter.unusedSimpArgs false

theorem ten_at (q : Int) : ((⟨#[48, 49, 50, 51, 52, 53, 54, 55, 56, 57]⟩ : ByteArray).extract (q % 10).toNat (q % 10 + 1).toNat) = ⟨#[dg q]⟩ := by
  have e : ((⟨#[48, 49, 50, 51, 52, 53, 54, 55, 56, 57]⟩ : ByteArray).extract (q % 10).toNat (q % 10 + 1).toNat) = ⟨((([48, 49, 50, 51, 52, 53, 54, 55, 56, 57] : List UInt8).drop (q % 10).toNat).take ((q % 10 + 1).toNat - (q % 10).toNat)).toArray⟩ := ByteArray.extract_mk _ _ _
  rw [e]
  unfold dg
  have h : q % 10 = 0 ∨ q % 10 = 1 ∨ q % 10 = 2 ∨ q % 10 = 3 ∨ q % 10 = 4 ∨ q % 10 = 5 ∨ q % 10 = 6 ∨ q % 10 = 7 ∨ q % 10 = 8 ∨ q % 10 = 9 := by omega
  rcases h with h | h | h | h | h | h | h | h | h | h <;> rw [h] <;> rfl
theorem add_lists (x y : List UInt8) (h : x.length + y.length ≤ 1000) (w : World) : (Op.stringOp .add (⟨x.toArray⟩ : ByteArray) ⟨y.toArray⟩).run Tryd.prog w = .ok (.string ⟨(x ++ y).toArray⟩) w := by
  rw [run_string_add_sum w _ _ (by
    have a : (ByteArray.mk x.toArray).size = x.length := by show x.toArray.size = _; simp
    have b : (ByteArray.mk y.toArray).size = y.length := by show y.toArray.size = _; simp
    rw [a, b]; omega), ByteArray.mk_append_mk]
theorem rdig_any (n0 many : Int) (w : World) (h1 : 0 ≤ n0) (h2 : n0 ≤ 9999) (h3 : 0 ≤ many) (h4 : many ≤ 10) : Calls Tryd.prog 19 #[.int .i64 n0, .int .i64 many] w fun e w' => e = .returned (.string ⟨(digs n0 many.toNat).toArray⟩) ∧ w = w' := by
  go_enter Tryd.func19, Tryd.ntmps19
  go_wp2
  go_loop [5, 6, 0] (fun s i n => ∃ k : Nat, (k : Int) ≤ many ∧ i = .int .i64 k ∧ s = .string ⟨(digs n0 k).toArray⟩ ∧ n = .int .i64 (n0 / 10 ^ k)) (fun _ i _ => (many - intOf i).toNat)
  case atStart => exact ⟨0, h3, rfl, rfl, by simp⟩
  case round =>
    obtain ⟨k, hk, rfl, rfl, rfl⟩ := hrel
    by_cases hlt : (k : Int) < many
    · have b0 : 0 ≤ n0 / 10 ^ k := Int.ediv_nonneg h1 (Int.le_of_lt (Int.pow_pos (by decide)))
      have b1 : n0 / 10 ^ k ≤ n0 := Int.ediv_le_self _ h1
      have e1 : n0 / 10 ^ k / 10 = n0 / 10 ^ (k + 1) := by rw [Int.ediv_ediv_of_nonneg (Int.le_of_lt (Int.pow_pos (by decide))), ← Int.pow_succ]
      have e2 : dg (n0 / 10 ^ k) :: digs n0 k = digs n0 (k + 1) := rfl
      have e3 := digs_len n0 k
      obtain ⟨q, HQ⟩ : ∃ q, Hid (n0 / 10 ^ k = q) := ⟨_, Lib.hid rfl⟩
      rw [HQ.out] at b0 b1 e1 e2 ⊢
      have E := Lib.hid (And.intro e1 e2)
      have hadd : (Op.stringOp .add ((⟨#[48, 49, 50, 51, 52, 53, 54, 55, 56, 57]⟩ : ByteArray).extract (q % 10).toNat (q % 10 + 1).toNat) ⟨(digs n0 k).toArray⟩).run Tryd.prog w = .ok (.string ⟨(dg q :: digs n0 k).toArray⟩) w := by
        rw [ten_at]; exact add_lists [dg q] (digs n0 k) (by rw [e3]; simp; omega) w
      clear e1 e2 e3
      go_wp2
      go_round
      case rel => exact ⟨k + 1, by omega, rfl, by rw [E.out.2], by rw [E.out.1]⟩
      case measure => simp [intOf]; omega
    · have e : many.toNat = k := by omega
      go_wp2
      go_ret
      exact ⟨rfl, rfl⟩

theorem rdig_is (n many : Int) (l : List UInt8) (w : World) (h1 : 0 ≤ n) (h2 : n ≤ 9999) (h3 : 0 ≤ many) (h4 : many ≤ 10) (hl : digs n many.toNat = l) : Calls Tryd.prog 19 #[.int .i64 n, .int .i64 many] w fun e w' => e = .returned (.string ⟨l.toArray⟩) ∧ w = w' := by
  subst hl; exact rdig_any n many w h1 h2 h3 h4
/-- How a text is put together. -/
theorem put_any (y m d : Int) (A B C : List UInt8) (hA : digs y 4 = A) (hB : digs m 2 = B) (hC : digs d 2 = C) : ∃ L M N : List UInt8,
    (∀ w, (Op.stringOp .add (⟨A.toArray⟩ : ByteArray) ⟨#[45]⟩).run Tryd.prog w = .ok (.string ⟨L.toArray⟩) w) ∧
    (∀ w, (Op.stringOp .add (⟨L.toArray⟩ : ByteArray) ⟨B.toArray⟩).run Tryd.prog w = .ok (.string ⟨M.toArray⟩) w) ∧
    (∀ w, (Op.stringOp .add (⟨M.toArray⟩ : ByteArray) ⟨#[45]⟩).run Tryd.prog w = .ok (.string ⟨N.toArray⟩) w) ∧
    (∀ w, (Op.stringOp .add (⟨N.toArray⟩ : ByteArray) ⟨C.toArray⟩).run Tryd.prog w = .ok (.string ⟨(txt y m d).toArray⟩) w) := by
  have a := digs_len y 4
  have b := digs_len m 2
  have c := digs_len d 2
  rw [hA] at a
  rw [hB] at b
  rw [hC] at c
  have e : txt y m d = A ++ [45] ++ B ++ [45] ++ C := by unfold txt; rw [hA, hB, hC]; simp
  rw [e]
  exact ⟨_, _, _, fun w => add_lists A [45] (by simp; omega) w, fun w => add_lists (A ++ [45]) B (by simp; omega) w, fun w => add_lists (A ++ [45] ++ B) [45] (by simp; omega) w, fun w => add_lists (A ++ [45] ++ B ++ [45]) C (by simp; omega) w⟩
-- by genIsRef.py

set_option maxHeartbeats 1000000 in
theorem rshow_in (n y m d : Int) (l : List UInt8) (w : World) (h : may y m d) (hn : nb y m d = n) (hl : txt y m d = l) :
    Calls Tryd.prog 10 #[.int .i64 n] w fun e' w' => e' = .returned (.tuple #[.string ⟨l.toArray⟩, .int .i64 0]) ∧ Below w.heap.size w w' := by
  have H := Held.start w
  have O1 : Hid (DayIs n y m d 0) := Lib.hid (Or.inl ⟨h, hn, rfl⟩)
  have bd := may_bd h
  obtain ⟨A, hA⟩ : ∃ A, digs y 4 = A := ⟨_, rfl⟩
  obtain ⟨B, hB⟩ : ∃ B, digs m 2 = B := ⟨_, rfl⟩
  obtain ⟨C, hC⟩ : ∃ C, digs d 2 = C := ⟨_, rfl⟩
  obtain ⟨L1, L2, L3, P1, P2, P3, P4⟩ := put_any y m d A B C hA hB hC
  rw [hl] at P4
  have C1 := Lib.hid (fun v => rdig_is y 4 A v bd.1 bd.2.1 (by decide) (by decide) hA)
  have C2 := Lib.hid (fun v => rdig_is m 2 B v bd.2.2.1 (by omega) (by decide) (by decide) hB)
  have C3 := Lib.hid (fun v => rdig_is d 2 C v bd.2.2.2.2.1 (by omega) (by decide) (by decide) hC)
  clear h hn hl hA hB hC bd
  go_enter Tryd.func10, Tryd.ntmps10
  go_wp2_with fail
  (with_reducible refine (rof_any n y m d 0 _ O1.out).mono ?_)
  rintro e w1 ⟨rfl, hb⟩
  replace H := H.below hb
  clear hb
  go_wp2
  replace H := (H.triple (w1.heap.size) (.int .i64 y) (.int .i64 m) (.int .i64 d) 41 rfl)
  have cc0 := H.cell (w1.heap.size) 0 (.int .i64 y) (List.Mem.head _)
  have cc1 := H.cell (w1.heap.size) 1 (.int .i64 m) (List.Mem.tail _ (List.Mem.head _))
  have cc2 := H.cell (w1.heap.size) 2 (.int .i64 d) (List.Mem.tail _ (List.Mem.tail _ (List.Mem.head _)))
  have lc := H.lt (w1.heap.size) 0 (.int .i64 y) (List.Mem.head _)
  have HK := H.old
  clear H
  go_quiet (first | (go_at_call 19; first | (with_reducible exact quietLeft (C1.out _)) | (with_reducible exact quietLeft (C2.out _)) | (with_reducible exact quietLeft (C3.out _))))
  go_wp2
  go_ret2
  exact ⟨rfl, belowDrewN HK _⟩

theorem rshow_out (n : Int) (w : World) (h : n < 1 ∨ 3652059 < n) : Calls Tryd.prog 10 #[.int .i64 n] w fun e' w' => e' = .returned (.tuple #[.string ⟨#[]⟩, .int .i64 3]) ∧ Below w.heap.size w w' := by
  have H := Held.start w
  have O1 : Hid (DayIs n 0 0 0 3) := Lib.hid (Or.inr ⟨h, rfl, rfl, rfl, rfl⟩)
  clear h
  go_enter Tryd.func10, Tryd.ntmps10
  go_wp2_with fail
  (with_reducible refine (rof_any n 0 0 0 3 _ O1.out).mono ?_)
  rintro e w1 ⟨rfl, hb⟩
  replace H := H.below hb
  clear hb
  go_wp2_with fail
  replace H := (H.triple (w1.heap.size) (.int .i64 0) (.int .i64 0) (.int .i64 0) 41 rfl)
  go_ret2
  exact ⟨rfl, H.old⟩

theorem rshow_any (n c : Int) (l : List UInt8) (w : World) (h : ShowIs n l c) : Calls Tryd.prog 10 #[.int .i64 n] w fun e' w' => e' = .returned (.tuple #[.string ⟨l.toArray⟩, .int .i64 c]) ∧ Below w.heap.size w w' := by
  rcases h with ⟨y, m, d, h1, h2, h3, rfl⟩ | ⟨h, rfl, rfl⟩
  · exact rshow_in n y m d l w h1 h2 h3
  · exact rshow_out n w h
end Go.Proofs.YtgdhpganognmlaaDoor
