/- Package iso: Show. -/
import Derived.Test.YtgdhpganognmlaaDoorIsTab
namespace Go.Proofs.YtgdhpganognmlaaDoor
open Go.RowKit
set_option linter.unusedVariables false
set_option linter.unusedSimpArgs false

set_option maxHeartbeats 4000000 in
theorem show_in_any (n y m d : Int) (l : List UInt8) (w : World) (hL : Tabs w) (h : may y m d) (hn : nb y m d = n) (hl : txt y m d = l) :
    Calls Tryd.prog 9 #[.int .i64 n] w fun e' w' => e' = .returned (.tuple #[.string ⟨l.toArray⟩, .int .i64 0]) ∧ Below w.heap.size w w' := by
  have H := (Held.start w).add (f := tabsF) hL
  clear hL
  have O1 : Hid (DayIs n y m d 0) := Lib.hid (Or.inl ⟨h, hn, rfl⟩)
  have bd := may_bd h
  obtain ⟨A, hA⟩ : ∃ A, digs y 4 = A := ⟨_, rfl⟩
  obtain ⟨B, hB⟩ : ∃ B, digs m 2 = B := ⟨_, rfl⟩
  obtain ⟨C, hC⟩ : ∃ C, digs d 2 = C := ⟨_, rfl⟩
  obtain ⟨L1, L2, L3, P1, P2, P3, P4⟩ := put_any y m d A B C hA hB hC
  rw [hl] at P4
  have C1 := Lib.hid (fun v (hv : Tabs v) => padded_4 y A v hv.2 bd.1 bd.2.1 hA)
  have C2 := Lib.hid (fun v (hv : Tabs v) => padded_2 m B v hv.2 bd.2.2.1 bd.2.2.2.1 hB)
  have C3 := Lib.hid (fun v (hv : Tabs v) => padded_2 d C v hv.2 bd.2.2.2.2.1 bd.2.2.2.2.2 hC)
  clear h hn hl hA hB hC bd
  go_enter Tryd.func9, Tryd.ntmps9
  go_wp2_with fail
  (with_reducible refine (civ_any n y m d 0 _ (H.tlens (List.Mem.head _)) O1.out).mono ?_)
  rintro e w1 ⟨rfl, hb⟩
  replace H := H.below hb
  clear hb
  go_wp2
  replace H := (H.triple (w1.heap.size) (.int .i64 y) (.int .i64 m) (.int .i64 d) 41 rfl)
  have KS : Hid (∀ w' : World, Held w [.cell (w1.heap.size) 0 (.int .i64 y), .cell (w1.heap.size) 1 (.int .i64 m), .cell (w1.heap.size) 2 (.int .i64 d), .free (w1.heap.size) 0, .free (w1.heap.size) 1, .free (w1.heap.size) 2, tabsF] w' → w'.cell? ⟨w1.heap.size, 0, none⟩ = some (.int .i64 y) ∧ w'.cell? ⟨w1.heap.size, 1, none⟩ = some (.int .i64 m) ∧ w'.cell? ⟨w1.heap.size, 2, none⟩ = some (.int .i64 d) ∧ Held w [.cell (w1.heap.size) 0 (.int .i64 y), .cell (w1.heap.size) 1 (.int .i64 m), .cell (w1.heap.size) 2 (.int .i64 d), .free (w1.heap.size) 0, .free (w1.heap.size) 1, .free (w1.heap.size) 2, tabsF] w') := Lib.hid (fun _ h => ⟨h.cell (w1.heap.size) 0 (.int .i64 y) (List.Mem.head _), h.cell (w1.heap.size) 1 (.int .i64 m) (List.Mem.tail _ (List.Mem.head _)), h.cell (w1.heap.size) 2 (.int .i64 d) (List.Mem.tail _ (List.Mem.tail _ (List.Mem.head _))), h⟩)
  have KH : Hid (∀ w' : World, w'.cell? ⟨w1.heap.size, 0, none⟩ = some (.int .i64 y) ∧ w'.cell? ⟨w1.heap.size, 1, none⟩ = some (.int .i64 m) ∧ w'.cell? ⟨w1.heap.size, 2, none⟩ = some (.int .i64 d) ∧ Held w [.cell (w1.heap.size) 0 (.int .i64 y), .cell (w1.heap.size) 1 (.int .i64 m), .cell (w1.heap.size) 2 (.int .i64 d), .free (w1.heap.size) 0, .free (w1.heap.size) 1, .free (w1.heap.size) 2, tabsF] w' → Held w [.cell (w1.heap.size) 0 (.int .i64 y), .cell (w1.heap.size) 1 (.int .i64 m), .cell (w1.heap.size) 2 (.int .i64 d), .free (w1.heap.size) 0, .free (w1.heap.size) 1, .free (w1.heap.size) 2, tabsF] w') := Lib.hid (fun _ h => h.2.2.2)
  have KL : Hid (∀ w' : World, w'.cell? ⟨w1.heap.size, 0, none⟩ = some (.int .i64 y) ∧ w'.cell? ⟨w1.heap.size, 1, none⟩ = some (.int .i64 m) ∧ w'.cell? ⟨w1.heap.size, 2, none⟩ = some (.int .i64 d) ∧ Held w [.cell (w1.heap.size) 0 (.int .i64 y), .cell (w1.heap.size) 1 (.int .i64 m), .cell (w1.heap.size) 2 (.int .i64 d), .free (w1.heap.size) 0, .free (w1.heap.size) 1, .free (w1.heap.size) 2, tabsF] w' → Tabs w') := Lib.hid (fun w' h => (KH.out w' h).tabs (List.Mem.tail _ (List.Mem.tail _ (List.Mem.tail _ (List.Mem.tail _ (List.Mem.tail _ (List.Mem.tail _ (List.Mem.head _))))))))
  have HS := Lib.hid (KS.out _ H.drew)
  go_region_held3 (fun w' => w'.cell? ⟨w1.heap.size, 0, none⟩ = some (.int .i64 y) ∧ w'.cell? ⟨w1.heap.size, 1, none⟩ = some (.int .i64 m) ∧ w'.cell? ⟨w1.heap.size, 2, none⟩ = some (.int .i64 d) ∧ Held w [.cell (w1.heap.size) 0 (.int .i64 y), .cell (w1.heap.size) 1 (.int .i64 m), .cell (w1.heap.size) 2 (.int .i64 d), .free (w1.heap.size) 0, .free (w1.heap.size) 1, .free (w1.heap.size) 2, tabsF] w')
    (first | exact HS.out | (refine KS.out _ (Held.below (KH.out _ ?_) hb); assumption) | (refine KS.out _ (Held.alloc (KH.out _ ?_) _); assumption))
    (first
      | (go_at_call 17; (with_reducible refine (C1.out _ (KL.out _ (by assumption))).mono ?_); rintro e w' ⟨rfl, hb⟩)
      | (go_at_call 17; (with_reducible refine (C2.out _ (KL.out _ (by assumption))).mono ?_); rintro e w' ⟨rfl, hb⟩)
      | (go_at_call 17; (with_reducible refine (C3.out _ (KL.out _ (by assumption))).mono ?_); rintro e w' ⟨rfl, hb⟩))
  go_wp2
  go_ret2
  exact ⟨rfl, (KH.out _ (by assumption)).old⟩

theorem show_out_any (n : Int) (w : World) (hL : Tabs w) (h : n < 1 ∨ 3652059 < n) : Calls Tryd.prog 9 #[.int .i64 n] w fun e' w' => e' = .returned (.tuple #[.string ⟨#[]⟩, .int .i64 3]) ∧ Below w.heap.size w w' := by
  have H := (Held.start w).add (f := tabsF) hL
  clear hL
  have O1 : Hid (DayIs n 0 0 0 3) := Lib.hid (Or.inr ⟨h, rfl, rfl, rfl, rfl⟩)
  clear h
  go_enter Tryd.func9, Tryd.ntmps9
  go_wp2_with fail
  (with_reducible refine (civ_any n 0 0 0 3 _ (H.tlens (List.Mem.head _)) O1.out).mono ?_)
  rintro e w1 ⟨rfl, hb⟩
  replace H := H.below hb
  clear hb
  go_wp2_with fail
  replace H := (H.triple (w1.heap.size) (.int .i64 0) (.int .i64 0) (.int .i64 0) 41 rfl)
  go_ret2
  exact ⟨rfl, H.old⟩

theorem show_any (n c : Int) (l : List UInt8) (w : World) (hL : Tabs w) (h : ShowIs n l c) : Calls Tryd.prog 9 #[.int .i64 n] w fun e' w' => e' = .returned (.tuple #[.string ⟨l.toArray⟩, .int .i64 c]) ∧ Below w.heap.size w w' := by
  rcases h with ⟨y, m, d, h1, h2, h3, rfl⟩ | ⟨h, rfl, rfl⟩
  · exact show_in_any n y m d l w hL h1 h2 h3
  · exact show_out_any n w hL h
end Go.Proofs.YtgdhpganognmlaaDoor
