/- Package count: the table of the seven ways as it lies in the memory; the way of a number; Name and Kind. -/
import Derived.Test.YtjijgcgbnmobfaaGreatDoorCoNm
namespace Go.Proofs.YtjijgcgbnmobfaaGreatDoor
open Go.RowKit
set_option linter.unusedVariables false
set_option linter.unusedSimpArgs false

/-- The seven ways in the memory: a name and what tells, each; four of these hold what they wrap in a box. -/
structure TabAt (B b1 b3 b4 b5 : Nat) (W : World) : Prop where
  n0 : W.cell? ⟨B, 0, none⟩ = some (.string (nm 0))
  p0 : W.cell? ⟨B, 1, none⟩ = some (.func (.func 83) #[] #[])
  n1 : W.cell? ⟨B, 2, none⟩ = some (.string (nm 1))
  p1 : W.cell? ⟨B, 3, none⟩ = some (.func (.func 93) #[] #[.pointer (some ⟨b1, 0, none⟩)])
  n2 : W.cell? ⟨B, 4, none⟩ = some (.string (nm 2))
  p2 : W.cell? ⟨B, 5, none⟩ = some (.func (.func 86) #[] #[])
  n3 : W.cell? ⟨B, 6, none⟩ = some (.string (nm 3))
  p3 : W.cell? ⟨B, 7, none⟩ = some (.func (.func 93) #[] #[.pointer (some ⟨b3, 0, none⟩)])
  n4 : W.cell? ⟨B, 8, none⟩ = some (.string (nm 4))
  p4 : W.cell? ⟨B, 9, none⟩ = some (.func (.func 93) #[] #[.pointer (some ⟨b4, 0, none⟩)])
  n5 : W.cell? ⟨B, 10, none⟩ = some (.string (nm 5))
  p5 : W.cell? ⟨B, 11, none⟩ = some (.func (.func 93) #[] #[.pointer (some ⟨b5, 0, none⟩)])
  n6 : W.cell? ⟨B, 12, none⟩ = some (.string (nm 6))
  p6 : W.cell? ⟨B, 13, none⟩ = some (.func (.func 90) #[] #[])
  i1 : W.cell? ⟨b1, 0, none⟩ = some (.func (.func 85) #[] #[])
  i3 : W.cell? ⟨b3, 0, none⟩ = some (.func (.func 87) #[] #[])
  i4 : W.cell? ⟨b4, 0, none⟩ = some (.func (.func 88) #[] #[])
  i5 : W.cell? ⟨b5, 0, none⟩ = some (.func (.func 89) #[] #[])
theorem TabAt.below {B b1 b3 b4 b5 : Nat} {W W' : World} (h : TabAt B b1 b3 b4 b5 W) (hb : Below W.heap.size W W') : TabAt B b1 b3 b4 b5 W' :=
  ⟨keep hb (cell_lt h.n0) h.n0, keep hb (cell_lt h.p0) h.p0, keep hb (cell_lt h.n1) h.n1, keep hb (cell_lt h.p1) h.p1, keep hb (cell_lt h.n2) h.n2, keep hb (cell_lt h.p2) h.p2, keep hb (cell_lt h.n3) h.n3, keep hb (cell_lt h.p3) h.p3, keep hb (cell_lt h.n4) h.n4, keep hb (cell_lt h.p4) h.p4, keep hb (cell_lt h.n5) h.n5, keep hb (cell_lt h.p5) h.p5, keep hb (cell_lt h.n6) h.n6, keep hb (cell_lt h.p6) h.p6, keep hb (cell_lt h.i1) h.i1, keep hb (cell_lt h.i3) h.i3, keep hb (cell_lt h.i4) h.i4, keep hb (cell_lt h.i5) h.i5⟩
def tabAtF (B b1 b3 b4 b5 : Nat) : Fact := .that (TabAt B b1 b3 b4 b5) (fun _ _ hb h => h.below hb)
theorem Held.tabAt {w W : World} {fs : List Fact} {B b1 b3 b4 b5 : Nat} (h : Held w fs W) (hm : tabAtF B b1 b3 b4 b5 ∈ fs) : TabAt B b1 b3 b4 b5 W := h.all _ hm

theorem alone_any (f : FuncId) (w : World) : Calls Tryz.prog 84 #[.func (.func f) #[] #[]] w fun e w' => e = .returned (.func (.func 93) #[] #[.pointer (some ⟨w.heap.size, 0, none⟩)]) ∧ w' = w.alloc (.cells #[.func (.func f) #[] #[]] 144) := by
  have hmf : ∀ (fn : Fn) (first cap : Array Value) (w : World), (Instr.makeFunc fn first cap).run Tryz.prog w = .ok (.func fn first cap) w := fun _ _ _ _ => rfl
  go_enter Tryz.func84, Tryz.ntmps84
  go_wp2_with fail
  go_ret
  exact ⟨rfl, rfl⟩
 
theorem new_cell10 {W : World} {B : Nat} (hB : W.heap.size = B) {cs : Array Value} {T : TypeId} {j : Nat} {v : Value} (h : cs[j]? = some v) : (W.alloc (.cells cs T)).cell? ⟨B, j, none⟩ = some v := by
  subst hB
  simp [World.cell?_alloc_new, h]
theorem nm_0 : nm 0 = ⟨#[51, 48, 47, 51, 54, 48]⟩ := by simp [nm]
theorem nm_1 : nm 1 = ⟨#[51, 48, 101, 47, 51, 54, 48]⟩ := by simp [nm]
theorem nm_2 : nm 2 = ⟨#[51, 48, 101, 47, 51, 54, 48, 105, 115, 100, 97]⟩ := by simp [nm]
theorem nm_3 : nm 3 = ⟨#[97, 99, 116, 47, 51, 54, 48]⟩ := by simp [nm]
theorem nm_4 : nm 4 = ⟨#[97, 99, 116, 47, 51, 54, 53, 102]⟩ := by simp [nm]
theorem nm_5 : nm 5 = ⟨#[97, 99, 116, 47, 97, 99, 116]⟩ := by simp [nm]
theorem nm_6 : nm 6 = ⟨#[97, 99, 116, 47, 97, 99, 116, 105, 99, 109, 97]⟩ := by simp [nm]
set_option maxHeartbeats 4000000 in
set_option maxRecDepth 100000 in
theorem ways_tab (w : World) : Calls Tryz.prog 76 #[] w fun e w' => ∃ B b1 b3 b4 b5, e = .returned (.slice (some ⟨B, 0, none⟩) 7 7) ∧ TabAt B b1 b3 b4 b5 w' ∧ Below w.heap.size w w' := by
  have H := Held.start w
  go_enter Tryz.func76, Tryz.ntmps76
  go_wp2_with fail
  (with_reducible refine (alone_any 85 w).mono ?_)
  rintro e w1 ⟨rfl, rfl⟩
  replace H := H.lone (w.heap.size) (.func (.func 85) #[] #[]) 144 (by simp)
  go_wp2_with fail
  (with_reducible refine (alone_any 87 _).mono ?_)
  rintro e w3 ⟨rfl, rfl⟩
  replace H := H.lone (w.heap.size + 1) (.func (.func 87) #[] #[]) 144 (by simp)
  go_wp2_with fail
  (with_reducible refine (alone_any 88 _).mono ?_)
  rintro e w4 ⟨rfl, rfl⟩
  replace H := H.lone (w.heap.size + 1 + 1) (.func (.func 88) #[] #[]) 144 (by simp)
  go_wp2_with fail
  (with_reducible refine (alone_any 89 _).mono ?_)
  rintro e w5 ⟨rfl, rfl⟩
  replace H := H.lone (w.heap.size + 1 + 1 + 1) (.func (.func 89) #[] #[]) 144 (by simp)
  go_wp2_with fail
  go_ret
  have M := H.alloc (.cells #[.string ⟨#[51, 48, 47, 51, 54, 48]⟩, .func (.func 83) #[] #[], .string ⟨#[51, 48, 101, 47, 51, 54, 48]⟩, .func (.func 93) #[] #[.pointer (some ⟨w.heap.size, 0, none⟩)], .string ⟨#[51, 48, 101, 47, 51, 54, 48, 105, 115, 100, 97]⟩, .func (.func 86) #[] #[], .string ⟨#[97, 99, 116, 47, 51, 54, 48]⟩, .func (.func 93) #[] #[.pointer (some ⟨w.heap.size + 1, 0, none⟩)], .string ⟨#[97, 99, 116, 47, 51, 54, 53, 102]⟩, .func (.func 93) #[] #[.pointer (some ⟨w.heap.size + 1 + 1, 0, none⟩)], .string ⟨#[97, 99, 116, 47, 97, 99, 116]⟩, .func (.func 93) #[] #[.pointer (some ⟨w.heap.size + 1 + 1 + 1, 0, none⟩)], .string ⟨#[97, 99, 116, 47, 97, 99, 116, 105, 99, 109, 97]⟩, .func (.func 90) #[] #[]] 109)
  refine ⟨w.heap.size + 1 + 1 + 1 + 1, w.heap.size, w.heap.size + 1, w.heap.size + 1 + 1, w.heap.size + 1 + 1 + 1, rfl, ⟨by rw [nm_0]; exact new_cell10 (by simp) rfl, new_cell10 (by simp) rfl, by rw [nm_1]; exact new_cell10 (by simp) rfl, new_cell10 (by simp) rfl, by rw [nm_2]; exact new_cell10 (by simp) rfl, new_cell10 (by simp) rfl, by rw [nm_3]; exact new_cell10 (by simp) rfl, new_cell10 (by simp) rfl, by rw [nm_4]; exact new_cell10 (by simp) rfl, new_cell10 (by simp) rfl, by rw [nm_5]; exact new_cell10 (by simp) rfl, new_cell10 (by simp) rfl, by rw [nm_6]; exact new_cell10 (by simp) rfl, new_cell10 (by simp) rfl, M.cell (w.heap.size) 0 _ (by repeat (first | with_reducible exact List.mem_cons_self | with_reducible apply List.mem_cons_of_mem)), M.cell (w.heap.size + 1) 0 _ (by repeat (first | with_reducible exact List.mem_cons_self | with_reducible apply List.mem_cons_of_mem)), M.cell (w.heap.size + 1 + 1) 0 _ (by repeat (first | with_reducible exact List.mem_cons_self | with_reducible apply List.mem_cons_of_mem)), M.cell (w.heap.size + 1 + 1 + 1) 0 _ (by repeat (first | with_reducible exact List.mem_cons_self | with_reducible apply List.mem_cons_of_mem))⟩, M.old⟩
set_option maxHeartbeats 4000000 in
set_option maxRecDepth 100000 in
theorem find_0 (w : World) : Calls Tryz.prog 65 #[.int .i64 0] w fun e w' => e = .returned (.tuple #[.agg #[.string (nm 0), .func (.func 83) #[] #[]], .bool true]) ∧ Below w.heap.size w w' := by
  have sf : ∀ (a : Addr) (f : FuncId) (s cs : Array Value) (W : World), (store a (.func (.func f) s cs)).run Tryz.prog W = stored Tryz.prog W a (.func (.func f) s cs) .plain := fun a f s cs W => run_store _ W a _ _ rfl
  have H := Held.start w
  go_enter Tryz.func65, Tryz.ntmps65
  go_wp2_with fail
  replace H := H.pair (w.heap.size) (.string ⟨#[]⟩) .nilFunc 109 rfl
  (with_reducible refine (ways_tab _).mono ?_)
  rintro e w1 ⟨B, b1, b3, b4, b5, rfl, T, hb⟩
  replace H := H.below hb
  clear hb
  have cz0 := H.cell (w.heap.size) 0 (.string ⟨#[]⟩) (by repeat (first | with_reducible exact List.mem_cons_self | with_reducible apply List.mem_cons_of_mem))
  have cz1 := H.cell (w.heap.size) 1 (.nilFunc) (by repeat (first | with_reducible exact List.mem_cons_self | with_reducible apply List.mem_cons_of_mem))
  have lz := cell_lt cz0
  have fz0 := H.frozen (w.heap.size) 0 (by repeat (first | with_reducible exact List.mem_cons_self | with_reducible apply List.mem_cons_of_mem))
  have fz1 := H.frozen (w.heap.size) 1 (by repeat (first | with_reducible exact List.mem_cons_self | with_reducible apply List.mem_cons_of_mem))
  have cn := T.n0
  have cp := T.p0
  have lB := cell_lt cn
  clear T
  have HK := H.old
  clear H
  go_wp2_with fail
  exact bodyPost_ret (v := .tuple #[.agg #[.string (nm 0), .func (.func 83) #[] #[]], .bool true]) (by simp [results, Tryz.results65, go_sem, cz0, cz1, lz]) rfl ⟨rfl, (by repeat (first | exact HK | refine Below.drew ?_ | refine Below.setCell ?_ (by simp <;> omega) _ | refine Below.alloc ?_ (by simp <;> omega) _))⟩
set_option maxHeartbeats 4000000 in
set_option maxRecDepth 100000 in
theorem find_1 (w : World) : Calls Tryz.prog 65 #[.int .i64 1] w fun e w' => ∃ b1, e = .returned (.tuple #[.agg #[.string (nm 1), .func (.func 93) #[] #[.pointer (some ⟨b1, 0, none⟩)]], .bool true]) ∧ w'.cell? ⟨b1, 0, none⟩ = some (.func (.func 85) #[] #[]) ∧ Below w.heap.size w w' := by
  have sf : ∀ (a : Addr) (f : FuncId) (s cs : Array Value) (W : World), (store a (.func (.func f) s cs)).run Tryz.prog W = stored Tryz.prog W a (.func (.func f) s cs) .plain := fun a f s cs W => run_store _ W a _ _ rfl
  have H := Held.start w
  go_enter Tryz.func65, Tryz.ntmps65
  go_wp2_with fail
  replace H := H.pair (w.heap.size) (.string ⟨#[]⟩) .nilFunc 109 rfl
  (with_reducible refine (ways_tab _).mono ?_)
  rintro e w1 ⟨B, b1, b3, b4, b5, rfl, T, hb⟩
  replace H := H.below hb
  clear hb
  have cz0 := H.cell (w.heap.size) 0 (.string ⟨#[]⟩) (by repeat (first | with_reducible exact List.mem_cons_self | with_reducible apply List.mem_cons_of_mem))
  have cz1 := H.cell (w.heap.size) 1 (.nilFunc) (by repeat (first | with_reducible exact List.mem_cons_self | with_reducible apply List.mem_cons_of_mem))
  have lz := cell_lt cz0
  have fz0 := H.frozen (w.heap.size) 0 (by repeat (first | with_reducible exact List.mem_cons_self | with_reducible apply List.mem_cons_of_mem))
  have fz1 := H.frozen (w.heap.size) 1 (by repeat (first | with_reducible exact List.mem_cons_self | with_reducible apply List.mem_cons_of_mem))
  have cn := T.n1
  have cp := T.p1
  have lB := cell_lt cn
  have ci := T.i1
  have li := cell_lt ci
  have nb : b1 ≠ w.heap.size := by
    rintro rfl
    rw [ci] at cz0
    cases cz0
  clear T
  have HK := H.old
  clear H
  go_wp2_with fail
  refine bodyPost_ret (v := .tuple #[.agg #[.string (nm 1), .func (.func 93) #[] #[.pointer (some ⟨b1, 0, none⟩)]], .bool true]) (by simp [results, Tryz.results65, go_sem, cz0, cz1, lz]) rfl ⟨_, rfl, ?_, (by repeat (first | exact HK | refine Below.drew ?_ | refine Below.setCell ?_ (by simp <;> omega) _ | refine Below.alloc ?_ (by simp <;> omega) _))⟩
  rw [World.cell?_setCell_far _ _ ⟨b1, 0, none⟩ _ (Ne.symm nb), World.cell?_setCell_far _ _ ⟨b1, 0, none⟩ _ (Ne.symm nb)]
  exact ci
set_option maxHeartbeats 4000000 in
set_option maxRecDepth 100000 in
theorem find_2 (w : World) : Calls Tryz.prog 65 #[.int .i64 2] w fun e w' => e = .returned (.tuple #[.agg #[.string (nm 2), .func (.func 86) #[] #[]], .bool true]) ∧ Below w.heap.size w w' := by
  have sf : ∀ (a : Addr) (f : FuncId) (s cs : Array Value) (W : World), (store a (.func (.func f) s cs)).run Tryz.prog W = stored Tryz.prog W a (.func (.func f) s cs) .plain := fun a f s cs W => run_store _ W a _ _ rfl
  have H := Held.start w
  go_enter Tryz.func65, Tryz.ntmps65
  go_wp2_with fail
  replace H := H.pair (w.heap.size) (.string ⟨#[]⟩) .nilFunc 109 rfl
  (with_reducible refine (ways_tab _).mono ?_)
  rintro e w1 ⟨B, b1, b3, b4, b5, rfl, T, hb⟩
  replace H := H.below hb
  clear hb
  have cz0 := H.cell (w.heap.size) 0 (.string ⟨#[]⟩) (by repeat (first | with_reducible exact List.mem_cons_self | with_reducible apply List.mem_cons_of_mem))
  have cz1 := H.cell (w.heap.size) 1 (.nilFunc) (by repeat (first | with_reducible exact List.mem_cons_self | with_reducible apply List.mem_cons_of_mem))
  have lz := cell_lt cz0
  have fz0 := H.frozen (w.heap.size) 0 (by repeat (first | with_reducible exact List.mem_cons_self | with_reducible apply List.mem_cons_of_mem))
  have fz1 := H.frozen (w.heap.size) 1 (by repeat (first | with_reducible exact List.mem_cons_self | with_reducible apply List.mem_cons_of_mem))
  have cn := T.n2
  have cp := T.p2
  have lB := cell_lt cn
  clear T
  have HK := H.old
  clear H
  go_wp2_with fail
  exact bodyPost_ret (v := .tuple #[.agg #[.string (nm 2), .func (.func 86) #[] #[]], .bool true]) (by simp [results, Tryz.results65, go_sem, cz0, cz1, lz]) rfl ⟨rfl, (by repeat (first | exact HK | refine Below.drew ?_ | refine Below.setCell ?_ (by simp <;> omega) _ | refine Below.alloc ?_ (by simp <;> omega) _))⟩
set_option maxHeartbeats 4000000 in
set_option maxRecDepth 100000 in
theorem find_3 (w : World) : Calls Tryz.prog 65 #[.int .i64 3] w fun e w' => ∃ b3, e = .returned (.tuple #[.agg #[.string (nm 3), .func (.func 93) #[] #[.pointer (some ⟨b3, 0, none⟩)]], .bool true]) ∧ w'.cell? ⟨b3, 0, none⟩ = some (.func (.func 87) #[] #[]) ∧ Below w.heap.size w w' := by
  have sf : ∀ (a : Addr) (f : FuncId) (s cs : Array Value) (W : World), (store a (.func (.func f) s cs)).run Tryz.prog W = stored Tryz.prog W a (.func (.func f) s cs) .plain := fun a f s cs W => run_store _ W a _ _ rfl
  have H := Held.start w
  go_enter Tryz.func65, Tryz.ntmps65
  go_wp2_with fail
  replace H := H.pair (w.heap.size) (.string ⟨#[]⟩) .nilFunc 109 rfl
  (with_reducible refine (ways_tab _).mono ?_)
  rintro e w1 ⟨B, b1, b3, b4, b5, rfl, T, hb⟩
  replace H := H.below hb
  clear hb
  have cz0 := H.cell (w.heap.size) 0 (.string ⟨#[]⟩) (by repeat (first | with_reducible exact List.mem_cons_self | with_reducible apply List.mem_cons_of_mem))
  have cz1 := H.cell (w.heap.size) 1 (.nilFunc) (by repeat (first | with_reducible exact List.mem_cons_self | with_reducible apply List.mem_cons_of_mem))
  have lz := cell_lt cz0
  have fz0 := H.frozen (w.heap.size) 0 (by repeat (first | with_reducible exact List.mem_cons_self | with_reducible apply List.mem_cons_of_mem))
  have fz1 := H.frozen (w.heap.size) 1 (by repeat (first | with_reducible exact List.mem_cons_self | with_reducible apply List.mem_cons_of_mem))
  have cn := T.n3
  have cp := T.p3
  have lB := cell_lt cn
  have ci := T.i3
  have li := cell_lt ci
  have nb : b3 ≠ w.heap.size := by
    rintro rfl
    rw [ci] at cz0
    cases cz0
  clear T
  have HK := H.old
  clear H
  go_wp2_with fail
  refine bodyPost_ret (v := .tuple #[.agg #[.string (nm 3), .func (.func 93) #[] #[.pointer (some ⟨b3, 0, none⟩)]], .bool true]) (by simp [results, Tryz.results65, go_sem, cz0, cz1, lz]) rfl ⟨_, rfl, ?_, (by repeat (first | exact HK | refine Below.drew ?_ | refine Below.setCell ?_ (by simp <;> omega) _ | refine Below.alloc ?_ (by simp <;> omega) _))⟩
  rw [World.cell?_setCell_far _ _ ⟨b3, 0, none⟩ _ (Ne.symm nb), World.cell?_setCell_far _ _ ⟨b3, 0, none⟩ _ (Ne.symm nb)]
  exact ci
set_option maxHeartbeats 4000000 in
set_option maxRecDepth 100000 in
theorem find_4 (w : World) : Calls Tryz.prog 65 #[.int .i64 4] w fun e w' => ∃ b4, e = .returned (.tuple #[.agg #[.string (nm 4), .func (.func 93) #[] #[.pointer (some ⟨b4, 0, none⟩)]], .bool true]) ∧ w'.cell? ⟨b4, 0, none⟩ = some (.func (.func 88) #[] #[]) ∧ Below w.heap.size w w' := by
  have sf : ∀ (a : Addr) (f : FuncId) (s cs : Array Value) (W : World), (store a (.func (.func f) s cs)).run Tryz.prog W = stored Tryz.prog W a (.func (.func f) s cs) .plain := fun a f s cs W => run_store _ W a _ _ rfl
  have H := Held.start w
  go_enter Tryz.func65, Tryz.ntmps65
  go_wp2_with fail
  replace H := H.pair (w.heap.size) (.string ⟨#[]⟩) .nilFunc 109 rfl
  (with_reducible refine (ways_tab _).mono ?_)
  rintro e w1 ⟨B, b1, b3, b4, b5, rfl, T, hb⟩
  replace H := H.below hb
  clear hb
  have cz0 := H.cell (w.heap.size) 0 (.string ⟨#[]⟩) (by repeat (first | with_reducible exact List.mem_cons_self | with_reducible apply List.mem_cons_of_mem))
  have cz1 := H.cell (w.heap.size) 1 (.nilFunc) (by repeat (first | with_reducible exact List.mem_cons_self | with_reducible apply List.mem_cons_of_mem))
  have lz := cell_lt cz0
  have fz0 := H.frozen (w.heap.size) 0 (by repeat (first | with_reducible exact List.mem_cons_self | with_reducible apply List.mem_cons_of_mem))
  have fz1 := H.frozen (w.heap.size) 1 (by repeat (first | with_reducible exact List.mem_cons_self | with_reducible apply List.mem_cons_of_mem))
  have cn := T.n4
  have cp := T.p4
  have lB := cell_lt cn
  have ci := T.i4
  have li := cell_lt ci
  have nb : b4 ≠ w.heap.size := by
    rintro rfl
    rw [ci] at cz0
    cases cz0
  clear T
  have HK := H.old
  clear H
  go_wp2_with fail
  refine bodyPost_ret (v := .tuple #[.agg #[.string (nm 4), .func (.func 93) #[] #[.pointer (some ⟨b4, 0, none⟩)]], .bool true]) (by simp [results, Tryz.results65, go_sem, cz0, cz1, lz]) rfl ⟨_, rfl, ?_, (by repeat (first | exact HK | refine Below.drew ?_ | refine Below.setCell ?_ (by simp <;> omega) _ | refine Below.alloc ?_ (by simp <;> omega) _))⟩
  rw [World.cell?_setCell_far _ _ ⟨b4, 0, none⟩ _ (Ne.symm nb), World.cell?_setCell_far _ _ ⟨b4, 0, none⟩ _ (Ne.symm nb)]
  exact ci
set_option maxHeartbeats 4000000 in
set_option maxRecDepth 100000 in
theorem find_5 (w : World) : Calls Tryz.prog 65 #[.int .i64 5] w fun e w' => ∃ b5, e = .returned (.tuple #[.agg #[.string (nm 5), .func (.func 93) #[] #[.pointer (some ⟨b5, 0, none⟩)]], .bool true]) ∧ w'.cell? ⟨b5, 0, none⟩ = some (.func (.func 89) #[] #[]) ∧ Below w.heap.size w w' := by
  have sf : ∀ (a : Addr) (f : FuncId) (s cs : Array Value) (W : World), (store a (.func (.func f) s cs)).run Tryz.prog W = stored Tryz.prog W a (.func (.func f) s cs) .plain := fun a f s cs W => run_store _ W a _ _ rfl
  have H := Held.start w
  go_enter Tryz.func65, Tryz.ntmps65
  go_wp2_with fail
  replace H := H.pair (w.heap.size) (.string ⟨#[]⟩) .nilFunc 109 rfl
  (with_reducible refine (ways_tab _).mono ?_)
  rintro e w1 ⟨B, b1, b3, b4, b5, rfl, T, hb⟩
  replace H := H.below hb
  clear hb
  have cz0 := H.cell (w.heap.size) 0 (.string ⟨#[]⟩) (by repeat (first | with_reducible exact List.mem_cons_self | with_reducible apply List.mem_cons_of_mem))
  have cz1 := H.cell (w.heap.size) 1 (.nilFunc) (by repeat (first | with_reducible exact List.mem_cons_self | with_reducible apply List.mem_cons_of_mem))
  have lz := cell_lt cz0
  have fz0 := H.frozen (w.heap.size) 0 (by repeat (first | with_reducible exact List.mem_cons_self | with_reducible apply List.mem_cons_of_mem))
  have fz1 := H.frozen (w.heap.size) 1 (by repeat (first | with_reducible exact List.mem_cons_self | with_reducible apply List.mem_cons_of_mem))
  have cn := T.n5
  have cp := T.p5
  have lB := cell_lt cn
  have ci := T.i5
  have li := cell_lt ci
  have nb : b5 ≠ w.heap.size := by
    rintro rfl
    rw [ci] at cz0
    cases cz0
  clear T
  have HK := H.old
  clear H
  go_wp2_with fail
  refine bodyPost_ret (v := .tuple #[.agg #[.string (nm 5), .func (.func 93) #[] #[.pointer (some ⟨b5, 0, none⟩)]], .bool true]) (by simp [results, Tryz.results65, go_sem, cz0, cz1, lz]) rfl ⟨_, rfl, ?_, (by repeat (first | exact HK | refine Below.drew ?_ | refine Below.setCell ?_ (by simp <;> omega) _ | refine Below.alloc ?_ (by simp <;> omega) _))⟩
  rw [World.cell?_setCell_far _ _ ⟨b5, 0, none⟩ _ (Ne.symm nb), World.cell?_setCell_far _ _ ⟨b5, 0, none⟩ _ (Ne.symm nb)]
  exact ci
set_option maxHeartbeats 4000000 in
set_option maxRecDepth 100000 in
theorem find_6 (w : World) : Calls Tryz.prog 65 #[.int .i64 6] w fun e w' => e = .returned (.tuple #[.agg #[.string (nm 6), .func (.func 90) #[] #[]], .bool true]) ∧ Below w.heap.size w w' := by
  have sf : ∀ (a : Addr) (f : FuncId) (s cs : Array Value) (W : World), (store a (.func (.func f) s cs)).run Tryz.prog W = stored Tryz.prog W a (.func (.func f) s cs) .plain := fun a f s cs W => run_store _ W a _ _ rfl
  have H := Held.start w
  go_enter Tryz.func65, Tryz.ntmps65
  go_wp2_with fail
  replace H := H.pair (w.heap.size) (.string ⟨#[]⟩) .nilFunc 109 rfl
  (with_reducible refine (ways_tab _).mono ?_)
  rintro e w1 ⟨B, b1, b3, b4, b5, rfl, T, hb⟩
  replace H := H.below hb
  clear hb
  have cz0 := H.cell (w.heap.size) 0 (.string ⟨#[]⟩) (by repeat (first | with_reducible exact List.mem_cons_self | with_reducible apply List.mem_cons_of_mem))
  have cz1 := H.cell (w.heap.size) 1 (.nilFunc) (by repeat (first | with_reducible exact List.mem_cons_self | with_reducible apply List.mem_cons_of_mem))
  have lz := cell_lt cz0
  have fz0 := H.frozen (w.heap.size) 0 (by repeat (first | with_reducible exact List.mem_cons_self | with_reducible apply List.mem_cons_of_mem))
  have fz1 := H.frozen (w.heap.size) 1 (by repeat (first | with_reducible exact List.mem_cons_self | with_reducible apply List.mem_cons_of_mem))
  have cn := T.n6
  have cp := T.p6
  have lB := cell_lt cn
  clear T
  have HK := H.old
  clear H
  go_wp2_with fail
  exact bodyPost_ret (v := .tuple #[.agg #[.string (nm 6), .func (.func 90) #[] #[]], .bool true]) (by simp [results, Tryz.results65, go_sem, cz0, cz1, lz]) rfl ⟨rfl, (by repeat (first | exact HK | refine Below.drew ?_ | refine Below.setCell ?_ (by simp <;> omega) _ | refine Below.alloc ?_ (by simp <;> omega) _))⟩
set_option maxHeartbeats 4000000 in
set_option maxRecDepth 100000 in
theorem find_out (k : Int) (w : World) (hk : k < 0 ∨ 6 < k) : Calls Tryz.prog 65 #[.int .i64 k] w fun e w' => e = .returned (.tuple #[.agg #[.string ⟨#[]⟩, .nilFunc], .bool false]) ∧ Below w.heap.size w w' := by
  have sf : ∀ (a : Addr) (W : World), (store a .nilFunc).run Tryz.prog W = stored Tryz.prog W a .nilFunc .plain := fun a W => run_store _ W a _ _ rfl
  have H := Held.start w
  go_enter Tryz.func65, Tryz.ntmps65
  go_wp2_with fail
  replace H := H.pair (w.heap.size) (.string ⟨#[]⟩) .nilFunc 109 rfl
  (with_reducible refine (ways_tab _).mono ?_)
  rintro e w1 ⟨B, b1, b3, b4, b5, rfl, T, hb⟩
  replace H := H.below hb
  clear hb
  have cz0 := H.cell (w.heap.size) 0 (.string ⟨#[]⟩) (by repeat (first | with_reducible exact List.mem_cons_self | with_reducible apply List.mem_cons_of_mem))
  have cz1 := H.cell (w.heap.size) 1 (.nilFunc) (by repeat (first | with_reducible exact List.mem_cons_self | with_reducible apply List.mem_cons_of_mem))
  have lz := cell_lt cz0
  have fz0 := H.frozen (w.heap.size) 0 (by repeat (first | with_reducible exact List.mem_cons_self | with_reducible apply List.mem_cons_of_mem))
  have fz1 := H.frozen (w.heap.size) 1 (by repeat (first | with_reducible exact List.mem_cons_self | with_reducible apply List.mem_cons_of_mem))
  clear T
  have HK := H.old
  clear H
  by_cases h : k < 0
  · have t1 : decide (k < 0) = true := by simp; omega
    go_wp2_with fail
    exact bodyPost_ret (v := .tuple #[.agg #[.string ⟨#[]⟩, .nilFunc], .bool false]) (by simp [results, Tryz.results65, go_sem, cz0, cz1, lz]) rfl ⟨rfl, (by repeat (first | exact HK | refine Below.drew ?_ | refine Below.setCell ?_ (by simp <;> omega) _ | refine Below.alloc ?_ (by simp <;> omega) _))⟩
  · have t1 : decide (k < 0) = false := by simp; omega
    have t2 : decide (k ≥ 7) = true := by simp; omega
    go_wp2_with fail
    exact bodyPost_ret (v := .tuple #[.agg #[.string ⟨#[]⟩, .nilFunc], .bool false]) (by simp [results, Tryz.results65, go_sem, cz0, cz1, lz]) rfl ⟨rfl, (by repeat (first | exact HK | refine Below.drew ?_ | refine Below.setCell ?_ (by simp <;> omega) _ | refine Below.alloc ?_ (by simp <;> omega) _))⟩
set_option maxHeartbeats 4000000 in
set_option maxRecDepth 100000 in
theorem cname_0 (w : World) : Calls Tryz.prog 51 #[.int .i64 0] w fun e w' => e = .returned (.string (nm 0)) ∧ Below w.heap.size w w' := by
  have sf : ∀ (a : Addr) (f : FuncId) (s cs : Array Value) (W : World), (store a (.func (.func f) s cs)).run Tryz.prog W = stored Tryz.prog W a (.func (.func f) s cs) .plain := fun a f s cs W => run_store _ W a _ _ rfl
  have H := Held.start w
  go_enter Tryz.func51, Tryz.ntmps51
  go_wp2_with fail
  (with_reducible refine (find_0 _).mono ?_)
  rintro e w1 ⟨rfl, hb⟩
  replace H := H.below hb
  clear hb
  go_wp2_with fail
  go_ret
  exact ⟨rfl, (H.alloc _).old⟩
set_option maxHeartbeats 4000000 in
set_option maxRecDepth 100000 in
theorem cname_1 (w : World) : Calls Tryz.prog 51 #[.int .i64 1] w fun e w' => e = .returned (.string (nm 1)) ∧ Below w.heap.size w w' := by
  have sf : ∀ (a : Addr) (f : FuncId) (s cs : Array Value) (W : World), (store a (.func (.func f) s cs)).run Tryz.prog W = stored Tryz.prog W a (.func (.func f) s cs) .plain := fun a f s cs W => run_store _ W a _ _ rfl
  have H := Held.start w
  go_enter Tryz.func51, Tryz.ntmps51
  go_wp2_with fail
  (with_reducible refine (find_1 _).mono ?_)
  rintro e w1 ⟨b, rfl, -, hb⟩
  replace H := H.below hb
  clear hb
  go_wp2_with fail
  go_ret
  exact ⟨rfl, (H.alloc _).old⟩
set_option maxHeartbeats 4000000 in
set_option maxRecDepth 100000 in
theorem cname_2 (w : World) : Calls Tryz.prog 51 #[.int .i64 2] w fun e w' => e = .returned (.string (nm 2)) ∧ Below w.heap.size w w' := by
  have sf : ∀ (a : Addr) (f : FuncId) (s cs : Array Value) (W : World), (store a (.func (.func f) s cs)).run Tryz.prog W = stored Tryz.prog W a (.func (.func f) s cs) .plain := fun a f s cs W => run_store _ W a _ _ rfl
  have H := Held.start w
  go_enter Tryz.func51, Tryz.ntmps51
  go_wp2_with fail
  (with_reducible refine (find_2 _).mono ?_)
  rintro e w1 ⟨rfl, hb⟩
  replace H := H.below hb
  clear hb
  go_wp2_with fail
  go_ret
  exact ⟨rfl, (H.alloc _).old⟩
set_option maxHeartbeats 4000000 in
set_option maxRecDepth 100000 in
theorem cname_3 (w : World) : Calls Tryz.prog 51 #[.int .i64 3] w fun e w' => e = .returned (.string (nm 3)) ∧ Below w.heap.size w w' := by
  have sf : ∀ (a : Addr) (f : FuncId) (s cs : Array Value) (W : World), (store a (.func (.func f) s cs)).run Tryz.prog W = stored Tryz.prog W a (.func (.func f) s cs) .plain := fun a f s cs W => run_store _ W a _ _ rfl
  have H := Held.start w
  go_enter Tryz.func51, Tryz.ntmps51
  go_wp2_with fail
  (with_reducible refine (find_3 _).mono ?_)
  rintro e w1 ⟨b, rfl, -, hb⟩
  replace H := H.below hb
  clear hb
  go_wp2_with fail
  go_ret
  exact ⟨rfl, (H.alloc _).old⟩
set_option maxHeartbeats 4000000 in
set_option maxRecDepth 100000 in
theorem cname_4 (w : World) : Calls Tryz.prog 51 #[.int .i64 4] w fun e w' => e = .returned (.string (nm 4)) ∧ Below w.heap.size w w' := by
  have sf : ∀ (a : Addr) (f : FuncId) (s cs : Array Value) (W : World), (store a (.func (.func f) s cs)).run Tryz.prog W = stored Tryz.prog W a (.func (.func f) s cs) .plain := fun a f s cs W => run_store _ W a _ _ rfl
  have H := Held.start w
  go_enter Tryz.func51, Tryz.ntmps51
  go_wp2_with fail
  (with_reducible refine (find_4 _).mono ?_)
  rintro e w1 ⟨b, rfl, -, hb⟩
  replace H := H.below hb
  clear hb
  go_wp2_with fail
  go_ret
  exact ⟨rfl, (H.alloc _).old⟩
set_option maxHeartbeats 4000000 in
set_option maxRecDepth 100000 in
theorem cname_5 (w : World) : Calls Tryz.prog 51 #[.int .i64 5] w fun e w' => e = .returned (.string (nm 5)) ∧ Below w.heap.size w w' := by
  have sf : ∀ (a : Addr) (f : FuncId) (s cs : Array Value) (W : World), (store a (.func (.func f) s cs)).run Tryz.prog W = stored Tryz.prog W a (.func (.func f) s cs) .plain := fun a f s cs W => run_store _ W a _ _ rfl
  have H := Held.start w
  go_enter Tryz.func51, Tryz.ntmps51
  go_wp2_with fail
  (with_reducible refine (find_5 _).mono ?_)
  rintro e w1 ⟨b, rfl, -, hb⟩
  replace H := H.below hb
  clear hb
  go_wp2_with fail
  go_ret
  exact ⟨rfl, (H.alloc _).old⟩
set_option maxHeartbeats 4000000 in
set_option maxRecDepth 100000 in
theorem cname_6 (w : World) : Calls Tryz.prog 51 #[.int .i64 6] w fun e w' => e = .returned (.string (nm 6)) ∧ Below w.heap.size w w' := by
  have sf : ∀ (a : Addr) (f : FuncId) (s cs : Array Value) (W : World), (store a (.func (.func f) s cs)).run Tryz.prog W = stored Tryz.prog W a (.func (.func f) s cs) .plain := fun a f s cs W => run_store _ W a _ _ rfl
  have H := Held.start w
  go_enter Tryz.func51, Tryz.ntmps51
  go_wp2_with fail
  (with_reducible refine (find_6 _).mono ?_)
  rintro e w1 ⟨rfl, hb⟩
  replace H := H.below hb
  clear hb
  go_wp2_with fail
  go_ret
  exact ⟨rfl, (H.alloc _).old⟩
set_option maxHeartbeats 4000000 in
set_option maxRecDepth 100000 in
theorem cname_out (k : Int) (w : World) (hk : k < 0 ∨ 6 < k) : Calls Tryz.prog 51 #[.int .i64 k] w fun e w' => e = .returned (.string (nm k)) ∧ Below w.heap.size w w' := by
  rw [nm_out k hk]
  have sf : ∀ (a : Addr) (W : World), (store a .nilFunc).run Tryz.prog W = stored Tryz.prog W a .nilFunc .plain := fun a W => run_store _ W a _ _ rfl
  have H := Held.start w
  go_enter Tryz.func51, Tryz.ntmps51
  go_wp2_with fail
  (with_reducible refine (find_out k _ hk).mono ?_)
  rintro e w1 ⟨rfl, hb⟩
  replace H := H.below hb
  clear hb
  go_wp2_with fail
  go_ret
  exact ⟨rfl, (H.alloc _).old⟩
theorem cname_any (k : Int) (w : World) : Calls Tryz.prog 51 #[.int .i64 k] w fun e w' => e = .returned (.string (nm k)) ∧ Below w.heap.size w w' := by
  by_cases h : k < 0 ∨ 6 < k
  · exact cname_out k w h
  · rcases of7 k (by omega) with rfl | rfl | rfl | rfl | rfl | rfl | rfl
    · exact cname_0 w
    · exact cname_1 w
    · exact cname_2 w
    · exact cname_3 w
    · exact cname_4 w
    · exact cname_5 w
    · exact cname_6 w
end Go.Proofs.YtjijgcgbnmobfaaGreatDoor
