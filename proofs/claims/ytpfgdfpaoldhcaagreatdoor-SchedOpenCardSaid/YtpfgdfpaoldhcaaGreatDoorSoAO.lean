/- Several texts in one: RoFacts, CoNm, CoShown, CoTab, CoWays. -/
import Derived.Test.YtpfgdfpaoldhcaaGreatDoorSoAN
set_option maxHeartbeats 8000000
set_option maxRecDepth 100000
set_option linter.unusedVariables false
set_option linter.unusedSimpArgs false
namespace Go.Proofs.YtpfgdfpaoldhcaaGreatDoor
open Go.RowKit
def Names (w : World) : Prop := ∀ i : Nat, i < 5 → w.cell? ⟨6, i, none⟩ = some (.string (rn i))
def FactsW (w : World) : Prop := Lens w ∧ Names w
theorem FactsW.below {W W' : World} (h : FactsW W) (hb : Below W.heap.size W W') : FactsW W' := ⟨Lens.below h.1 hb, fun i hi => keep hb (zA0 (h.2 i hi)) (h.2 i hi)⟩
def zAc : Fact := .that FactsW (fun _ _ hb h => h.below hb)
theorem Held.factsW {w W : World} {fs : List Fact} (h : Held w fs W) (hm : zAc ∈ fs := by repeat (first | with_reducible exact List.mem_cons_self | with_reducible apply List.mem_cons_of_mem)) : FactsW W := h.all _ hm
theorem Held.factsWu {w W : World} {fs : List Fact} (h : Held w fs W) (hm : zAc ∈ fs := by repeat (first | with_reducible exact List.mem_cons_self | with_reducible apply List.mem_cons_of_mem)) : FactsU W := (h.factsW hm).1
theorem Held.factsWl {w W : World} {fs : List Fact} (h : Held w fs W) (hm : zAc ∈ fs := by repeat (first | with_reducible exact List.mem_cons_self | with_reducible apply List.mem_cons_of_mem)) : Lens W := (h.factsW hm).1
theorem zO6 (n : Int) (b : Bool) (w : World) (h : decide (1 ≤ n ∧ n ≤ 3652059) = b) : Calls Tryz.prog 161 #[.int .i64 n] w fun e w' => e = .returned (.bool b) ∧ w = w' := by
 have HB := Lib.hid h
 clear h
 go_enter Tryz.func161, Tryz.ntmps161
 go_wp2
 all_goals (go_ret; refine ⟨retB ?_, rfl⟩; rw [← HB.out]; rw [Bool.eq_iff_iff]; (try simp only [ge_iff_le, Bool.and_eq_true, decide_eq_true_eq, Bool.false_eq_true, false_iff, true_iff]); omega)
theorem Held.calR {w W : World} {fs : List Fact} {c : Ca} {aR : Option Addr} {cR : Nat} {aD : Option Addr} {cD : Nat} (h : Held w fs W) (hm : calF c aR cR aD cD ∈ fs := by repeat (first | with_reducible exact List.mem_cons_self | with_reducible apply List.mem_cons_of_mem)) : RulesAt W aR c.R c.nr cR := (h.cal hm).1
theorem Held.calD {w W : World} {fs : List Fact} {c : Ca} {aR : Option Addr} {cR : Nat} {aD : Option Addr} {cD : Nat} (h : Held w fs W) (hm : calF c aR cR aD cD ∈ fs := by repeat (first | with_reducible exact List.mem_cons_self | with_reducible apply List.mem_cons_of_mem)) : DaysAt W aD c.X c.nd cD := (h.cal hm).2
def zQs (ao : Option Addr) (R : Nat → Ru) (n cap : Nat) : Fact := .that (fun W => RulesAt W ao R n cap) (fun _ _ hb h => h.below hb)
theorem Held.rules {w W : World} {fs : List Fact} {ao : Option Addr} {R : Nat → Ru} {n cap : Nat} (h : Held w fs W) (hm : zQs ao R n cap ∈ fs := by repeat (first | with_reducible exact List.mem_cons_self | with_reducible apply List.mem_cons_of_mem)) : RulesAt W ao R n cap := h.all _ hm
def Ca.Few (c : Ca) : Prop := c.nr ≤ 12 ∧ c.nd ≤ 60
theorem Ca.Few.small {c : Ca} (h : c.Few) : c.Small := ⟨Nat.le_trans h.1 (by decide), Nat.le_trans h.2 (by decide)⟩
theorem zGk (W : World) (o : Nat → Bool) (R : Nat → Ru) (X : Nat → Int) : CalAt W ⟨o, 0, R, 0, X⟩ none 0 none 0 := ⟨⟨Nat.le_refl _, fun k => absurd k (Nat.lt_irrefl _)⟩, Nat.le_refl _, fun k => absurd k (Nat.lt_irrefl _)⟩
def wcal (o : Nat → Bool) : Ca := ⟨o, 0, fun _ => ⟨0, 0, 0, 0, 0, 0, 0, 0⟩, 0, fun _ => 0⟩
theorem zLt (o : Nat → Bool) : (wcal o).May ↔ ∃ i, i < 7 ∧ o i = false :=
 ⟨fun h => h.1, fun h => ⟨h, Nat.zero_le _, Nat.zero_le _, fun j hj => absurd hj (Nat.not_lt_zero j), fun j hj => absurd hj (Nat.not_lt_zero j), fun j hj => absurd hj (Nat.not_lt_zero _)⟩⟩
theorem zRr (o : Nat → Bool) (n : Int) : (wcal o).Is n ↔ dy n ∧ o (wk n).toNat = false :=
 ⟨fun h => ⟨h.1, h.2.1⟩, fun h => ⟨h.1, h.2, fun j hj => absurd hj (Nat.not_lt_zero j), fun j hj => absurd hj (Nat.not_lt_zero j)⟩⟩
def oc : Nat → Bool := fun i => decide (5 ≤ i)
def oz : Nat → Bool := fun _ => false
theorem oc_may : (wcal oc).May := (zLt oc).2 ⟨0, by decide, by decide⟩
def nm (k : Int) : ByteArray := if k = 0 then ⟨#[51, 48, 47, 51, 54, 48]⟩ else if k = 1 then ⟨#[51, 48, 101, 47, 51, 54, 48]⟩ else if k = 2 then ⟨#[51, 48, 101, 47, 51, 54, 48, 105, 115, 100, 97]⟩ else if k = 3 then ⟨#[97, 99, 116, 47, 51, 54, 48]⟩ else if k = 4 then ⟨#[97, 99, 116, 47, 51, 54, 53, 102]⟩ else if k = 5 then ⟨#[97, 99, 116, 47, 97, 99, 116]⟩ else if k = 6 then ⟨#[97, 99, 116, 47, 97, 99, 116, 105, 99, 109, 97]⟩ else ⟨#[]⟩
def kd (s : ByteArray) : Int × Int := if ((nm 0).toList == s.toList) = true then (0, 0) else if ((nm 1).toList == s.toList) = true then (1, 0) else if ((nm 2).toList == s.toList) = true then (2, 0) else if ((nm 3).toList == s.toList) = true then (3, 0) else if ((nm 4).toList == s.toList) = true then (4, 0) else if ((nm 5).toList == s.toList) = true then (5, 0) else if ((nm 6).toList == s.toList) = true then (6, 0) else (0, 10)
theorem nm_out (k : Int) (h : k < 0 ∨ 6 < k) : nm k = ⟨#[]⟩ := by
 unfold nm
 rw [if_neg (by omega), if_neg (by omega), if_neg (by omega), if_neg (by omega), if_neg (by omega), if_neg (by omega), if_neg (by omega)]
theorem of7 (k : Int) (h : 0 ≤ k ∧ k ≤ 6) : k = 0 ∨ k = 1 ∨ k = 2 ∨ k = 3 ∨ k = 4 ∨ k = 5 ∨ k = 6 := by omega
def FactsC (w : World) : Prop := Lens w ∧ Errs_ac w ∧ Errs w
theorem FactsC.below {W W' : World} (h : FactsC W) (hb : Below W.heap.size W W') : FactsC W' := ⟨h.1.below hb, h.2.1.below hb, h.2.2.below hb⟩
def zB1 : Fact := .that FactsC (fun _ _ hb h => h.below hb)
theorem Held.factsC {w W : World} {fs : List Fact} (h : Held w fs W) (hm : zB1 ∈ fs := by repeat (first | with_reducible exact List.mem_cons_self | with_reducible apply List.mem_cons_of_mem)) : FactsC W := h.all _ hm
structure TabAt (B b1 b3 b4 b5 : Nat) (W : World) : Prop where
 n0 : W.cell? ⟨B, 0, none⟩ = some (.string (nm 0))
 p0 : W.cell? ⟨B, 1, none⟩ = some (.func (.func 127) #[] #[])
 n1 : W.cell? ⟨B, 2, none⟩ = some (.string (nm 1))
 p1 : W.cell? ⟨B, 3, none⟩ = some (.func (.func 149) #[] #[.pointer (some ⟨b1, 0, none⟩)])
 n2 : W.cell? ⟨B, 4, none⟩ = some (.string (nm 2))
 p2 : W.cell? ⟨B, 5, none⟩ = some (.func (.func 130) #[] #[])
 n3 : W.cell? ⟨B, 6, none⟩ = some (.string (nm 3))
 p3 : W.cell? ⟨B, 7, none⟩ = some (.func (.func 149) #[] #[.pointer (some ⟨b3, 0, none⟩)])
 n4 : W.cell? ⟨B, 8, none⟩ = some (.string (nm 4))
 p4 : W.cell? ⟨B, 9, none⟩ = some (.func (.func 149) #[] #[.pointer (some ⟨b4, 0, none⟩)])
 n5 : W.cell? ⟨B, 10, none⟩ = some (.string (nm 5))
 p5 : W.cell? ⟨B, 11, none⟩ = some (.func (.func 149) #[] #[.pointer (some ⟨b5, 0, none⟩)])
 n6 : W.cell? ⟨B, 12, none⟩ = some (.string (nm 6))
 p6 : W.cell? ⟨B, 13, none⟩ = some (.func (.func 134) #[] #[])
 i1 : W.cell? ⟨b1, 0, none⟩ = some (.func (.func 129) #[] #[])
 i3 : W.cell? ⟨b3, 0, none⟩ = some (.func (.func 131) #[] #[])
 i4 : W.cell? ⟨b4, 0, none⟩ = some (.func (.func 132) #[] #[])
 i5 : W.cell? ⟨b5, 0, none⟩ = some (.func (.func 133) #[] #[])
theorem TabAt.below {B b1 b3 b4 b5 : Nat} {W W' : World} (h : TabAt B b1 b3 b4 b5 W) (hb : Below W.heap.size W W') : TabAt B b1 b3 b4 b5 W' :=
 ⟨keep hb (zA0 h.n0) h.n0, keep hb (zA0 h.p0) h.p0, keep hb (zA0 h.n1) h.n1, keep hb (zA0 h.p1) h.p1, keep hb (zA0 h.n2) h.n2, keep hb (zA0 h.p2) h.p2, keep hb (zA0 h.n3) h.n3, keep hb (zA0 h.p3) h.p3, keep hb (zA0 h.n4) h.n4, keep hb (zA0 h.p4) h.p4, keep hb (zA0 h.n5) h.n5, keep hb (zA0 h.p5) h.p5, keep hb (zA0 h.n6) h.n6, keep hb (zA0 h.p6) h.p6, keep hb (zA0 h.i1) h.i1, keep hb (zA0 h.i3) h.i3, keep hb (zA0 h.i4) h.i4, keep hb (zA0 h.i5) h.i5⟩
theorem zDi (f : FuncId) (w : World) : Calls Tryz.prog 128 #[.func (.func f) #[] #[]] w fun e w' => e = .returned (.func (.func 149) #[] #[.pointer (some ⟨w.heap.size, 0, none⟩)]) ∧ w' = w.alloc (.cells #[.func (.func f) #[] #[]] 159) := by
 have hmf : ∀ (fn : Fn) (first cap : Array Value) (w : World), (Instr.makeFunc fn first cap).run Tryz.prog w = .ok (.func fn first cap) w := fun _ _ _ _ => rfl
 go_enter Tryz.func128, Tryz.ntmps128
 go_wp2_with fail
 go_ret
 exact ⟨rfl, rfl⟩
theorem zAh {W : World} {B : Nat} (hB : W.heap.size = B) {cs : Array Value} {T : TypeId} {j : Nat} {v : Value} (h : cs[j]? = some v) : (W.alloc (.cells cs T)).cell? ⟨B, j, none⟩ = some v := by
 subst hB
 simp [World.cell?_alloc_new, h]
theorem nm_0 : nm 0 = ⟨#[51, 48, 47, 51, 54, 48]⟩ := by simp [nm]
theorem nm_1 : nm 1 = ⟨#[51, 48, 101, 47, 51, 54, 48]⟩ := by simp [nm]
theorem nm_2 : nm 2 = ⟨#[51, 48, 101, 47, 51, 54, 48, 105, 115, 100, 97]⟩ := by simp [nm]
theorem nm_3 : nm 3 = ⟨#[97, 99, 116, 47, 51, 54, 48]⟩ := by simp [nm]
theorem nm_4 : nm 4 = ⟨#[97, 99, 116, 47, 51, 54, 53, 102]⟩ := by simp [nm]
theorem nm_5 : nm 5 = ⟨#[97, 99, 116, 47, 97, 99, 116]⟩ := by simp [nm]
theorem nm_6 : nm 6 = ⟨#[97, 99, 116, 47, 97, 99, 116, 105, 99, 109, 97]⟩ := by simp [nm]
theorem zBx (w : World) : Calls Tryz.prog 111 #[] w fun e w' => ∃ B b1 b3 b4 b5, e = .returned (.slice (some ⟨B, 0, none⟩) 7 7) ∧ TabAt B b1 b3 b4 b5 w' ∧ Below w.heap.size w w' := by
 have H := Held.start w
 go_enter Tryz.func111, Tryz.ntmps111
 go_wp2_with fail
 (with_reducible refine (zDi 129 w).mono ?_)
 rintro e w1 ⟨rfl, rfl⟩
 replace H := H.lone (w.heap.size) (.func (.func 129) #[] #[]) 159 (by simp)
 go_wp2_with fail
 (with_reducible refine (zDi 131 _).mono ?_)
 rintro e w3 ⟨rfl, rfl⟩
 replace H := H.lone (w.heap.size + 1) (.func (.func 131) #[] #[]) 159 (by simp)
 go_wp2_with fail
 (with_reducible refine (zDi 132 _).mono ?_)
 rintro e w4 ⟨rfl, rfl⟩
 replace H := H.lone (w.heap.size + 1 + 1) (.func (.func 132) #[] #[]) 159 (by simp)
 go_wp2_with fail
 (with_reducible refine (zDi 133 _).mono ?_)
 rintro e w5 ⟨rfl, rfl⟩
 replace H := H.lone (w.heap.size + 1 + 1 + 1) (.func (.func 133) #[] #[]) 159 (by simp)
 go_wp2_with fail
 go_ret
 have M := H.alloc (.cells #[.string ⟨#[51, 48, 47, 51, 54, 48]⟩, .func (.func 127) #[] #[], .string ⟨#[51, 48, 101, 47, 51, 54, 48]⟩, .func (.func 149) #[] #[.pointer (some ⟨w.heap.size, 0, none⟩)], .string ⟨#[51, 48, 101, 47, 51, 54, 48, 105, 115, 100, 97]⟩, .func (.func 130) #[] #[], .string ⟨#[97, 99, 116, 47, 51, 54, 48]⟩, .func (.func 149) #[] #[.pointer (some ⟨w.heap.size + 1, 0, none⟩)], .string ⟨#[97, 99, 116, 47, 51, 54, 53, 102]⟩, .func (.func 149) #[] #[.pointer (some ⟨w.heap.size + 1 + 1, 0, none⟩)], .string ⟨#[97, 99, 116, 47, 97, 99, 116]⟩, .func (.func 149) #[] #[.pointer (some ⟨w.heap.size + 1 + 1 + 1, 0, none⟩)], .string ⟨#[97, 99, 116, 47, 97, 99, 116, 105, 99, 109, 97]⟩, .func (.func 134) #[] #[]] 130)
 refine ⟨w.heap.size + 1 + 1 + 1 + 1, w.heap.size, w.heap.size + 1, w.heap.size + 1 + 1, w.heap.size + 1 + 1 + 1, rfl, ⟨by rw [nm_0]; exact zAh (by simp) rfl, zAh (by simp) rfl, by rw [nm_1]; exact zAh (by simp) rfl, zAh (by simp) rfl, by rw [nm_2]; exact zAh (by simp) rfl, zAh (by simp) rfl, by rw [nm_3]; exact zAh (by simp) rfl, zAh (by simp) rfl, by rw [nm_4]; exact zAh (by simp) rfl, zAh (by simp) rfl, by rw [nm_5]; exact zAh (by simp) rfl, zAh (by simp) rfl, by rw [nm_6]; exact zAh (by simp) rfl, zAh (by simp) rfl, M.cell (w.heap.size) 0 _, M.cell (w.heap.size + 1) 0 _, M.cell (w.heap.size + 1 + 1) 0 _, M.cell (w.heap.size + 1 + 1 + 1) 0 _⟩, M.old⟩
theorem find_0 (w : World) : Calls Tryz.prog 97 #[.int .i64 0] w fun e w' => e = .returned (.tuple #[.agg #[.string (nm 0), .func (.func 127) #[] #[]], .bool true]) ∧ Below w.heap.size w w' := by
 have sf : ∀ (a : Addr) (f : FuncId) (s cs : Array Value) (W : World), (store a (.func (.func f) s cs)).run Tryz.prog W = stored Tryz.prog W a (.func (.func f) s cs) .plain := fun a f s cs W => run_store _ W a _ _ rfl
 have H := Held.start w
 go_enter Tryz.func97, Tryz.ntmps97
 go_wp2_with fail
 replace H := H.pair (w.heap.size) (.string ⟨#[]⟩) .nilFunc 130 rfl
 (with_reducible refine (zBx _).mono ?_)
 rintro e w1 ⟨B, b1, b3, b4, b5, rfl, T, hb⟩
 replace H := H.below hb
 clear hb
 have cz0 := H.cell (w.heap.size) 0 (.string ⟨#[]⟩)
 have cz1 := H.cell (w.heap.size) 1 (.nilFunc)
 have lz := zA0 cz0
 have fz0 := H.frozen (w.heap.size) 0
 have fz1 := H.frozen (w.heap.size) 1
 have cn := T.n0
 have cp := T.p0
 have lB := zA0 cn
 clear T
 have HK := H.old
 clear H
 go_wp2_with fail
 exact bodyPost_ret (v := .tuple #[.agg #[.string (nm 0), .func (.func 127) #[] #[]], .bool true]) (by simp [results, Tryz.results97, go_sem, cz0, cz1, lz]) rfl ⟨rfl, (by repeat (first | exact HK | refine Below.drew ?_ | refine Below.setCell ?_ (by simp <;> omega) _ | refine Below.alloc ?_ (by simp <;> omega) _))⟩
theorem find_1 (w : World) : Calls Tryz.prog 97 #[.int .i64 1] w fun e w' => ∃ b1, e = .returned (.tuple #[.agg #[.string (nm 1), .func (.func 149) #[] #[.pointer (some ⟨b1, 0, none⟩)]], .bool true]) ∧ w'.cell? ⟨b1, 0, none⟩ = some (.func (.func 129) #[] #[]) ∧ Below w.heap.size w w' := by
 have sf : ∀ (a : Addr) (f : FuncId) (s cs : Array Value) (W : World), (store a (.func (.func f) s cs)).run Tryz.prog W = stored Tryz.prog W a (.func (.func f) s cs) .plain := fun a f s cs W => run_store _ W a _ _ rfl
 have H := Held.start w
 go_enter Tryz.func97, Tryz.ntmps97
 go_wp2_with fail
 replace H := H.pair (w.heap.size) (.string ⟨#[]⟩) .nilFunc 130 rfl
 (with_reducible refine (zBx _).mono ?_)
 rintro e w1 ⟨B, b1, b3, b4, b5, rfl, T, hb⟩
 replace H := H.below hb
 clear hb
 have cz0 := H.cell (w.heap.size) 0 (.string ⟨#[]⟩)
 have cz1 := H.cell (w.heap.size) 1 (.nilFunc)
 have lz := zA0 cz0
 have fz0 := H.frozen (w.heap.size) 0
 have fz1 := H.frozen (w.heap.size) 1
 have cn := T.n1
 have cp := T.p1
 have lB := zA0 cn
 have ci := T.i1
 have li := zA0 ci
 have nb : b1 ≠ w.heap.size := by
  rintro rfl
  rw [ci] at cz0
  cases cz0
 clear T
 have HK := H.old
 clear H
 go_wp2_with fail
 refine bodyPost_ret (v := .tuple #[.agg #[.string (nm 1), .func (.func 149) #[] #[.pointer (some ⟨b1, 0, none⟩)]], .bool true]) (by simp [results, Tryz.results97, go_sem, cz0, cz1, lz]) rfl ⟨_, rfl, ?_, (by repeat (first | exact HK | refine Below.drew ?_ | refine Below.setCell ?_ (by simp <;> omega) _ | refine Below.alloc ?_ (by simp <;> omega) _))⟩
 rw [World.cell?_setCell_far _ _ ⟨b1, 0, none⟩ _ (Ne.symm nb), World.cell?_setCell_far _ _ ⟨b1, 0, none⟩ _ (Ne.symm nb)]
 exact ci
theorem find_2 (w : World) : Calls Tryz.prog 97 #[.int .i64 2] w fun e w' => e = .returned (.tuple #[.agg #[.string (nm 2), .func (.func 130) #[] #[]], .bool true]) ∧ Below w.heap.size w w' := by
 have sf : ∀ (a : Addr) (f : FuncId) (s cs : Array Value) (W : World), (store a (.func (.func f) s cs)).run Tryz.prog W = stored Tryz.prog W a (.func (.func f) s cs) .plain := fun a f s cs W => run_store _ W a _ _ rfl
 have H := Held.start w
 go_enter Tryz.func97, Tryz.ntmps97
 go_wp2_with fail
 replace H := H.pair (w.heap.size) (.string ⟨#[]⟩) .nilFunc 130 rfl
 (with_reducible refine (zBx _).mono ?_)
 rintro e w1 ⟨B, b1, b3, b4, b5, rfl, T, hb⟩
 replace H := H.below hb
 clear hb
 have cz0 := H.cell (w.heap.size) 0 (.string ⟨#[]⟩)
 have cz1 := H.cell (w.heap.size) 1 (.nilFunc)
 have lz := zA0 cz0
 have fz0 := H.frozen (w.heap.size) 0
 have fz1 := H.frozen (w.heap.size) 1
 have cn := T.n2
 have cp := T.p2
 have lB := zA0 cn
 clear T
 have HK := H.old
 clear H
 go_wp2_with fail
 exact bodyPost_ret (v := .tuple #[.agg #[.string (nm 2), .func (.func 130) #[] #[]], .bool true]) (by simp [results, Tryz.results97, go_sem, cz0, cz1, lz]) rfl ⟨rfl, (by repeat (first | exact HK | refine Below.drew ?_ | refine Below.setCell ?_ (by simp <;> omega) _ | refine Below.alloc ?_ (by simp <;> omega) _))⟩
theorem find_3 (w : World) : Calls Tryz.prog 97 #[.int .i64 3] w fun e w' => ∃ b3, e = .returned (.tuple #[.agg #[.string (nm 3), .func (.func 149) #[] #[.pointer (some ⟨b3, 0, none⟩)]], .bool true]) ∧ w'.cell? ⟨b3, 0, none⟩ = some (.func (.func 131) #[] #[]) ∧ Below w.heap.size w w' := by
 have sf : ∀ (a : Addr) (f : FuncId) (s cs : Array Value) (W : World), (store a (.func (.func f) s cs)).run Tryz.prog W = stored Tryz.prog W a (.func (.func f) s cs) .plain := fun a f s cs W => run_store _ W a _ _ rfl
 have H := Held.start w
 go_enter Tryz.func97, Tryz.ntmps97
 go_wp2_with fail
 replace H := H.pair (w.heap.size) (.string ⟨#[]⟩) .nilFunc 130 rfl
 (with_reducible refine (zBx _).mono ?_)
 rintro e w1 ⟨B, b1, b3, b4, b5, rfl, T, hb⟩
 replace H := H.below hb
 clear hb
 have cz0 := H.cell (w.heap.size) 0 (.string ⟨#[]⟩)
 have cz1 := H.cell (w.heap.size) 1 (.nilFunc)
 have lz := zA0 cz0
 have fz0 := H.frozen (w.heap.size) 0
 have fz1 := H.frozen (w.heap.size) 1
 have cn := T.n3
 have cp := T.p3
 have lB := zA0 cn
 have ci := T.i3
 have li := zA0 ci
 have nb : b3 ≠ w.heap.size := by
  rintro rfl
  rw [ci] at cz0
  cases cz0
 clear T
 have HK := H.old
 clear H
 go_wp2_with fail
 refine bodyPost_ret (v := .tuple #[.agg #[.string (nm 3), .func (.func 149) #[] #[.pointer (some ⟨b3, 0, none⟩)]], .bool true]) (by simp [results, Tryz.results97, go_sem, cz0, cz1, lz]) rfl ⟨_, rfl, ?_, (by repeat (first | exact HK | refine Below.drew ?_ | refine Below.setCell ?_ (by simp <;> omega) _ | refine Below.alloc ?_ (by simp <;> omega) _))⟩
 rw [World.cell?_setCell_far _ _ ⟨b3, 0, none⟩ _ (Ne.symm nb), World.cell?_setCell_far _ _ ⟨b3, 0, none⟩ _ (Ne.symm nb)]
 exact ci
theorem find_4 (w : World) : Calls Tryz.prog 97 #[.int .i64 4] w fun e w' => ∃ b4, e = .returned (.tuple #[.agg #[.string (nm 4), .func (.func 149) #[] #[.pointer (some ⟨b4, 0, none⟩)]], .bool true]) ∧ w'.cell? ⟨b4, 0, none⟩ = some (.func (.func 132) #[] #[]) ∧ Below w.heap.size w w' := by
 have sf : ∀ (a : Addr) (f : FuncId) (s cs : Array Value) (W : World), (store a (.func (.func f) s cs)).run Tryz.prog W = stored Tryz.prog W a (.func (.func f) s cs) .plain := fun a f s cs W => run_store _ W a _ _ rfl
 have H := Held.start w
 go_enter Tryz.func97, Tryz.ntmps97
 go_wp2_with fail
 replace H := H.pair (w.heap.size) (.string ⟨#[]⟩) .nilFunc 130 rfl
 (with_reducible refine (zBx _).mono ?_)
 rintro e w1 ⟨B, b1, b3, b4, b5, rfl, T, hb⟩
 replace H := H.below hb
 clear hb
 have cz0 := H.cell (w.heap.size) 0 (.string ⟨#[]⟩)
 have cz1 := H.cell (w.heap.size) 1 (.nilFunc)
 have lz := zA0 cz0
 have fz0 := H.frozen (w.heap.size) 0
 have fz1 := H.frozen (w.heap.size) 1
 have cn := T.n4
 have cp := T.p4
 have lB := zA0 cn
 have ci := T.i4
 have li := zA0 ci
 have nb : b4 ≠ w.heap.size := by
  rintro rfl
  rw [ci] at cz0
  cases cz0
 clear T
 have HK := H.old
 clear H
 go_wp2_with fail
 refine bodyPost_ret (v := .tuple #[.agg #[.string (nm 4), .func (.func 149) #[] #[.pointer (some ⟨b4, 0, none⟩)]], .bool true]) (by simp [results, Tryz.results97, go_sem, cz0, cz1, lz]) rfl ⟨_, rfl, ?_, (by repeat (first | exact HK | refine Below.drew ?_ | refine Below.setCell ?_ (by simp <;> omega) _ | refine Below.alloc ?_ (by simp <;> omega) _))⟩
 rw [World.cell?_setCell_far _ _ ⟨b4, 0, none⟩ _ (Ne.symm nb), World.cell?_setCell_far _ _ ⟨b4, 0, none⟩ _ (Ne.symm nb)]
 exact ci
theorem find_5 (w : World) : Calls Tryz.prog 97 #[.int .i64 5] w fun e w' => ∃ b5, e = .returned (.tuple #[.agg #[.string (nm 5), .func (.func 149) #[] #[.pointer (some ⟨b5, 0, none⟩)]], .bool true]) ∧ w'.cell? ⟨b5, 0, none⟩ = some (.func (.func 133) #[] #[]) ∧ Below w.heap.size w w' := by
 have sf : ∀ (a : Addr) (f : FuncId) (s cs : Array Value) (W : World), (store a (.func (.func f) s cs)).run Tryz.prog W = stored Tryz.prog W a (.func (.func f) s cs) .plain := fun a f s cs W => run_store _ W a _ _ rfl
 have H := Held.start w
 go_enter Tryz.func97, Tryz.ntmps97
 go_wp2_with fail
 replace H := H.pair (w.heap.size) (.string ⟨#[]⟩) .nilFunc 130 rfl
 (with_reducible refine (zBx _).mono ?_)
 rintro e w1 ⟨B, b1, b3, b4, b5, rfl, T, hb⟩
 replace H := H.below hb
 clear hb
 have cz0 := H.cell (w.heap.size) 0 (.string ⟨#[]⟩)
 have cz1 := H.cell (w.heap.size) 1 (.nilFunc)
 have lz := zA0 cz0
 have fz0 := H.frozen (w.heap.size) 0
 have fz1 := H.frozen (w.heap.size) 1
 have cn := T.n5
 have cp := T.p5
 have lB := zA0 cn
 have ci := T.i5
 have li := zA0 ci
 have nb : b5 ≠ w.heap.size := by
  rintro rfl
  rw [ci] at cz0
  cases cz0
 clear T
 have HK := H.old
 clear H
 go_wp2_with fail
 refine bodyPost_ret (v := .tuple #[.agg #[.string (nm 5), .func (.func 149) #[] #[.pointer (some ⟨b5, 0, none⟩)]], .bool true]) (by simp [results, Tryz.results97, go_sem, cz0, cz1, lz]) rfl ⟨_, rfl, ?_, (by repeat (first | exact HK | refine Below.drew ?_ | refine Below.setCell ?_ (by simp <;> omega) _ | refine Below.alloc ?_ (by simp <;> omega) _))⟩
 rw [World.cell?_setCell_far _ _ ⟨b5, 0, none⟩ _ (Ne.symm nb), World.cell?_setCell_far _ _ ⟨b5, 0, none⟩ _ (Ne.symm nb)]
 exact ci
theorem find_6 (w : World) : Calls Tryz.prog 97 #[.int .i64 6] w fun e w' => e = .returned (.tuple #[.agg #[.string (nm 6), .func (.func 134) #[] #[]], .bool true]) ∧ Below w.heap.size w w' := by
 have sf : ∀ (a : Addr) (f : FuncId) (s cs : Array Value) (W : World), (store a (.func (.func f) s cs)).run Tryz.prog W = stored Tryz.prog W a (.func (.func f) s cs) .plain := fun a f s cs W => run_store _ W a _ _ rfl
 have H := Held.start w
 go_enter Tryz.func97, Tryz.ntmps97
 go_wp2_with fail
 replace H := H.pair (w.heap.size) (.string ⟨#[]⟩) .nilFunc 130 rfl
 (with_reducible refine (zBx _).mono ?_)
 rintro e w1 ⟨B, b1, b3, b4, b5, rfl, T, hb⟩
 replace H := H.below hb
 clear hb
 have cz0 := H.cell (w.heap.size) 0 (.string ⟨#[]⟩)
 have cz1 := H.cell (w.heap.size) 1 (.nilFunc)
 have lz := zA0 cz0
 have fz0 := H.frozen (w.heap.size) 0
 have fz1 := H.frozen (w.heap.size) 1
 have cn := T.n6
 have cp := T.p6
 have lB := zA0 cn
 clear T
 have HK := H.old
 clear H
 go_wp2_with fail
 exact bodyPost_ret (v := .tuple #[.agg #[.string (nm 6), .func (.func 134) #[] #[]], .bool true]) (by simp [results, Tryz.results97, go_sem, cz0, cz1, lz]) rfl ⟨rfl, (by repeat (first | exact HK | refine Below.drew ?_ | refine Below.setCell ?_ (by simp <;> omega) _ | refine Below.alloc ?_ (by simp <;> omega) _))⟩
theorem zL4 (k : Int) (w : World) (hk : k < 0 ∨ 6 < k) : Calls Tryz.prog 97 #[.int .i64 k] w fun e w' => e = .returned (.tuple #[.agg #[.string ⟨#[]⟩, .nilFunc], .bool false]) ∧ Below w.heap.size w w' := by
 have sf : ∀ (a : Addr) (W : World), (store a .nilFunc).run Tryz.prog W = stored Tryz.prog W a .nilFunc .plain := fun a W => run_store _ W a _ _ rfl
 have H := Held.start w
 go_enter Tryz.func97, Tryz.ntmps97
 go_wp2_with fail
 replace H := H.pair (w.heap.size) (.string ⟨#[]⟩) .nilFunc 130 rfl
 (with_reducible refine (zBx _).mono ?_)
 rintro e w1 ⟨B, b1, b3, b4, b5, rfl, T, hb⟩
 replace H := H.below hb
 clear hb
 have cz0 := H.cell (w.heap.size) 0 (.string ⟨#[]⟩)
 have cz1 := H.cell (w.heap.size) 1 (.nilFunc)
 have lz := zA0 cz0
 have fz0 := H.frozen (w.heap.size) 0
 have fz1 := H.frozen (w.heap.size) 1
 clear T
 have HK := H.old
 clear H
 by_cases h : k < 0
 ·have t1 : decide (k < 0) = true := by simp; omega
  go_wp2_with fail
  exact bodyPost_ret (v := .tuple #[.agg #[.string ⟨#[]⟩, .nilFunc], .bool false]) (by simp [results, Tryz.results97, go_sem, cz0, cz1, lz]) rfl ⟨rfl, (by repeat (first | exact HK | refine Below.drew ?_ | refine Below.setCell ?_ (by simp <;> omega) _ | refine Below.alloc ?_ (by simp <;> omega) _))⟩
 ·have t1 : decide (k < 0) = false := by simp; omega
  have t2 : decide (k ≥ 7) = true := by simp; omega
  go_wp2_with fail
  exact bodyPost_ret (v := .tuple #[.agg #[.string ⟨#[]⟩, .nilFunc], .bool false]) (by simp [results, Tryz.results97, go_sem, cz0, cz1, lz]) rfl ⟨rfl, (by repeat (first | exact HK | refine Below.drew ?_ | refine Below.setCell ?_ (by simp <;> omega) _ | refine Below.alloc ?_ (by simp <;> omega) _))⟩
theorem cname_0 (w : World) : Calls Tryz.prog 120 #[.int .i64 0] w fun e w' => e = .returned (.string (nm 0)) ∧ Below w.heap.size w w' := by
 have sf : ∀ (a : Addr) (f : FuncId) (s cs : Array Value) (W : World), (store a (.func (.func f) s cs)).run Tryz.prog W = stored Tryz.prog W a (.func (.func f) s cs) .plain := fun a f s cs W => run_store _ W a _ _ rfl
 have H := Held.start w
 go_enter Tryz.func120, Tryz.ntmps120
 go_wp2_with fail
 (with_reducible refine (find_0 _).mono ?_)
 rintro e w1 ⟨rfl, hb⟩
 replace H := H.below hb
 clear hb
 go_wp2_with fail
 go_ret
 exact ⟨rfl, (H.alloc _).old⟩
theorem cname_1 (w : World) : Calls Tryz.prog 120 #[.int .i64 1] w fun e w' => e = .returned (.string (nm 1)) ∧ Below w.heap.size w w' := by
 have sf : ∀ (a : Addr) (f : FuncId) (s cs : Array Value) (W : World), (store a (.func (.func f) s cs)).run Tryz.prog W = stored Tryz.prog W a (.func (.func f) s cs) .plain := fun a f s cs W => run_store _ W a _ _ rfl
 have H := Held.start w
 go_enter Tryz.func120, Tryz.ntmps120
 go_wp2_with fail
 (with_reducible refine (find_1 _).mono ?_)
 rintro e w1 ⟨b, rfl, -, hb⟩
 replace H := H.below hb
 clear hb
 go_wp2_with fail
 go_ret
 exact ⟨rfl, (H.alloc _).old⟩
theorem cname_2 (w : World) : Calls Tryz.prog 120 #[.int .i64 2] w fun e w' => e = .returned (.string (nm 2)) ∧ Below w.heap.size w w' := by
 have sf : ∀ (a : Addr) (f : FuncId) (s cs : Array Value) (W : World), (store a (.func (.func f) s cs)).run Tryz.prog W = stored Tryz.prog W a (.func (.func f) s cs) .plain := fun a f s cs W => run_store _ W a _ _ rfl
 have H := Held.start w
 go_enter Tryz.func120, Tryz.ntmps120
 go_wp2_with fail
 (with_reducible refine (find_2 _).mono ?_)
 rintro e w1 ⟨rfl, hb⟩
 replace H := H.below hb
 clear hb
 go_wp2_with fail
 go_ret
 exact ⟨rfl, (H.alloc _).old⟩
theorem cname_3 (w : World) : Calls Tryz.prog 120 #[.int .i64 3] w fun e w' => e = .returned (.string (nm 3)) ∧ Below w.heap.size w w' := by
 have sf : ∀ (a : Addr) (f : FuncId) (s cs : Array Value) (W : World), (store a (.func (.func f) s cs)).run Tryz.prog W = stored Tryz.prog W a (.func (.func f) s cs) .plain := fun a f s cs W => run_store _ W a _ _ rfl
 have H := Held.start w
 go_enter Tryz.func120, Tryz.ntmps120
 go_wp2_with fail
 (with_reducible refine (find_3 _).mono ?_)
 rintro e w1 ⟨b, rfl, -, hb⟩
 replace H := H.below hb
 clear hb
 go_wp2_with fail
 go_ret
 exact ⟨rfl, (H.alloc _).old⟩
theorem cname_4 (w : World) : Calls Tryz.prog 120 #[.int .i64 4] w fun e w' => e = .returned (.string (nm 4)) ∧ Below w.heap.size w w' := by
 have sf : ∀ (a : Addr) (f : FuncId) (s cs : Array Value) (W : World), (store a (.func (.func f) s cs)).run Tryz.prog W = stored Tryz.prog W a (.func (.func f) s cs) .plain := fun a f s cs W => run_store _ W a _ _ rfl
 have H := Held.start w
 go_enter Tryz.func120, Tryz.ntmps120
 go_wp2_with fail
 (with_reducible refine (find_4 _).mono ?_)
 rintro e w1 ⟨b, rfl, -, hb⟩
 replace H := H.below hb
 clear hb
 go_wp2_with fail
 go_ret
 exact ⟨rfl, (H.alloc _).old⟩
theorem cname_5 (w : World) : Calls Tryz.prog 120 #[.int .i64 5] w fun e w' => e = .returned (.string (nm 5)) ∧ Below w.heap.size w w' := by
 have sf : ∀ (a : Addr) (f : FuncId) (s cs : Array Value) (W : World), (store a (.func (.func f) s cs)).run Tryz.prog W = stored Tryz.prog W a (.func (.func f) s cs) .plain := fun a f s cs W => run_store _ W a _ _ rfl
 have H := Held.start w
 go_enter Tryz.func120, Tryz.ntmps120
 go_wp2_with fail
 (with_reducible refine (find_5 _).mono ?_)
 rintro e w1 ⟨b, rfl, -, hb⟩
 replace H := H.below hb
 clear hb
 go_wp2_with fail
 go_ret
 exact ⟨rfl, (H.alloc _).old⟩
theorem cname_6 (w : World) : Calls Tryz.prog 120 #[.int .i64 6] w fun e w' => e = .returned (.string (nm 6)) ∧ Below w.heap.size w w' := by
 have sf : ∀ (a : Addr) (f : FuncId) (s cs : Array Value) (W : World), (store a (.func (.func f) s cs)).run Tryz.prog W = stored Tryz.prog W a (.func (.func f) s cs) .plain := fun a f s cs W => run_store _ W a _ _ rfl
 have H := Held.start w
 go_enter Tryz.func120, Tryz.ntmps120
 go_wp2_with fail
 (with_reducible refine (find_6 _).mono ?_)
 rintro e w1 ⟨rfl, hb⟩
 replace H := H.below hb
 clear hb
 go_wp2_with fail
 go_ret
 exact ⟨rfl, (H.alloc _).old⟩
theorem zOi (k : Int) (w : World) (hk : k < 0 ∨ 6 < k) : Calls Tryz.prog 120 #[.int .i64 k] w fun e w' => e = .returned (.string (nm k)) ∧ Below w.heap.size w w' := by
 rw [nm_out k hk]
 have sf : ∀ (a : Addr) (W : World), (store a .nilFunc).run Tryz.prog W = stored Tryz.prog W a .nilFunc .plain := fun a W => run_store _ W a _ _ rfl
 have H := Held.start w
 go_enter Tryz.func120, Tryz.ntmps120
 go_wp2_with fail
 (with_reducible refine (zL4 k _ hk).mono ?_)
 rintro e w1 ⟨rfl, hb⟩
 replace H := H.below hb
 clear hb
 go_wp2_with fail
 go_ret
 exact ⟨rfl, (H.alloc _).old⟩
theorem zOh (k : Int) (w : World) : Calls Tryz.prog 120 #[.int .i64 k] w fun e w' => e = .returned (.string (nm k)) ∧ Below w.heap.size w w' := by
 by_cases h : k < 0 ∨ 6 < k
 ·exact zOi k w h
 ·rcases of7 k (by omega) with rfl | rfl | rfl | rfl | rfl | rfl | rfl
  ·exact cname_0 w
  ·exact cname_1 w
  ·exact cname_2 w
  ·exact cname_3 w
  ·exact cname_4 w
  ·exact cname_5 w
  ·exact cname_6 w
theorem FactsC.lens {W : World} (h : FactsC W) : Lens W := h.1
theorem FactsC.facts_ac {W : World} (h : FactsC W) : Facts_ac W := ⟨h.1, h.2.1⟩
theorem FactsC.facts {W : World} (h : FactsC W) : Facts W := ⟨h.1, h.2.2⟩
theorem tell_0 (a b : Int) (t : Bool) (en f : Int) (ao : Option Addr) (n cap : Nat) (X : Nat → Int) (p q c : Int) (w : World) (hF : FactsC w) (h : zBm (uX t) a b p q c) : Calls Tryz.prog 127 #[.int .i64 a, .int .i64 b, .agg #[.bool t, .int .i64 en, .int .i64 f, .slice ao n cap]] w fun e w' => e = .returned (.tuple #[.agg #[.int .i64 p, .int .i64 q], .int .i64 c]) ∧ Below w.heap.size w w' := by
 have C := Lib.hid (fun (v : World) (hv : Lens v) => zKs.us a b p q c t v hv h)
 have H := (Held.start w).add (f := zB1) hF
 clear hF h
 go_enter Tryz.func127, Tryz.ntmps127
 go_wp2_with fail
 replace H := H.quad (w.heap.size) (.bool t) (.int .i64 en) (.int .i64 f) (.slice ao n cap) 33 rfl
 replace H := H.pair (w.heap.size + 1) (.int .i64 0) (.int .i64 0) 48 (by simp)
 (with_reducible refine (C.out _ (H.factsC).lens).mono ?_)
 rintro e w1 ⟨rfl, hb⟩
 replace H := H.below hb
 clear hb
 have cz0 := H.cell (w.heap.size + 1) 0 (.int .i64 0)
 have cz1 := H.cell (w.heap.size + 1) 1 (.int .i64 0)
 have lz := zA0 cz0
 have fz0 := H.frozen (w.heap.size + 1) 0
 have fz1 := H.frozen (w.heap.size + 1) 1
 have HK := H.old
 clear H
 go_wp2_with fail
 exact bodyPost_ret (v := .tuple #[.agg #[.int .i64 p, .int .i64 q], .int .i64 c]) (by simp [results, Tryz.results127, go_sem, cz0, cz1, lz]) rfl ⟨rfl, by repeat (first | exact HK | refine Below.drew ?_ | refine Below.setCell ?_ (by simp <;> omega) _ | refine Below.alloc ?_ (by simp <;> omega) _)⟩
theorem tell_1 (B : Nat) (a b : Int) (t : Bool) (en f : Int) (ao : Option Addr) (n cap : Nat) (X : Nat → Int) (p q c : Int) (w : World) (hF : FactsC w) (hB : w.cell? ⟨B, 0, none⟩ = some (.func (.func 129) #[] #[])) (h : zBm eX a b p q c) : Calls Tryz.prog 149 #[.int .i64 a, .int .i64 b, .agg #[.bool t, .int .i64 en, .int .i64 f, .slice ao n cap], .pointer (some ⟨B, 0, none⟩)] w fun e w' => e = .returned (.tuple #[.agg #[.int .i64 p, .int .i64 q], .int .i64 c]) ∧ Below w.heap.size w w' := by
 have C := Lib.hid (fun (v : World) (hv : Lens v) => zKs.e a b p q c v hv h)
 have H := ((Held.start w).add (f := zB1) hF).add (f := .cell B 0 (.func (.func 129) #[] #[])) hB
 clear hF h
 have lB := zA0 hB
 go_enter Tryz.func149, Tryz.ntmps149
 go_wp2_with fail
 replace H := H.quad (w.heap.size) (.bool t) (.int .i64 en) (.int .i64 f) (.slice ao n cap) 33 rfl
 replace H := H.pair (w.heap.size + 1) (.int .i64 0) (.int .i64 0) 48 (by simp)
 clear hB lB
 (with_reducible refine (C.out _ (H.factsC).lens).mono ?_)
 rintro e w1 ⟨rfl, hb⟩
 replace H := H.below hb
 clear hb
 have cz0 := H.cell (w.heap.size + 1) 0 (.int .i64 0)
 have cz1 := H.cell (w.heap.size + 1) 1 (.int .i64 0)
 have lz := zA0 cz0
 have fz0 := H.frozen (w.heap.size + 1) 0
 have fz1 := H.frozen (w.heap.size + 1) 1
 have HK := H.old
 clear H
 go_wp2_with fail
 exact bodyPost_ret (v := .tuple #[.agg #[.int .i64 p, .int .i64 q], .int .i64 c]) (by simp [results, Tryz.results149, go_sem, cz0, cz1, lz]) rfl ⟨rfl, by repeat (first | exact HK | refine Below.drew ?_ | refine Below.setCell ?_ (by simp <;> omega) _ | refine Below.alloc ?_ (by simp <;> omega) _)⟩
theorem tell_2 (a b : Int) (t : Bool) (en f : Int) (ao : Option Addr) (n cap : Nat) (X : Nat → Int) (p q c : Int) (w : World) (hF : FactsC w) (h : zBm (iX (decide (b = en))) a b p q c) : Calls Tryz.prog 130 #[.int .i64 a, .int .i64 b, .agg #[.bool t, .int .i64 en, .int .i64 f, .slice ao n cap]] w fun e w' => e = .returned (.tuple #[.agg #[.int .i64 p, .int .i64 q], .int .i64 c]) ∧ Below w.heap.size w w' := by
 have C := Lib.hid (fun (v : World) (hv : Lens v) => zKs.isda a b en p q c v hv h)
 have H := (Held.start w).add (f := zB1) hF
 clear hF h
 go_enter Tryz.func130, Tryz.ntmps130
 go_wp2_with fail
 replace H := H.quad (w.heap.size) (.bool t) (.int .i64 en) (.int .i64 f) (.slice ao n cap) 33 rfl
 replace H := H.pair (w.heap.size + 1) (.int .i64 0) (.int .i64 0) 48 (by simp)
 (with_reducible refine (C.out _ (H.factsC).lens).mono ?_)
 rintro e w1 ⟨rfl, hb⟩
 replace H := H.below hb
 clear hb
 have cz0 := H.cell (w.heap.size + 1) 0 (.int .i64 0)
 have cz1 := H.cell (w.heap.size + 1) 1 (.int .i64 0)
 have lz := zA0 cz0
 have fz0 := H.frozen (w.heap.size + 1) 0
 have fz1 := H.frozen (w.heap.size + 1) 1
 have HK := H.old
 clear H
 go_wp2_with fail
 exact bodyPost_ret (v := .tuple #[.agg #[.int .i64 p, .int .i64 q], .int .i64 c]) (by simp [results, Tryz.results130, go_sem, cz0, cz1, lz]) rfl ⟨rfl, by repeat (first | exact HK | refine Below.drew ?_ | refine Below.setCell ?_ (by simp <;> omega) _ | refine Below.alloc ?_ (by simp <;> omega) _)⟩
theorem tell_3 (B : Nat) (a b : Int) (t : Bool) (en f : Int) (ao : Option Addr) (n cap : Nat) (X : Nat → Int) (p q c : Int) (w : World) (hF : FactsC w) (hB : w.cell? ⟨B, 0, none⟩ = some (.func (.func 131) #[] #[])) (h : AcIs aX 360 a b p q c) : Calls Tryz.prog 149 #[.int .i64 a, .int .i64 b, .agg #[.bool t, .int .i64 en, .int .i64 f, .slice ao n cap], .pointer (some ⟨B, 0, none⟩)] w fun e w' => e = .returned (.tuple #[.agg #[.int .i64 p, .int .i64 q], .int .i64 c]) ∧ Below w.heap.size w w' := by
 have C := Lib.hid (fun (v : World) (hv : Facts_ac v) => zKr.by360 a b p q c v hv h)
 have H := ((Held.start w).add (f := zB1) hF).add (f := .cell B 0 (.func (.func 131) #[] #[])) hB
 clear hF h
 have lB := zA0 hB
 go_enter Tryz.func149, Tryz.ntmps149
 go_wp2_with fail
 replace H := H.quad (w.heap.size) (.bool t) (.int .i64 en) (.int .i64 f) (.slice ao n cap) 33 rfl
 replace H := H.pair (w.heap.size + 1) (.int .i64 0) (.int .i64 0) 48 (by simp)
 clear hB lB
 (with_reducible refine (C.out _ (H.factsC).facts_ac).mono ?_)
 rintro e w1 ⟨rfl, hb⟩
 replace H := H.below hb
 clear hb
 have cz0 := H.cell (w.heap.size + 1) 0 (.int .i64 0)
 have cz1 := H.cell (w.heap.size + 1) 1 (.int .i64 0)
 have lz := zA0 cz0
 have fz0 := H.frozen (w.heap.size + 1) 0
 have fz1 := H.frozen (w.heap.size + 1) 1
 have HK := H.old
 clear H
 go_wp2_with fail
 exact bodyPost_ret (v := .tuple #[.agg #[.int .i64 p, .int .i64 q], .int .i64 c]) (by simp [results, Tryz.results149, go_sem, cz0, cz1, lz]) rfl ⟨rfl, by repeat (first | exact HK | refine Below.drew ?_ | refine Below.setCell ?_ (by simp <;> omega) _ | refine Below.alloc ?_ (by simp <;> omega) _)⟩
theorem tell_4 (B : Nat) (a b : Int) (t : Bool) (en f : Int) (ao : Option Addr) (n cap : Nat) (X : Nat → Int) (p q c : Int) (w : World) (hF : FactsC w) (hB : w.cell? ⟨B, 0, none⟩ = some (.func (.func 132) #[] #[])) (h : AcIs aX 365 a b p q c) : Calls Tryz.prog 149 #[.int .i64 a, .int .i64 b, .agg #[.bool t, .int .i64 en, .int .i64 f, .slice ao n cap], .pointer (some ⟨B, 0, none⟩)] w fun e w' => e = .returned (.tuple #[.agg #[.int .i64 p, .int .i64 q], .int .i64 c]) ∧ Below w.heap.size w w' := by
 have C := Lib.hid (fun (v : World) (hv : Facts_ac v) => zKr.by365 a b p q c v hv h)
 have H := ((Held.start w).add (f := zB1) hF).add (f := .cell B 0 (.func (.func 132) #[] #[])) hB
 clear hF h
 have lB := zA0 hB
 go_enter Tryz.func149, Tryz.ntmps149
 go_wp2_with fail
 replace H := H.quad (w.heap.size) (.bool t) (.int .i64 en) (.int .i64 f) (.slice ao n cap) 33 rfl
 replace H := H.pair (w.heap.size + 1) (.int .i64 0) (.int .i64 0) 48 (by simp)
 clear hB lB
 (with_reducible refine (C.out _ (H.factsC).facts_ac).mono ?_)
 rintro e w1 ⟨rfl, hb⟩
 replace H := H.below hb
 clear hb
 have cz0 := H.cell (w.heap.size + 1) 0 (.int .i64 0)
 have cz1 := H.cell (w.heap.size + 1) 1 (.int .i64 0)
 have lz := zA0 cz0
 have fz0 := H.frozen (w.heap.size + 1) 0
 have fz1 := H.frozen (w.heap.size + 1) 1
 have HK := H.old
 clear H
 go_wp2_with fail
 exact bodyPost_ret (v := .tuple #[.agg #[.int .i64 p, .int .i64 q], .int .i64 c]) (by simp [results, Tryz.results149, go_sem, cz0, cz1, lz]) rfl ⟨rfl, by repeat (first | exact HK | refine Below.drew ?_ | refine Below.setCell ?_ (by simp <;> omega) _ | refine Below.alloc ?_ (by simp <;> omega) _)⟩
theorem tell_5 (B : Nat) (a b : Int) (t : Bool) (en f : Int) (ao : Option Addr) (n cap : Nat) (X : Nat → Int) (p q c : Int) (w : World) (hF : FactsC w) (hB : w.cell? ⟨B, 0, none⟩ = some (.func (.func 133) #[] #[])) (h : AcIs yX 133590 a b p q c) : Calls Tryz.prog 149 #[.int .i64 a, .int .i64 b, .agg #[.bool t, .int .i64 en, .int .i64 f, .slice ao n cap], .pointer (some ⟨B, 0, none⟩)] w fun e w' => e = .returned (.tuple #[.agg #[.int .i64 p, .int .i64 q], .int .i64 c]) ∧ Below w.heap.size w w' := by
 have C := Lib.hid (fun (v : World) (hv : Facts_ac v) => zKr.byyears a b p q c v hv h)
 have H := ((Held.start w).add (f := zB1) hF).add (f := .cell B 0 (.func (.func 133) #[] #[])) hB
 clear hF h
 have lB := zA0 hB
 go_enter Tryz.func149, Tryz.ntmps149
 go_wp2_with fail
 replace H := H.quad (w.heap.size) (.bool t) (.int .i64 en) (.int .i64 f) (.slice ao n cap) 33 rfl
 replace H := H.pair (w.heap.size + 1) (.int .i64 0) (.int .i64 0) 48 (by simp)
 clear hB lB
 (with_reducible refine (C.out _ (H.factsC).facts_ac).mono ?_)
 rintro e w1 ⟨rfl, hb⟩
 replace H := H.below hb
 clear hb
 have cz0 := H.cell (w.heap.size + 1) 0 (.int .i64 0)
 have cz1 := H.cell (w.heap.size + 1) 1 (.int .i64 0)
 have lz := zA0 cz0
 have fz0 := H.frozen (w.heap.size + 1) 0
 have fz1 := H.frozen (w.heap.size + 1) 1
 have HK := H.old
 clear H
 go_wp2_with fail
 exact bodyPost_ret (v := .tuple #[.agg #[.int .i64 p, .int .i64 q], .int .i64 c]) (by simp [results, Tryz.results149, go_sem, cz0, cz1, lz]) rfl ⟨rfl, by repeat (first | exact HK | refine Below.drew ?_ | refine Below.setCell ?_ (by simp <;> omega) _ | refine Below.alloc ?_ (by simp <;> omega) _)⟩
theorem tell_6 (a b : Int) (t : Bool) (en f : Int) (ao : Option Addr) (n cap : Nat) (X : Nat → Int) (p q c : Int) (w : World) (hF : FactsC w) (hn : n ≤ 100) (hR : RowAt w ao X n cap) (h : IcIs X n f a b p q c) : Calls Tryz.prog 134 #[.int .i64 a, .int .i64 b, .agg #[.bool t, .int .i64 en, .int .i64 f, .slice ao n cap]] w fun e w' => e = .returned (.tuple #[.agg #[.int .i64 p, .int .i64 q], .int .i64 c]) ∧ Below w.heap.size w w' := by
 have C := Lib.hid (fun v hv hr => ipart_is a b ao n cap X f p q c v hv hn hr h)
 have H := ((Held.start w).add (f := zB1) hF).add (f := rowF ao X n cap) hR
 clear hF hR h
 go_enter Tryz.func134, Tryz.ntmps134
 go_wp2_with fail
 replace H := H.quad (w.heap.size) (.bool t) (.int .i64 en) (.int .i64 f) (.slice ao n cap) 33 rfl
 replace H := H.pair (w.heap.size + 1) (.int .i64 0) (.int .i64 0) 48 (by simp)
 (with_reducible refine (C.out _ (H.factsC).facts (H.row (ao := ao) (X := X) (n := n) (cap := cap))).mono ?_)
 rintro e w1 ⟨rfl, hb⟩
 replace H := H.below hb
 clear hb
 have cz0 := H.cell (w.heap.size + 1) 0 (.int .i64 0)
 have cz1 := H.cell (w.heap.size + 1) 1 (.int .i64 0)
 have lz := zA0 cz0
 have fz0 := H.frozen (w.heap.size + 1) 0
 have fz1 := H.frozen (w.heap.size + 1) 1
 have HK := H.old
 clear H
 go_wp2_with fail
 exact bodyPost_ret (v := .tuple #[.agg #[.int .i64 p, .int .i64 q], .int .i64 c]) (by simp [results, Tryz.results134, go_sem, cz0, cz1, lz]) rfl ⟨rfl, by repeat (first | exact HK | refine Below.drew ?_ | refine Below.setCell ?_ (by simp <;> omega) _ | refine Below.alloc ?_ (by simp <;> omega) _)⟩
theorem cpart_0 (a b : Int) (t : Bool) (en f : Int) (ao : Option Addr) (n cap : Nat) (X : Nat → Int) (p q c : Int) (w : World) (hF : FactsC w) (h : zBm (uX t) a b p q c) : Calls Tryz.prog 89 #[.int .i64 0, .int .i64 a, .int .i64 b, .agg #[.bool t, .int .i64 en, .int .i64 f, .slice ao n cap]] w fun e w' => e = .returned (.tuple #[.agg #[.int .i64 p, .int .i64 q], .int .i64 c]) ∧ Below w.heap.size w w' := by
 have sf : ∀ (a : Addr) (f : FuncId) (s cs : Array Value) (W : World), (store a (.func (.func f) s cs)).run Tryz.prog W = stored Tryz.prog W a (.func (.func f) s cs) .plain := fun a f s cs W => run_store _ W a _ _ rfl
 have H := (Held.start w).add (f := zB1) hF
 clear hF
 go_enter Tryz.func89, Tryz.ntmps89
 go_wp2_with fail
 replace H := H.quad (w.heap.size) (.bool t) (.int .i64 en) (.int .i64 f) (.slice ao n cap) 33 rfl
 replace H := H.pair (w.heap.size + 1) (.int .i64 0) (.int .i64 0) 48 (by simp)
 (with_reducible refine (find_0 _).mono ?_)
 rintro e w1 ⟨rfl, hb⟩
 replace H := H.below hb
 clear hb
 obtain ⟨cs0, cs1, cs2, cs3⟩ := H.cells4 (w.heap.size)
 have ls := zA0 cs0
 go_wp2_with fail
 clear cs0 cs1 cs2 cs3 ls
 replace H := H.alloc (.cells #[.string (nm 0), .func (.func 127) #[] #[]] 130)
 (with_reducible refine (tell_0 a b t en f ao n cap X p q c _ (H.factsC) h).mono ?_)
 rintro e w2 ⟨rfl, hb⟩
 replace H := H.below hb
 clear hb
 have cz0 := H.cell (w.heap.size + 1) 0 (.int .i64 0)
 have cz1 := H.cell (w.heap.size + 1) 1 (.int .i64 0)
 have lz := zA0 cz0
 have fz0 := H.frozen (w.heap.size + 1) 0
 have fz1 := H.frozen (w.heap.size + 1) 1
 have HK := H.old
 clear H
 go_wp2_with fail
 exact bodyPost_ret (v := .tuple #[.agg #[.int .i64 p, .int .i64 q], .int .i64 c]) (by simp [results, Tryz.results89, go_sem, cz0, cz1, lz]) rfl ⟨rfl, by repeat (first | exact HK | refine Below.drew ?_ | refine Below.setCell ?_ (by simp <;> omega) _ | refine Below.alloc ?_ (by simp <;> omega) _)⟩
theorem cpart_1 (a b : Int) (t : Bool) (en f : Int) (ao : Option Addr) (n cap : Nat) (X : Nat → Int) (p q c : Int) (w : World) (hF : FactsC w) (h : zBm eX a b p q c) : Calls Tryz.prog 89 #[.int .i64 1, .int .i64 a, .int .i64 b, .agg #[.bool t, .int .i64 en, .int .i64 f, .slice ao n cap]] w fun e w' => e = .returned (.tuple #[.agg #[.int .i64 p, .int .i64 q], .int .i64 c]) ∧ Below w.heap.size w w' := by
 have sf : ∀ (a : Addr) (f : FuncId) (s cs : Array Value) (W : World), (store a (.func (.func f) s cs)).run Tryz.prog W = stored Tryz.prog W a (.func (.func f) s cs) .plain := fun a f s cs W => run_store _ W a _ _ rfl
 have H := (Held.start w).add (f := zB1) hF
 clear hF
 go_enter Tryz.func89, Tryz.ntmps89
 go_wp2_with fail
 replace H := H.quad (w.heap.size) (.bool t) (.int .i64 en) (.int .i64 f) (.slice ao n cap) 33 rfl
 replace H := H.pair (w.heap.size + 1) (.int .i64 0) (.int .i64 0) 48 (by simp)
 (with_reducible refine (find_1 _).mono ?_)
 rintro e w1 ⟨B, rfl, hc, hb⟩
 replace H := (H.below hb).add (f := .cell B 0 (.func (.func 129) #[] #[])) hc
 clear hc hb
 obtain ⟨cs0, cs1, cs2, cs3⟩ := H.cells4 (w.heap.size)
 have ls := zA0 cs0
 go_wp2_with fail
 clear cs0 cs1 cs2 cs3 ls
 replace H := H.alloc (.cells #[.string (nm 1), .func (.func 149) #[] #[.pointer (some ⟨B, 0, none⟩)]] 130)
 (with_reducible refine (tell_1 B a b t en f ao n cap X p q c _ (H.factsC) (H.cell B 0 _) h).mono ?_)
 rintro e w2 ⟨rfl, hb⟩
 replace H := H.below hb
 clear hb
 have cz0 := H.cell (w.heap.size + 1) 0 (.int .i64 0)
 have cz1 := H.cell (w.heap.size + 1) 1 (.int .i64 0)
 have lz := zA0 cz0
 have fz0 := H.frozen (w.heap.size + 1) 0
 have fz1 := H.frozen (w.heap.size + 1) 1
 have HK := H.old
 clear H
 go_wp2_with fail
 exact bodyPost_ret (v := .tuple #[.agg #[.int .i64 p, .int .i64 q], .int .i64 c]) (by simp [results, Tryz.results89, go_sem, cz0, cz1, lz]) rfl ⟨rfl, by repeat (first | exact HK | refine Below.drew ?_ | refine Below.setCell ?_ (by simp <;> omega) _ | refine Below.alloc ?_ (by simp <;> omega) _)⟩
theorem cpart_2 (a b : Int) (t : Bool) (en f : Int) (ao : Option Addr) (n cap : Nat) (X : Nat → Int) (p q c : Int) (w : World) (hF : FactsC w) (h : zBm (iX (decide (b = en))) a b p q c) : Calls Tryz.prog 89 #[.int .i64 2, .int .i64 a, .int .i64 b, .agg #[.bool t, .int .i64 en, .int .i64 f, .slice ao n cap]] w fun e w' => e = .returned (.tuple #[.agg #[.int .i64 p, .int .i64 q], .int .i64 c]) ∧ Below w.heap.size w w' := by
 have sf : ∀ (a : Addr) (f : FuncId) (s cs : Array Value) (W : World), (store a (.func (.func f) s cs)).run Tryz.prog W = stored Tryz.prog W a (.func (.func f) s cs) .plain := fun a f s cs W => run_store _ W a _ _ rfl
 have H := (Held.start w).add (f := zB1) hF
 clear hF
 go_enter Tryz.func89, Tryz.ntmps89
 go_wp2_with fail
 replace H := H.quad (w.heap.size) (.bool t) (.int .i64 en) (.int .i64 f) (.slice ao n cap) 33 rfl
 replace H := H.pair (w.heap.size + 1) (.int .i64 0) (.int .i64 0) 48 (by simp)
 (with_reducible refine (find_2 _).mono ?_)
 rintro e w1 ⟨rfl, hb⟩
 replace H := H.below hb
 clear hb
 obtain ⟨cs0, cs1, cs2, cs3⟩ := H.cells4 (w.heap.size)
 have ls := zA0 cs0
 go_wp2_with fail
 clear cs0 cs1 cs2 cs3 ls
 replace H := H.alloc (.cells #[.string (nm 2), .func (.func 130) #[] #[]] 130)
 (with_reducible refine (tell_2 a b t en f ao n cap X p q c _ (H.factsC) h).mono ?_)
 rintro e w2 ⟨rfl, hb⟩
 replace H := H.below hb
 clear hb
 have cz0 := H.cell (w.heap.size + 1) 0 (.int .i64 0)
 have cz1 := H.cell (w.heap.size + 1) 1 (.int .i64 0)
 have lz := zA0 cz0
 have fz0 := H.frozen (w.heap.size + 1) 0
 have fz1 := H.frozen (w.heap.size + 1) 1
 have HK := H.old
 clear H
 go_wp2_with fail
 exact bodyPost_ret (v := .tuple #[.agg #[.int .i64 p, .int .i64 q], .int .i64 c]) (by simp [results, Tryz.results89, go_sem, cz0, cz1, lz]) rfl ⟨rfl, by repeat (first | exact HK | refine Below.drew ?_ | refine Below.setCell ?_ (by simp <;> omega) _ | refine Below.alloc ?_ (by simp <;> omega) _)⟩
theorem cpart_3 (a b : Int) (t : Bool) (en f : Int) (ao : Option Addr) (n cap : Nat) (X : Nat → Int) (p q c : Int) (w : World) (hF : FactsC w) (h : AcIs aX 360 a b p q c) : Calls Tryz.prog 89 #[.int .i64 3, .int .i64 a, .int .i64 b, .agg #[.bool t, .int .i64 en, .int .i64 f, .slice ao n cap]] w fun e w' => e = .returned (.tuple #[.agg #[.int .i64 p, .int .i64 q], .int .i64 c]) ∧ Below w.heap.size w w' := by
 have sf : ∀ (a : Addr) (f : FuncId) (s cs : Array Value) (W : World), (store a (.func (.func f) s cs)).run Tryz.prog W = stored Tryz.prog W a (.func (.func f) s cs) .plain := fun a f s cs W => run_store _ W a _ _ rfl
 have H := (Held.start w).add (f := zB1) hF
 clear hF
 go_enter Tryz.func89, Tryz.ntmps89
 go_wp2_with fail
 replace H := H.quad (w.heap.size) (.bool t) (.int .i64 en) (.int .i64 f) (.slice ao n cap) 33 rfl
 replace H := H.pair (w.heap.size + 1) (.int .i64 0) (.int .i64 0) 48 (by simp)
 (with_reducible refine (find_3 _).mono ?_)
 rintro e w1 ⟨B, rfl, hc, hb⟩
 replace H := (H.below hb).add (f := .cell B 0 (.func (.func 131) #[] #[])) hc
 clear hc hb
 obtain ⟨cs0, cs1, cs2, cs3⟩ := H.cells4 (w.heap.size)
 have ls := zA0 cs0
 go_wp2_with fail
 clear cs0 cs1 cs2 cs3 ls
 replace H := H.alloc (.cells #[.string (nm 3), .func (.func 149) #[] #[.pointer (some ⟨B, 0, none⟩)]] 130)
 (with_reducible refine (tell_3 B a b t en f ao n cap X p q c _ (H.factsC) (H.cell B 0 _) h).mono ?_)
 rintro e w2 ⟨rfl, hb⟩
 replace H := H.below hb
 clear hb
 have cz0 := H.cell (w.heap.size + 1) 0 (.int .i64 0)
 have cz1 := H.cell (w.heap.size + 1) 1 (.int .i64 0)
 have lz := zA0 cz0
 have fz0 := H.frozen (w.heap.size + 1) 0
 have fz1 := H.frozen (w.heap.size + 1) 1
 have HK := H.old
 clear H
 go_wp2_with fail
 exact bodyPost_ret (v := .tuple #[.agg #[.int .i64 p, .int .i64 q], .int .i64 c]) (by simp [results, Tryz.results89, go_sem, cz0, cz1, lz]) rfl ⟨rfl, by repeat (first | exact HK | refine Below.drew ?_ | refine Below.setCell ?_ (by simp <;> omega) _ | refine Below.alloc ?_ (by simp <;> omega) _)⟩
theorem cpart_4 (a b : Int) (t : Bool) (en f : Int) (ao : Option Addr) (n cap : Nat) (X : Nat → Int) (p q c : Int) (w : World) (hF : FactsC w) (h : AcIs aX 365 a b p q c) : Calls Tryz.prog 89 #[.int .i64 4, .int .i64 a, .int .i64 b, .agg #[.bool t, .int .i64 en, .int .i64 f, .slice ao n cap]] w fun e w' => e = .returned (.tuple #[.agg #[.int .i64 p, .int .i64 q], .int .i64 c]) ∧ Below w.heap.size w w' := by
 have sf : ∀ (a : Addr) (f : FuncId) (s cs : Array Value) (W : World), (store a (.func (.func f) s cs)).run Tryz.prog W = stored Tryz.prog W a (.func (.func f) s cs) .plain := fun a f s cs W => run_store _ W a _ _ rfl
 have H := (Held.start w).add (f := zB1) hF
 clear hF
 go_enter Tryz.func89, Tryz.ntmps89
 go_wp2_with fail
 replace H := H.quad (w.heap.size) (.bool t) (.int .i64 en) (.int .i64 f) (.slice ao n cap) 33 rfl
 replace H := H.pair (w.heap.size + 1) (.int .i64 0) (.int .i64 0) 48 (by simp)
 (with_reducible refine (find_4 _).mono ?_)
 rintro e w1 ⟨B, rfl, hc, hb⟩
 replace H := (H.below hb).add (f := .cell B 0 (.func (.func 132) #[] #[])) hc
 clear hc hb
 obtain ⟨cs0, cs1, cs2, cs3⟩ := H.cells4 (w.heap.size)
 have ls := zA0 cs0
 go_wp2_with fail
 clear cs0 cs1 cs2 cs3 ls
 replace H := H.alloc (.cells #[.string (nm 4), .func (.func 149) #[] #[.pointer (some ⟨B, 0, none⟩)]] 130)
 (with_reducible refine (tell_4 B a b t en f ao n cap X p q c _ (H.factsC) (H.cell B 0 _) h).mono ?_)
 rintro e w2 ⟨rfl, hb⟩
 replace H := H.below hb
 clear hb
 have cz0 := H.cell (w.heap.size + 1) 0 (.int .i64 0)
 have cz1 := H.cell (w.heap.size + 1) 1 (.int .i64 0)
 have lz := zA0 cz0
 have fz0 := H.frozen (w.heap.size + 1) 0
 have fz1 := H.frozen (w.heap.size + 1) 1
 have HK := H.old
 clear H
 go_wp2_with fail
 exact bodyPost_ret (v := .tuple #[.agg #[.int .i64 p, .int .i64 q], .int .i64 c]) (by simp [results, Tryz.results89, go_sem, cz0, cz1, lz]) rfl ⟨rfl, by repeat (first | exact HK | refine Below.drew ?_ | refine Below.setCell ?_ (by simp <;> omega) _ | refine Below.alloc ?_ (by simp <;> omega) _)⟩
theorem cpart_5 (a b : Int) (t : Bool) (en f : Int) (ao : Option Addr) (n cap : Nat) (X : Nat → Int) (p q c : Int) (w : World) (hF : FactsC w) (h : AcIs yX 133590 a b p q c) : Calls Tryz.prog 89 #[.int .i64 5, .int .i64 a, .int .i64 b, .agg #[.bool t, .int .i64 en, .int .i64 f, .slice ao n cap]] w fun e w' => e = .returned (.tuple #[.agg #[.int .i64 p, .int .i64 q], .int .i64 c]) ∧ Below w.heap.size w w' := by
 have sf : ∀ (a : Addr) (f : FuncId) (s cs : Array Value) (W : World), (store a (.func (.func f) s cs)).run Tryz.prog W = stored Tryz.prog W a (.func (.func f) s cs) .plain := fun a f s cs W => run_store _ W a _ _ rfl
 have H := (Held.start w).add (f := zB1) hF
 clear hF
 go_enter Tryz.func89, Tryz.ntmps89
 go_wp2_with fail
 replace H := H.quad (w.heap.size) (.bool t) (.int .i64 en) (.int .i64 f) (.slice ao n cap) 33 rfl
 replace H := H.pair (w.heap.size + 1) (.int .i64 0) (.int .i64 0) 48 (by simp)
 (with_reducible refine (find_5 _).mono ?_)
 rintro e w1 ⟨B, rfl, hc, hb⟩
 replace H := (H.below hb).add (f := .cell B 0 (.func (.func 133) #[] #[])) hc
 clear hc hb
 obtain ⟨cs0, cs1, cs2, cs3⟩ := H.cells4 (w.heap.size)
 have ls := zA0 cs0
 go_wp2_with fail
 clear cs0 cs1 cs2 cs3 ls
 replace H := H.alloc (.cells #[.string (nm 5), .func (.func 149) #[] #[.pointer (some ⟨B, 0, none⟩)]] 130)
 (with_reducible refine (tell_5 B a b t en f ao n cap X p q c _ (H.factsC) (H.cell B 0 _) h).mono ?_)
 rintro e w2 ⟨rfl, hb⟩
 replace H := H.below hb
 clear hb
 have cz0 := H.cell (w.heap.size + 1) 0 (.int .i64 0)
 have cz1 := H.cell (w.heap.size + 1) 1 (.int .i64 0)
 have lz := zA0 cz0
 have fz0 := H.frozen (w.heap.size + 1) 0
 have fz1 := H.frozen (w.heap.size + 1) 1
 have HK := H.old
 clear H
 go_wp2_with fail
 exact bodyPost_ret (v := .tuple #[.agg #[.int .i64 p, .int .i64 q], .int .i64 c]) (by simp [results, Tryz.results89, go_sem, cz0, cz1, lz]) rfl ⟨rfl, by repeat (first | exact HK | refine Below.drew ?_ | refine Below.setCell ?_ (by simp <;> omega) _ | refine Below.alloc ?_ (by simp <;> omega) _)⟩
theorem cpart_6 (a b : Int) (t : Bool) (en f : Int) (ao : Option Addr) (n cap : Nat) (X : Nat → Int) (p q c : Int) (w : World) (hF : FactsC w) (hn : n ≤ 100) (hR : RowAt w ao X n cap) (h : IcIs X n f a b p q c) : Calls Tryz.prog 89 #[.int .i64 6, .int .i64 a, .int .i64 b, .agg #[.bool t, .int .i64 en, .int .i64 f, .slice ao n cap]] w fun e w' => e = .returned (.tuple #[.agg #[.int .i64 p, .int .i64 q], .int .i64 c]) ∧ Below w.heap.size w w' := by
 have sf : ∀ (a : Addr) (f : FuncId) (s cs : Array Value) (W : World), (store a (.func (.func f) s cs)).run Tryz.prog W = stored Tryz.prog W a (.func (.func f) s cs) .plain := fun a f s cs W => run_store _ W a _ _ rfl
 have H := ((Held.start w).add (f := zB1) hF).add (f := rowF ao X n cap) hR
 clear hF hR
 go_enter Tryz.func89, Tryz.ntmps89
 go_wp2_with fail
 replace H := H.quad (w.heap.size) (.bool t) (.int .i64 en) (.int .i64 f) (.slice ao n cap) 33 rfl
 replace H := H.pair (w.heap.size + 1) (.int .i64 0) (.int .i64 0) 48 (by simp)
 (with_reducible refine (find_6 _).mono ?_)
 rintro e w1 ⟨rfl, hb⟩
 replace H := H.below hb
 clear hb
 obtain ⟨cs0, cs1, cs2, cs3⟩ := H.cells4 (w.heap.size)
 have ls := zA0 cs0
 go_wp2_with fail
 clear cs0 cs1 cs2 cs3 ls
 replace H := H.alloc (.cells #[.string (nm 6), .func (.func 134) #[] #[]] 130)
 (with_reducible refine (tell_6 a b t en f ao n cap X p q c _ (H.factsC) hn (H.row (ao := ao) (X := X) (n := n) (cap := cap)) h).mono ?_)
 rintro e w2 ⟨rfl, hb⟩
 replace H := H.below hb
 clear hb
 have cz0 := H.cell (w.heap.size + 1) 0 (.int .i64 0)
 have cz1 := H.cell (w.heap.size + 1) 1 (.int .i64 0)
 have lz := zA0 cz0
 have fz0 := H.frozen (w.heap.size + 1) 0
 have fz1 := H.frozen (w.heap.size + 1) 1
 have HK := H.old
 clear H
 go_wp2_with fail
 exact bodyPost_ret (v := .tuple #[.agg #[.int .i64 p, .int .i64 q], .int .i64 c]) (by simp [results, Tryz.results89, go_sem, cz0, cz1, lz]) rfl ⟨rfl, by repeat (first | exact HK | refine Below.drew ?_ | refine Below.setCell ?_ (by simp <;> omega) _ | refine Below.alloc ?_ (by simp <;> omega) _)⟩
theorem zOk (k a b : Int) (t : Bool) (en f : Int) (ao : Option Addr) (n cap : Nat) (w : World) (hk : k < 0 ∨ 6 < k) : Calls Tryz.prog 89 #[.int .i64 k, .int .i64 a, .int .i64 b, .agg #[.bool t, .int .i64 en, .int .i64 f, .slice ao n cap]] w fun e w' => e = .returned (.tuple #[.agg #[.int .i64 0, .int .i64 0], .int .i64 1]) ∧ Below w.heap.size w w' := by
 have sf : ∀ (a : Addr) (W : World), (store a .nilFunc).run Tryz.prog W = stored Tryz.prog W a .nilFunc .plain := fun a W => run_store _ W a _ _ rfl
 have H := Held.start w
 go_enter Tryz.func89, Tryz.ntmps89
 go_wp2_with fail
 replace H := H.quad (w.heap.size) (.bool t) (.int .i64 en) (.int .i64 f) (.slice ao n cap) 33 rfl
 replace H := H.pair (w.heap.size + 1) (.int .i64 0) (.int .i64 0) 48 (by simp)
 (with_reducible refine (zL4 k _ hk).mono ?_)
 rintro e w1 ⟨rfl, hb⟩
 replace H := H.below hb
 clear hb
 have cz0 := H.cell (w.heap.size + 1) 0 (.int .i64 0)
 have cz1 := H.cell (w.heap.size + 1) 1 (.int .i64 0)
 have lz := zA0 cz0
 have fz0 := H.frozen (w.heap.size + 1) 0
 have fz1 := H.frozen (w.heap.size + 1) 1
 have HK := H.old
 clear H
 go_wp2_with fail
 exact bodyPost_ret (v := .tuple #[.agg #[.int .i64 0, .int .i64 0], .int .i64 1]) (by simp [results, Tryz.results89, go_sem, cz0, cz1, lz]) rfl ⟨rfl, by repeat (first | exact HK | refine Below.drew ?_ | refine Below.setCell ?_ (by simp <;> omega) _ | refine Below.alloc ?_ (by simp <;> omega) _)⟩
end Go.Proofs.YtpfgdfpaoldhcaaGreatDoor
