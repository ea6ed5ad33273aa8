/- IcmaWhole: the walk. -/
import Derived.Test.YtcplfgmajbadmaaDoorIcShown
namespace Go.Proofs.YtcplfgmajbadmaaDoor
open Go.RowKit
set_option linter.unusedVariables false
set_option linter.unusedSimpArgs false

def x2 (x y : Int) : Nat → Int := fun i => if i = 0 then x else y
def x4 (x y : Int) : Nat → Int := fun i => if i = 0 then x else if i = 1 then x else y
theorem row2 {W : World} {R : Nat} {x y : Int} (h0 : W.cell? ⟨R, 0, none⟩ = some (.int .i64 x)) (h1 : W.cell? ⟨R, 1, none⟩ = some (.int .i64 y)) : RowAt W (some ⟨R, 0, none⟩) (x2 x y) 2 2 :=
  ⟨by omega, fun _ => ⟨R, 0, rfl, fun j hj => by
    match j, hj with
    | 0, _ => exact h0
    | 1, _ => exact h1⟩⟩
theorem row4 {W : World} {R : Nat} {x y : Int} (h0 : W.cell? ⟨R, 0, none⟩ = some (.int .i64 x)) (h1 : W.cell? ⟨R, 1, none⟩ = some (.int .i64 x)) (h2 : W.cell? ⟨R, 2, none⟩ = some (.int .i64 y)) (h3 : W.cell? ⟨R, 3, none⟩ = some (.int .i64 y)) : RowAt W (some ⟨R, 0, none⟩) (x4 x y) 4 4 :=
  ⟨by omega, fun _ => ⟨R, 0, rfl, fun j hj => by
    match j, hj with
    | 0, _ => exact h0
    | 1, _ => exact h1
    | 2, _ => exact h2
    | 3, _ => exact h3⟩⟩
theorem may_x2 {x y f : Int} (hx : 1 ≤ x) (hy : y ≤ 3652059) (h : x < y) (hf : 1 ≤ f ∧ f ≤ 12) : MayX (x2 x y) 2 f := by
  refine ⟨by omega, by omega, hf, ⟨fun i hi => ?_, fun i hi => ?_⟩, h⟩
  · match i, hi with
    | 0, _ => exact ⟨hx, by show x ≤ _; omega⟩
    | 1, _ => exact ⟨by show 1 ≤ y; omega, hy⟩
  · match i, hi with
    | 0, _ => exact Int.le_of_lt h
theorem may_x4 {x y f : Int} (hx : 1 ≤ x) (hy : y ≤ 3652059) (h : x < y) (hf : 1 ≤ f ∧ f ≤ 12) : MayX (x4 x y) 4 f := by
  refine ⟨by omega, by omega, hf, ⟨fun i hi => ?_, fun i hi => ?_⟩, h⟩
  · match i, hi with
    | 0, _ => exact ⟨hx, by show x ≤ _; omega⟩
    | 1, _ => exact ⟨hx, by show x ≤ _; omega⟩
    | 2, _ => exact ⟨by show 1 ≤ y; omega, hy⟩
    | 3, _ => exact ⟨by show 1 ≤ y; omega, hy⟩
  · match i, hi with
    | 0, _ => exact Int.le_refl _
    | 1, _ => exact Int.le_of_lt h
    | 2, _ => exact Int.le_refl _
theorem vP_x2 {x y f a b : Int} (h : x < y) (hf : 1 ≤ f ∧ f ≤ 12) (ha : x ≤ a) (hab : a ≤ b) (hb : b ≤ y) : vP (x2 x y) 1 f a b = ((b - a : Int) : Rat) / ((f * (y - x) : Int) : Rat) := by
  rw [vP_step, vP_zero, Rat.zero_add]
  show (tm x y b - tm x y a) / (f : Rat) = _
  have e : dy a b x y = b - a := by unfold dy; omega
  by_cases k : 0 < dy a b x y
  · rw [step_share f a b x y hf hab (Int.le_of_lt h) k, e]
  · rw [dy_no hab (Int.le_of_lt h) k]
    have : b - a = 0 := by omega
    rw [this]
    simp [Rat.div_def, Rat.zero_mul]
theorem vP_x4 {x y f a b : Int} : vP (x4 x y) 3 f a b = vP (x2 x y) 1 f a b := by
  rw [vP_step, vP_step, vP_step, vP_zero, vP_step, vP_zero]
  show 0 + (tm x x b - tm x x a) / (f : Rat) + (tm x y b - tm x y a) / (f : Rat) + (tm y y b - tm y y a) / (f : Rat) = 0 + (tm x y b - tm x y a) / (f : Rat)
  rw [tm_none (Int.le_refl x), tm_none (Int.le_refl x), tm_none (Int.le_refl y), tm_none (Int.le_refl y)]
  rw [Rat.sub_self, Rat.div_def, Rat.div_def, Rat.zero_mul, Rat.add_zero, Rat.add_zero]
theorem one_is (k : Int) (hk : 1 ≤ k) : ((1 : Int) : Rat) / (k : Rat) = ((1 : Int) : Rat) / (k : Rat) ∧ (((1 : Int) : Rat) / (k : Rat)).num = 1 ∧ ((((1 : Int) : Rat) / (k : Rat)).den : Int) = k := by
  have h := rat_parts 1 k (by omega)
  rw [← h.1, ← h.2]
  unfold mN mD gi
  rw [Int.gcd_one_left]
  exact ⟨rfl, by simp, by simp⟩
/-- One period's days, and all of it. -/
theorem whole_one {x N k lo hi : Int} (hx : 1 ≤ x) (hN : 1 ≤ N) (hy : x + N ≤ 3652059) (hk : 1 ≤ k ∧ k ≤ 12) (hN2 : N ≤ 2000) (h0 : 0 ≤ lo) (h1 : lo ≤ hi) (h2 : hi ≤ N) (X : Nat → Int) (n : Nat) (hX : (X = x2 x (x + N) ∧ n = 2) ∨ (X = x4 x (x + N) ∧ n = 4)) :
    ∃ p q, IcIs X n k (x + lo) (x + hi) p q 0 ∧ (rN (hi - lo) (k * N) = p ∧ rD (hi - lo) (k * N) = q ∧ rE (hi - lo) (k * N) = 0) ∧ IcIs X n k x (x + N) 1 k 0 := by
  have m2 := may_x2 (x := x) (y := x + N) hx hy (by omega) hk
  have m4 := may_x4 (x := x) (y := x + N) hx hy (by omega) hk
  have va := vP_x2 (x := x) (y := x + N) (a := x + lo) (b := x + hi) (by omega) hk (by omega) (by omega) (by omega)
  have vb := vP_x2 (x := x) (y := x + N) (a := x) (b := x + N) (by omega) hk (by omega) (by omega) (by omega)
  rw [show x + hi - (x + lo) = hi - lo by omega, show x + N - x = N by omega] at va
  rw [show x + N - x = N by omega] at vb
  have kN : 0 < k * N := Int.mul_pos (by omega) (by omega)
  have kN2 : k * N ≤ 24000 := by have := Int.mul_le_mul hk.2 hN2 (by omega) (by omega); omega
  have one : vP (x2 x (x + N)) 1 k x (x + N) = ((1 : Int) : Rat) / (k : Rat) := by
    rw [vb]
    have c1 := cast_ne (d := N) (by omega)
    have c2 := cast_ne (d := k) (by omega)
    rw [Rat.intCast_mul]
    show (N : Rat) / ((k : Rat) * (N : Rat)) = (1 : Rat) / (k : Rat)
    grind
  have rr : rN (hi - lo) (k * N) = (vP (x2 x (x + N)) 1 k (x + lo) (x + hi)).num ∧ rD (hi - lo) (k * N) = ((vP (x2 x (x + N)) 1 k (x + lo) (x + hi)).den : Int) ∧ rE (hi - lo) (k * N) = 0 := by
    have hp := rat_parts (hi - lo) (k * N) kN
    rw [va, ← hp.1, ← hp.2]
    have := m_le (hi - lo) (k * N) (by omega) (by omega)
    exact r_yes ((fit_iff _ _).2 ⟨by omega, by omega⟩)
  refine ⟨_, _, ?_, rr, ?_⟩
  · rcases hX with ⟨rfl, rfl⟩ | ⟨rfl, rfl⟩
    · exact ic_ok (X := x2 x (x + N)) (n := 2) (by omega) m2 (show x ≤ _ by omega) (show _ ≤ x + N by omega)
    · have h := ic_ok (X := x4 x (x + N)) (n := 4) (f := k) (a := x + lo) (b := x + hi) (by omega) m4 (show x ≤ _ by omega) (show _ ≤ x + N by omega)
      rw [show (4 : Nat) - 1 = 3 from rfl, vP_x4] at h
      exact h
  · have o := one_is k hk.1
    rcases hX with ⟨rfl, rfl⟩ | ⟨rfl, rfl⟩
    · have h := ic_ok (X := x2 x (x + N)) (n := 2) (f := k) (a := x) (b := x + N) (by omega) m2 (show x ≤ x by omega) (show _ ≤ x + N by omega)
      rw [show (2 : Nat) - 1 = 1 from rfl, one, o.2.1, o.2.2] at h
      exact h
    · have h := ic_ok (X := x4 x (x + N)) (n := 4) (f := k) (a := x) (b := x + N) (by omega) m4 (show x ≤ x by omega) (show _ ≤ x + N by omega)
      rw [show (4 : Nat) - 1 = 3 from rfl, vP_x4, one, o.2.1, o.2.2] at h
      exact h

set_option maxHeartbeats 4000000 in
set_option maxRecDepth 100000 in
theorem iwhole_no (x long i j fq : Int) (tw : Bool) (N : Int) (w : World) (hL : Facts w) (bx : -9223372036854775808 ≤ x ∧ x < 9223372036854775808) (bl : 0 ≤ long ∧ long < 65536) (bi : 0 ≤ i ∧ i < 65536) (bj : 0 ≤ j ∧ j < 65536) (bf : 0 ≤ fq ∧ fq < 256) (hN : 1 + long % 2000 = N) (hx : x < 1 ∨ 3652059 < x) :
    Calls Tryd.prog 5 #[.agg #[.int .i64 x, .int .u16 long, .int .u16 i, .int .u16 j, .int .u8 fq, .bool tw]] w fun e w' => e = .returned (.bool true) ∧ Below w.heap.size w w' := by
  have H := (Held.start w).add (f := factsF) hL
  have bN : 1 ≤ N ∧ N ≤ 2000 := by omega
  have HN := Lib.hid hN
  clear hL hN
  have D := Lib.hid (fun v => rday_is x false v (by simp; omega))
  go_enter Tryd.func5, Tryd.ntmps5
  go_wp2_with fail
  replace H := H.alloc (.cells #[.int .i64 x, .int .u16 long, .int .u16 i, .int .u16 j, .int .u8 fq, .bool tw] 42)
  (with_reducible refine (ishown_any _ (H.facts (by repeat (first | with_reducible exact List.mem_cons_self | with_reducible apply List.mem_cons_of_mem)))).mono ?_)
  rintro e w1 ⟨rfl, hb⟩
  replace H := H.below hb
  clear hb
  go_wp2_with fail
  rw [HN.out]
  (with_reducible refine (D.out _).mono ?_)
  rintro e w2 ⟨rfl, rfl⟩
  go_wp2
  go_ret
  exact ⟨rfl, H.old⟩

set_option maxHeartbeats 4000000 in
set_option maxRecDepth 100000 in
theorem iwhole_far (x long i j fq : Int) (tw : Bool) (N : Int) (w : World) (hL : Facts w) (bx : -9223372036854775808 ≤ x ∧ x < 9223372036854775808) (bl : 0 ≤ long ∧ long < 65536) (bi : 0 ≤ i ∧ i < 65536) (bj : 0 ≤ j ∧ j < 65536) (bf : 0 ≤ fq ∧ fq < 256) (hN : 1 + long % 2000 = N) (hx : 1 ≤ x ∧ x ≤ 3652059) (hy : 3652059 < x + N) :
    Calls Tryd.prog 5 #[.agg #[.int .i64 x, .int .u16 long, .int .u16 i, .int .u16 j, .int .u8 fq, .bool tw]] w fun e w' => e = .returned (.bool true) ∧ Below w.heap.size w w' := by
  have H := (Held.start w).add (f := factsF) hL
  have bN : 1 ≤ N ∧ N ≤ 2000 := by omega
  have HN := Lib.hid hN
  clear hL hN
  have D := Lib.hid (fun v => rday_is x true v (by simp; omega))
  go_enter Tryd.func5, Tryd.ntmps5
  go_wp2_with fail
  replace H := H.alloc (.cells #[.int .i64 x, .int .u16 long, .int .u16 i, .int .u16 j, .int .u8 fq, .bool tw] 42)
  (with_reducible refine (ishown_any _ (H.facts (by repeat (first | with_reducible exact List.mem_cons_self | with_reducible apply List.mem_cons_of_mem)))).mono ?_)
  rintro e w1 ⟨rfl, hb⟩
  replace H := H.below hb
  clear hb
  go_wp2_with fail
  rw [HN.out]
  (with_reducible refine (D.out _).mono ?_)
  rintro e w2 ⟨rfl, rfl⟩
  go_wp2
  go_ret
  exact ⟨rfl, H.old⟩

set_option maxHeartbeats 4000000 in
set_option maxRecDepth 100000 in
theorem iwhole_once (x long i j fq : Int) (N k lo hi : Int) (w : World) (hL : Facts w) (bx : -9223372036854775808 ≤ x ∧ x < 9223372036854775808) (bl : 0 ≤ long ∧ long < 65536) (bi : 0 ≤ i ∧ i < 65536) (bj : 0 ≤ j ∧ j < 65536) (bf : 0 ≤ fq ∧ fq < 256) (hN : 1 + long % 2000 = N) (hx : 1 ≤ x ∧ x ≤ 3652059) (hy : x + N ≤ 3652059) (hk : 1 ≤ k ∧ k ≤ 12) (h0 : 0 ≤ lo) (h1 : lo ≤ hi) (h2 : hi ≤ N) (eK : 1 + fq % 12 = k) (eL : i % (N + 1) = lo) (eH : lo + j % (N + 1 - lo) = hi) :
    Calls Tryd.prog 5 #[.agg #[.int .i64 x, .int .u16 long, .int .u16 i, .int .u16 j, .int .u8 fq, .bool false]] w fun e w' => e = .returned (.bool true) ∧ Below w.heap.size w w' := by
  have H := (Held.start w).add (f := factsF) hL
  have bN : 1 ≤ N ∧ N ≤ 2000 := by omega
  have HN := Lib.hid hN
  clear hL hN
  have D := Lib.hid (fun v => rday_is x true v (by simp; omega))
  obtain ⟨p, q, P1, P3, P2⟩ := whole_one hx.1 bN.1 hy hk bN.2 h0 h1 h2 (x2 x (x + N)) 2 (by left; exact ⟨rfl, rfl⟩)
  replace P1 := Lib.hid P1
  replace P2 := Lib.hid P2
  replace P3 := Lib.hid P3
  have kN : 0 < k * N ∧ k * N ≤ 24000 := ⟨Int.mul_pos (by omega) (by omega), by have := Int.mul_le_mul hk.2 bN.2 (by omega) (by omega); omega⟩
  have HK := Lib.hid eK
  have HHI := Lib.hid eH
  have WH : Hid (wrap64 hi = hi) := Lib.hid (by unfold wrap64; omega)
  have WX : Hid (wrap64 (x + hi) = x + hi) := Lib.hid (by unfold wrap64; omega)
  have N1 : N + 1 ≠ 0 := by omega
  have N2 : N + 1 - lo ≠ 0 := by omega
  clear eK eH
  go_enter Tryd.func5, Tryd.ntmps5
  go_wp2_with fail
  replace H := H.alloc (.cells #[.int .i64 x, .int .u16 long, .int .u16 i, .int .u16 j, .int .u8 fq, .bool false] 42)
  (with_reducible refine (ishown_any _ (H.facts (by repeat (first | with_reducible exact List.mem_cons_self | with_reducible apply List.mem_cons_of_mem)))).mono ?_)
  rintro e w1 ⟨rfl, hb⟩
  replace H := H.below hb
  clear hb
  go_wp2_with fail
  rw [HN.out]
  (with_reducible refine (D.out _).mono ?_)
  rintro e w2 ⟨rfl, rfl⟩
  go_wp2_with fail
  replace H := H.pair (w1.heap.size) (.int .i64 x) (.int .i64 (x + N)) 3 rfl
  replace H := H.add (f := rowF (some ⟨w1.heap.size, 0, none⟩) (x2 x (x + N)) 2 2) (row2 (H.cell (w1.heap.size) 0 _ (by repeat (first | with_reducible exact List.mem_cons_self | with_reducible apply List.mem_cons_of_mem))) (H.cell (w1.heap.size) 1 _ (by repeat (first | with_reducible exact List.mem_cons_self | with_reducible apply List.mem_cons_of_mem))))
  rw [HK.out, HHI.out, WH.out, WX.out]
  (with_reducible refine (ipart_is (x + lo) (x + hi) (some ⟨w1.heap.size, 0, none⟩) 2 2 (x2 x (x + N)) k p q 0 _ (H.facts (by repeat (first | with_reducible exact List.mem_cons_self | with_reducible apply List.mem_cons_of_mem))) (by decide) (H.row (by repeat (first | with_reducible exact List.mem_cons_self | with_reducible apply List.mem_cons_of_mem))) P1.out).mono ?_)
  rintro e w2 ⟨rfl, hb⟩
  replace H := H.below hb
  clear hb
  go_wp2_with fail
  replace H := H.pair (w2.heap.size) (.int .i64 p) (.int .i64 q) 27 rfl
  (with_reducible refine (ipart_is x (x + N) (some ⟨w1.heap.size, 0, none⟩) 2 2 (x2 x (x + N)) k 1 k 0 _ (H.facts (by repeat (first | with_reducible exact List.mem_cons_self | with_reducible apply List.mem_cons_of_mem))) (by decide) (H.row (by repeat (first | with_reducible exact List.mem_cons_self | with_reducible apply List.mem_cons_of_mem))) P2.out).mono ?_)
  rintro e w3 ⟨rfl, hb⟩
  replace H := H.below hb
  clear hb
  have cx0 := H.cell (w2.heap.size) 0 (.int .i64 p) (by repeat (first | with_reducible exact List.mem_cons_self | with_reducible apply List.mem_cons_of_mem))
  have cx1 := H.cell (w2.heap.size) 1 (.int .i64 q) (by repeat (first | with_reducible exact List.mem_cons_self | with_reducible apply List.mem_cons_of_mem))
  have lx := cell_lt cx0
  go_wp2_with fail
  clear cx0 cx1 lx
  replace H := H.pair (w3.heap.size) (.int .i64 1) (.int .i64 k) 27 rfl
  (with_reducible refine (refnew_is (hi - lo) (k * N) p q 0 _ (by omega) (by omega) (by omega) (by omega) P3.out).mono ?_)
  rintro e w4 ⟨rfl, hb⟩
  replace H := H.below hb
  clear hb
  have cx0 := H.cell (w2.heap.size) 0 (.int .i64 p) (by repeat (first | with_reducible exact List.mem_cons_self | with_reducible apply List.mem_cons_of_mem))
  have cx1 := H.cell (w2.heap.size) 1 (.int .i64 q) (by repeat (first | with_reducible exact List.mem_cons_self | with_reducible apply List.mem_cons_of_mem))
  have lx := cell_lt cx0
  have cy0 := H.cell (w3.heap.size) 0 (.int .i64 1) (by repeat (first | with_reducible exact List.mem_cons_self | with_reducible apply List.mem_cons_of_mem))
  have cy1 := H.cell (w3.heap.size) 1 (.int .i64 k) (by repeat (first | with_reducible exact List.mem_cons_self | with_reducible apply List.mem_cons_of_mem))
  have ly := cell_lt cy0
  go_wp2_with fail
  clear cx0 cx1 lx cy0 cy1 ly
  replace H := H.pair (w4.heap.size) (.int .i64 p) (.int .i64 q) 27 rfl
  go_ret
  exact ⟨rfl, H.old⟩

set_option maxHeartbeats 4000000 in
set_option maxRecDepth 100000 in
theorem iwhole_twice (x long i j fq : Int) (N k lo hi : Int) (w : World) (hL : Facts w) (bx : -9223372036854775808 ≤ x ∧ x < 9223372036854775808) (bl : 0 ≤ long ∧ long < 65536) (bi : 0 ≤ i ∧ i < 65536) (bj : 0 ≤ j ∧ j < 65536) (bf : 0 ≤ fq ∧ fq < 256) (hN : 1 + long % 2000 = N) (hx : 1 ≤ x ∧ x ≤ 3652059) (hy : x + N ≤ 3652059) (hk : 1 ≤ k ∧ k ≤ 12) (h0 : 0 ≤ lo) (h1 : lo ≤ hi) (h2 : hi ≤ N) (eK : 1 + fq % 12 = k) (eL : i % (N + 1) = lo) (eH : lo + j % (N + 1 - lo) = hi) :
    Calls Tryd.prog 5 #[.agg #[.int .i64 x, .int .u16 long, .int .u16 i, .int .u16 j, .int .u8 fq, .bool true]] w fun e w' => e = .returned (.bool true) ∧ Below w.heap.size w w' := by
  have H := (Held.start w).add (f := factsF) hL
  have bN : 1 ≤ N ∧ N ≤ 2000 := by omega
  have HN := Lib.hid hN
  clear hL hN
  have D := Lib.hid (fun v => rday_is x true v (by simp; omega))
  obtain ⟨p, q, P1, P3, P2⟩ := whole_one hx.1 bN.1 hy hk bN.2 h0 h1 h2 (x4 x (x + N)) 4 (by right; exact ⟨rfl, rfl⟩)
  replace P1 := Lib.hid P1
  replace P2 := Lib.hid P2
  replace P3 := Lib.hid P3
  have kN : 0 < k * N ∧ k * N ≤ 24000 := ⟨Int.mul_pos (by omega) (by omega), by have := Int.mul_le_mul hk.2 bN.2 (by omega) (by omega); omega⟩
  have HK := Lib.hid eK
  have HHI := Lib.hid eH
  have WH : Hid (wrap64 hi = hi) := Lib.hid (by unfold wrap64; omega)
  have WX : Hid (wrap64 (x + hi) = x + hi) := Lib.hid (by unfold wrap64; omega)
  have N1 : N + 1 ≠ 0 := by omega
  have N2 : N + 1 - lo ≠ 0 := by omega
  clear eK eH
  go_enter Tryd.func5, Tryd.ntmps5
  go_wp2_with fail
  replace H := H.alloc (.cells #[.int .i64 x, .int .u16 long, .int .u16 i, .int .u16 j, .int .u8 fq, .bool true] 42)
  (with_reducible refine (ishown_any _ (H.facts (by repeat (first | with_reducible exact List.mem_cons_self | with_reducible apply List.mem_cons_of_mem)))).mono ?_)
  rintro e w1 ⟨rfl, hb⟩
  replace H := H.below hb
  clear hb
  go_wp2_with fail
  rw [HN.out]
  (with_reducible refine (D.out _).mono ?_)
  rintro e w2 ⟨rfl, rfl⟩
  go_wp2_with fail
  replace H := H.pair (w1.heap.size) (.int .i64 x) (.int .i64 (x + N)) 3 rfl
  replace H := H.quad (w1.heap.size + 1) (.int .i64 x) (.int .i64 x) (.int .i64 (x + N)) (.int .i64 (x + N)) 3 (by simp)
  replace H := H.add (f := rowF (some ⟨w1.heap.size + 1, 0, none⟩) (x4 x (x + N)) 4 4) (row4 (H.cell (w1.heap.size + 1) 0 _ (by repeat (first | with_reducible exact List.mem_cons_self | with_reducible apply List.mem_cons_of_mem))) (H.cell (w1.heap.size + 1) 1 _ (by repeat (first | with_reducible exact List.mem_cons_self | with_reducible apply List.mem_cons_of_mem))) (H.cell (w1.heap.size + 1) 2 _ (by repeat (first | with_reducible exact List.mem_cons_self | with_reducible apply List.mem_cons_of_mem))) (H.cell (w1.heap.size + 1) 3 _ (by repeat (first | with_reducible exact List.mem_cons_self | with_reducible apply List.mem_cons_of_mem))))
  rw [HK.out, HHI.out, WH.out, WX.out]
  (with_reducible refine (ipart_is (x + lo) (x + hi) (some ⟨w1.heap.size + 1, 0, none⟩) 4 4 (x4 x (x + N)) k p q 0 _ (H.facts (by repeat (first | with_reducible exact List.mem_cons_self | with_reducible apply List.mem_cons_of_mem))) (by decide) (H.row (by repeat (first | with_reducible exact List.mem_cons_self | with_reducible apply List.mem_cons_of_mem))) P1.out).mono ?_)
  rintro e w2 ⟨rfl, hb⟩
  replace H := H.below hb
  clear hb
  go_wp2_with fail
  replace H := H.pair (w2.heap.size) (.int .i64 p) (.int .i64 q) 27 rfl
  (with_reducible refine (ipart_is x (x + N) (some ⟨w1.heap.size + 1, 0, none⟩) 4 4 (x4 x (x + N)) k 1 k 0 _ (H.facts (by repeat (first | with_reducible exact List.mem_cons_self | with_reducible apply List.mem_cons_of_mem))) (by decide) (H.row (by repeat (first | with_reducible exact List.mem_cons_self | with_reducible apply List.mem_cons_of_mem))) P2.out).mono ?_)
  rintro e w3 ⟨rfl, hb⟩
  replace H := H.below hb
  clear hb
  have cx0 := H.cell (w2.heap.size) 0 (.int .i64 p) (by repeat (first | with_reducible exact List.mem_cons_self | with_reducible apply List.mem_cons_of_mem))
  have cx1 := H.cell (w2.heap.size) 1 (.int .i64 q) (by repeat (first | with_reducible exact List.mem_cons_self | with_reducible apply List.mem_cons_of_mem))
  have lx := cell_lt cx0
  go_wp2_with fail
  clear cx0 cx1 lx
  replace H := H.pair (w3.heap.size) (.int .i64 1) (.int .i64 k) 27 rfl
  (with_reducible refine (refnew_is (hi - lo) (k * N) p q 0 _ (by omega) (by omega) (by omega) (by omega) P3.out).mono ?_)
  rintro e w4 ⟨rfl, hb⟩
  replace H := H.below hb
  clear hb
  have cx0 := H.cell (w2.heap.size) 0 (.int .i64 p) (by repeat (first | with_reducible exact List.mem_cons_self | with_reducible apply List.mem_cons_of_mem))
  have cx1 := H.cell (w2.heap.size) 1 (.int .i64 q) (by repeat (first | with_reducible exact List.mem_cons_self | with_reducible apply List.mem_cons_of_mem))
  have lx := cell_lt cx0
  have cy0 := H.cell (w3.heap.size) 0 (.int .i64 1) (by repeat (first | with_reducible exact List.mem_cons_self | with_reducible apply List.mem_cons_of_mem))
  have cy1 := H.cell (w3.heap.size) 1 (.int .i64 k) (by repeat (first | with_reducible exact List.mem_cons_self | with_reducible apply List.mem_cons_of_mem))
  have ly := cell_lt cy0
  go_wp2_with fail
  clear cx0 cx1 lx cy0 cy1 ly
  replace H := H.pair (w4.heap.size) (.int .i64 p) (.int .i64 q) 27 rfl
  go_ret
  exact ⟨rfl, H.old⟩

theorem iwhole_walk (x long i j fq : Int) (tw : Bool) (w : World) (hL : Facts w) (bx : -9223372036854775808 ≤ x ∧ x < 9223372036854775808) (bl : 0 ≤ long ∧ long < 65536) (bi : 0 ≤ i ∧ i < 65536) (bj : 0 ≤ j ∧ j < 65536) (bf : 0 ≤ fq ∧ fq < 256) :
    Calls Tryd.prog 5 #[.agg #[.int .i64 x, .int .u16 long, .int .u16 i, .int .u16 j, .int .u8 fq, .bool tw]] w fun e w' => e = .returned (.bool true) ∧ Below w.heap.size w w' := by
  obtain ⟨N, hN⟩ : ∃ N, 1 + long % 2000 = N := ⟨_, rfl⟩
  by_cases hx : x < 1 ∨ 3652059 < x
  · exact iwhole_no x long i j fq tw N w hL bx bl bi bj bf hN hx
  · by_cases hy : 3652059 < x + N
    · exact iwhole_far x long i j fq tw N w hL bx bl bi bj bf hN (by omega) hy
    · have bN : 1 ≤ N ∧ N ≤ 2000 := by omega
      obtain ⟨lo, eL⟩ : ∃ lo, i % (N + 1) = lo := ⟨_, rfl⟩
      have l0 := Int.emod_nonneg i (show N + 1 ≠ 0 by omega)
      have l1 := Int.emod_lt_of_pos i (show 0 < N + 1 by omega)
      have h0 := Int.emod_nonneg j (show N + 1 - lo ≠ 0 by omega)
      have h1 := Int.emod_lt_of_pos j (show 0 < N + 1 - lo by omega)
      cases tw
      · exact iwhole_once x long i j fq N (1 + fq % 12) lo (lo + j % (N + 1 - lo)) w hL bx bl bi bj bf hN (by omega) (by omega) (by omega) (by omega) (by omega) (by omega) rfl eL rfl
      · exact iwhole_twice x long i j fq N (1 + fq % 12) lo (lo + j % (N + 1 - lo)) w hL bx bl bi bj bf hN (by omega) (by omega) (by omega) (by omega) (by omega) (by omega) rfl eL rfl
end Go.Proofs.YtcplfgmajbadmaaDoor
