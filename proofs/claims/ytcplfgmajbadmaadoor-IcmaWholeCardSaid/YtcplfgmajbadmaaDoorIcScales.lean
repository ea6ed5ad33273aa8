/- IcmaScales: the walk. -/
import Derived.Test.YtcplfgmajbadmaaDoorIcShown
import Derived.Test.YtcplfgmajbadmaaDoorIcScaNum
import Derived.Test.YtcplfgmajbadmaaDoorRefArith
namespace Go.Proofs.YtcplfgmajbadmaaDoor
open Go.RowKit
set_option linter.unusedVariables false
set_option linter.unusedSimpArgs false

theorem refmul_is (an ad bn bd p q c : Int) (w : World) (ha : rightB an ad = true) (hb : rightB bn bd = true) (h : rN (an * bn) (ad * bd) = p ∧ rD (an * bn) (ad * bd) = q ∧ rE (an * bn) (ad * bd) = c) :
    Calls Tryd.prog 16 #[.agg #[.int .i64 an, .int .i64 ad], .agg #[.int .i64 bn, .int .i64 bd]] w fun e w' => e = .returned (.tuple #[.agg #[.int .i64 p, .int .i64 q], .int .i64 c]) ∧ Below w.heap.size w w' := by
  obtain ⟨rfl, rfl, rfl⟩ := h; exact refmul_any an ad bn bd w ha hb
/-- A row that the call has made, as days. -/
theorem own_row {W : World} {base n : Nat} {v : Value} {X : Nat → Int} (h : W.ownsRow base 3 1 v n ((List.range n).map fun i => .int .i64 (X i))) : ∃ ao cap, v = .slice ao n cap ∧ RowAt W ao X n cap := by
  have h0 := h
  rcases h.2 with ⟨rfl, rfl⟩ | ⟨g, cap, cur, rfl, _, _, hc, _⟩
  · exact ⟨_, _, rfl, Nat.le_refl _, fun k => absurd k (by omega)⟩
  · refine ⟨_, _, rfl, hc, fun _ => ⟨g, 0, rfl, fun j hj => ?_⟩⟩
    have := World.ownsRow.cellAt h0 j (by omega)
    rw [Nat.zero_add, this]
    simp [hj]
theorem range_snoc (X : Nat → Int) (k : Nat) : (List.range k).map (fun i => Value.int .i64 (X i)) ++ [.int .i64 (X k)] = (List.range (k + 1)).map (fun i => Value.int .i64 (X i)) := by
  rw [List.range_succ, List.map_append]; rfl

set_option maxHeartbeats 8000000 in
set_option maxRecDepth 100000 in
theorem iscales_long (a b : Int) (ao : Option Addr) (n cap : Nat) (X : Nat → Int) (fq mo k : Int) (w : World) (hL : Facts w) (bf : 0 ≤ fq ∧ fq < 256) (bm : 0 ≤ mo ∧ mo < 65536) (hk : 1 + fq % 6 = k) (hR : RowAt w ao X n cap) (hn : 40 < n) :
    Calls Tryd.prog 7 #[.agg #[.int .i64 a, .int .i64 b, .slice ao n cap, .int .u8 fq, .int .u16 mo]] w fun e w' => e = .returned (.bool true) ∧ Below w.heap.size w w' := by
  have bk : 1 ≤ k ∧ k ≤ 6 := by omega
  have HK := Lib.hid hk
  clear hk
  have H := ((Held.start w).add (f := factsF) hL).add (f := rowF ao X n cap) hR
  clear hL hR
  go_enter Tryd.func7, Tryd.ntmps7
  go_wp2_with fail
  replace H := H.alloc (.cells #[.int .i64 a, .int .i64 b, .slice ao n cap, .int .u8 fq, .int .u16 mo] 49)
  (with_reducible refine (ishown_any _ (H.facts (by repeat (first | with_reducible exact List.mem_cons_self | with_reducible apply List.mem_cons_of_mem)))).mono ?_)
  rintro e w1 ⟨rfl, hb⟩
  replace H := H.below hb
  clear hb
  have t1 : decide ((n : Int) > 40) = true := by simp; omega
  go_wp2
  go_ret
  exact ⟨rfl, H.old⟩

set_option maxHeartbeats 8000000 in
set_option maxRecDepth 100000 in
theorem iscales_not (a b : Int) (ao : Option Addr) (n cap : Nat) (X : Nat → Int) (fq mo k : Int) (w : World) (hL : Facts w) (bf : 0 ≤ fq ∧ fq < 256) (bm : 0 ≤ mo ∧ mo < 65536) (hk : 1 + fq % 6 = k) (hR : RowAt w ao X n cap) (hn : n ≤ 40) (hm : ¬ MayX X n k) :
    Calls Tryd.prog 7 #[.agg #[.int .i64 a, .int .i64 b, .slice ao n cap, .int .u8 fq, .int .u16 mo]] w fun e w' => e = .returned (.bool true) ∧ Below w.heap.size w w' := by
  have bk : 1 ≤ k ∧ k ≤ 6 := by omega
  have HK := Lib.hid hk
  clear hk
  have H := ((Held.start w).add (f := factsF) hL).add (f := rowF ao X n cap) hR
  have M := Lib.hid (fun v hr => imr_is ao n cap X k false v (by omega) hr ⟨fun h => (by cases h), fun h => absurd h hm⟩)
  clear hL hR hm
  go_enter Tryd.func7, Tryd.ntmps7
  go_wp2_with fail
  replace H := H.alloc (.cells #[.int .i64 a, .int .i64 b, .slice ao n cap, .int .u8 fq, .int .u16 mo] 49)
  (with_reducible refine (ishown_any _ (H.facts (by repeat (first | with_reducible exact List.mem_cons_self | with_reducible apply List.mem_cons_of_mem)))).mono ?_)
  rintro e w1 ⟨rfl, hb⟩
  replace H := H.below hb
  clear hb
  have t1 : decide ((n : Int) > 40) = false := by simp; omega
  go_wp2_with fail
  rw [HK.out]
  (with_reducible refine (M.out _ (H.row (by repeat (first | with_reducible exact List.mem_cons_self | with_reducible apply List.mem_cons_of_mem)))).mono ?_)
  rintro e w2 ⟨rfl, hb⟩
  replace H := H.below hb
  clear hb
  go_wp2
  go_ret
  exact ⟨rfl, H.old⟩

set_option maxHeartbeats 8000000 in
set_option maxRecDepth 100000 in
theorem iscales_code (a b : Int) (ao : Option Addr) (n cap : Nat) (X : Nat → Int) (fq mo k : Int) (w : World) (hL : Facts w) (bf : 0 ≤ fq ∧ fq < 256) (bm : 0 ≤ mo ∧ mo < 65536) (hk : 1 + fq % 6 = k) (hR : RowAt w ao X n cap) (hn : n ≤ 40) (hm : MayX X n k) (p q c : Int) (hI : IcIs X n k a b p q c) (hc : c ≠ 0) :
    Calls Tryd.prog 7 #[.agg #[.int .i64 a, .int .i64 b, .slice ao n cap, .int .u8 fq, .int .u16 mo]] w fun e w' => e = .returned (.bool true) ∧ Below w.heap.size w w' := by
  have bk : 1 ≤ k ∧ k ≤ 6 := by omega
  have HK := Lib.hid hk
  clear hk
  have H := ((Held.start w).add (f := factsF) hL).add (f := rowF ao X n cap) hR
  have M := Lib.hid (fun v hr => imr_is ao n cap X k true v (by omega) hr ⟨fun _ => hm, fun _ => rfl⟩)
  have P1 := Lib.hid (fun v h1 h2 => ipart_is a b ao n cap X k p q c v h1 (by omega) h2 hI)
  have CN : Hid ((c == 0) = false ∧ (c != 0) = true) := Lib.hid ⟨by simpa using hc, by simpa using hc⟩
  clear hL hR hm hI hc
  go_enter Tryd.func7, Tryd.ntmps7
  go_wp2_with fail
  replace H := H.alloc (.cells #[.int .i64 a, .int .i64 b, .slice ao n cap, .int .u8 fq, .int .u16 mo] 49)
  (with_reducible refine (ishown_any _ (H.facts (by repeat (first | with_reducible exact List.mem_cons_self | with_reducible apply List.mem_cons_of_mem)))).mono ?_)
  rintro e w1 ⟨rfl, hb⟩
  replace H := H.below hb
  clear hb
  have t1 : decide ((n : Int) > 40) = false := by simp; omega
  go_wp2_with fail
  rw [HK.out]
  (with_reducible refine (M.out _ (H.row (by repeat (first | with_reducible exact List.mem_cons_self | with_reducible apply List.mem_cons_of_mem)))).mono ?_)
  rintro e w2 ⟨rfl, hb⟩
  replace H := H.below hb
  clear hb
  go_wp2_with fail
  (with_reducible refine (P1.out _ (H.facts (by repeat (first | with_reducible exact List.mem_cons_self | with_reducible apply List.mem_cons_of_mem))) (H.row (by repeat (first | with_reducible exact List.mem_cons_self | with_reducible apply List.mem_cons_of_mem)))).mono ?_)
  rintro e w3 ⟨rfl, hb⟩
  replace H := H.below hb
  clear hb
  have cn := CN.out.1
  have cm := CN.out.2
  go_wp2
  go_ret
  exact ⟨rfl, (H.alloc _).old⟩

set_option maxHeartbeats 8000000 in
set_option maxRecDepth 100000 in
theorem iscales_far (a b : Int) (B off m cap : Nat) (X : Nat → Int) (fq mo k : Int) (w : World) (hL : Facts w) (bf : 0 ≤ fq ∧ fq < 256) (bm : 0 ≤ mo ∧ mo < 65536) (hk : 1 + fq % 6 = k) (hm1 : 1 ≤ m) (hmm : m < 40) (hcap : m + 1 ≤ cap) (hC : Cells w B off X (m + 1)) (hm : MayX X (m + 1) k) (da : 1 ≤ a ∧ a ≤ 3652059) (db : 1 ≤ b ∧ b ≤ 3652059) (h0 : X 0 ≤ a) (hab : a ≤ b) (hb : b ≤ X m) (hfar : 3652059 < X m + mo) :
    Calls Tryd.prog 7 #[.agg #[.int .i64 a, .int .i64 b, .slice (some ⟨B, off, none⟩) (m + 1) cap, .int .u8 fq, .int .u16 mo]] w fun e w' => e = .returned (.bool true) ∧ Below w.heap.size w w' := by
  have bk : 1 ≤ k ∧ k ≤ 6 := by omega
  have HK := Lib.hid hk
  clear hk
  have mB := hm.2.2.2.1.1 m (by omega)
  have H := ((((Held.start w).add (f := factsF) hL).add (f := rowF (some ⟨B, off, none⟩) X (m + 1) cap) ⟨hcap, fun _ => ⟨B, off, rfl, hC⟩⟩).add (f := cellsF B off X (m + 1)) hC).add (f := .cell B (off + m) _) (hC m (by omega))
  have M := Lib.hid (fun v hr => imr_is (some ⟨B, off, none⟩) (m + 1) cap X k true v (by omega) hr ⟨fun _ => hm, fun _ => rfl⟩)
  obtain ⟨p, q, s, t, I1, I2, R1, AD, SH⟩ := scales_all X m k a b hm bk.2 h0 hab hb
  replace I1 := Lib.hid I1
  replace I2 := Lib.hid I2
  have MU := Lib.hid (fun v => refmul_is p q 1 2 s t 0 v R1 (by decide +kernel) AD)
  have MX := Lib.hid hm.2.2.2.1
  clear hL hm hC AD SH R1
  go_enter Tryd.func7, Tryd.ntmps7
  go_wp2_with fail
  replace H := H.alloc (.cells #[.int .i64 a, .int .i64 b, .slice (some ⟨B, off, none⟩) (m + 1) cap, .int .u8 fq, .int .u16 mo] 49)
  (with_reducible refine (ishown_any _ (H.facts (by repeat (first | with_reducible exact List.mem_cons_self | with_reducible apply List.mem_cons_of_mem)))).mono ?_)
  rintro e w1 ⟨rfl, hb⟩
  replace H := H.below hb
  clear hb
  have t1 : decide (((m + 1 : Nat) : Int) > 40) = false := by simp; omega
  go_wp2_with fail
  rw [HK.out]
  (with_reducible refine (M.out _ (H.row (by repeat (first | with_reducible exact List.mem_cons_self | with_reducible apply List.mem_cons_of_mem)))).mono ?_)
  rintro e w2 ⟨rfl, hb⟩
  replace H := H.below hb
  clear hb
  go_wp2_with fail
  (with_reducible refine (ipart_is a b (some ⟨B, off, none⟩) (m + 1) cap X k p q 0 _ (H.facts (by repeat (first | with_reducible exact List.mem_cons_self | with_reducible apply List.mem_cons_of_mem))) (by omega) (H.row (by repeat (first | with_reducible exact List.mem_cons_self | with_reducible apply List.mem_cons_of_mem))) I1.out).mono ?_)
  rintro e w3 ⟨rfl, hb⟩
  replace H := H.below hb
  clear hb
  go_wp2_with fail
  replace H := H.pair (w3.heap.size) (.int .i64 p) (.int .i64 q) 27 rfl
  (with_reducible refine (ipart_is a b (some ⟨B, off, none⟩) (m + 1) cap X (2 * k) s t 0 _ (H.facts (by repeat (first | with_reducible exact List.mem_cons_self | with_reducible apply List.mem_cons_of_mem))) (by omega) (H.row (by repeat (first | with_reducible exact List.mem_cons_self | with_reducible apply List.mem_cons_of_mem))) I2.out).mono ?_)
  rintro e w4 ⟨rfl, hb⟩
  replace H := H.below hb
  clear hb
  have cx0 := H.cell (w3.heap.size) 0 (.int .i64 p) (by repeat (first | with_reducible exact List.mem_cons_self | with_reducible apply List.mem_cons_of_mem))
  have cx1 := H.cell (w3.heap.size) 1 (.int .i64 q) (by repeat (first | with_reducible exact List.mem_cons_self | with_reducible apply List.mem_cons_of_mem))
  have lx := cell_lt cx0
  go_wp2_with fail
  clear cx0 cx1 lx
  replace H := H.pair (w4.heap.size) (.int .i64 s) (.int .i64 t) 27 rfl
  (with_reducible refine (MU.out _).mono ?_)
  rintro e w5 ⟨rfl, hb⟩
  replace H := H.below hb
  clear hb
  have cBm := H.cell B (off + m) (.int .i64 (X m)) (by repeat (first | with_reducible exact List.mem_cons_self | with_reducible apply List.mem_cons_of_mem))
  have lB := cell_lt cBm
  have t2 : decide (X m + mo > 3652059) = true := by simp; omega
  have cx0 := H.cell (w3.heap.size) 0 (.int .i64 p) (by repeat (first | with_reducible exact List.mem_cons_self | with_reducible apply List.mem_cons_of_mem))
  have cx1 := H.cell (w3.heap.size) 1 (.int .i64 q) (by repeat (first | with_reducible exact List.mem_cons_self | with_reducible apply List.mem_cons_of_mem))
  have lx := cell_lt cx0
  have cy0 := H.cell (w4.heap.size) 0 (.int .i64 s) (by repeat (first | with_reducible exact List.mem_cons_self | with_reducible apply List.mem_cons_of_mem))
  have cy1 := H.cell (w4.heap.size) 1 (.int .i64 t) (by repeat (first | with_reducible exact List.mem_cons_self | with_reducible apply List.mem_cons_of_mem))
  have ly := cell_lt cy0
  go_wp2
  go_ret
  exact ⟨rfl, (H.alloc _).old⟩

set_option maxHeartbeats 8000000 in
set_option maxRecDepth 100000 in
theorem iscales_yes (a b : Int) (B off m cap : Nat) (X : Nat → Int) (fq mo k : Int) (w : World) (hL : Facts w) (bf : 0 ≤ fq ∧ fq < 256) (bm : 0 ≤ mo ∧ mo < 65536) (hk : 1 + fq % 6 = k) (hm1 : 1 ≤ m) (hmm : m < 40) (hcap : m + 1 ≤ cap) (hC : Cells w B off X (m + 1)) (hm : MayX X (m + 1) k) (da : 1 ≤ a ∧ a ≤ 3652059) (db : 1 ≤ b ∧ b ≤ 3652059) (h0 : X 0 ≤ a) (hab : a ≤ b) (hb : b ≤ X m) (hfar : X m + mo ≤ 3652059) :
    Calls Tryd.prog 7 #[.agg #[.int .i64 a, .int .i64 b, .slice (some ⟨B, off, none⟩) (m + 1) cap, .int .u8 fq, .int .u16 mo]] w fun e w' => e = .returned (.bool true) ∧ Below w.heap.size w w' := by
  have bk : 1 ≤ k ∧ k ≤ 6 := by omega
  have HK := Lib.hid hk
  clear hk
  have mB := hm.2.2.2.1.1 m (by omega)
  have H := ((((Held.start w).add (f := factsF) hL).add (f := rowF (some ⟨B, off, none⟩) X (m + 1) cap) ⟨hcap, fun _ => ⟨B, off, rfl, hC⟩⟩).add (f := cellsF B off X (m + 1)) hC).add (f := .cell B (off + m) _) (hC m (by omega))
  have M := Lib.hid (fun v hr => imr_is (some ⟨B, off, none⟩) (m + 1) cap X k true v (by omega) hr ⟨fun _ => hm, fun _ => rfl⟩)
  obtain ⟨p, q, s, t, I1, I2, R1, AD, SH⟩ := scales_all X m k a b hm bk.2 h0 hab hb
  replace I1 := Lib.hid I1
  replace I2 := Lib.hid I2
  have MU := Lib.hid (fun v => refmul_is p q 1 2 s t 0 v R1 (by decide +kernel) AD)
  have MX := Lib.hid hm.2.2.2.1
  have I3 := Lib.hid (SH mo bm.1 hfar)
  have D1 := hm.2.2.2.1.1 0 (by omega)
  obtain ⟨i0, hi, hz0, hz1, hz2⟩ := info_parts infoInt
  clear hL hm hC AD SH R1
  go_enter Tryd.func7, Tryd.ntmps7
  go_wp2_with fail
  replace H := H.alloc (.cells #[.int .i64 a, .int .i64 b, .slice (some ⟨B, off, none⟩) (m + 1) cap, .int .u8 fq, .int .u16 mo] 49)
  (with_reducible refine (ishown_any _ (H.facts (by repeat (first | with_reducible exact List.mem_cons_self | with_reducible apply List.mem_cons_of_mem)))).mono ?_)
  rintro e w1 ⟨rfl, hb⟩
  replace H := H.below hb
  clear hb
  have t1 : decide (((m + 1 : Nat) : Int) > 40) = false := by simp; omega
  go_wp2_with fail
  rw [HK.out]
  (with_reducible refine (M.out _ (H.row (by repeat (first | with_reducible exact List.mem_cons_self | with_reducible apply List.mem_cons_of_mem)))).mono ?_)
  rintro e w2 ⟨rfl, hb⟩
  replace H := H.below hb
  clear hb
  go_wp2_with fail
  (with_reducible refine (ipart_is a b (some ⟨B, off, none⟩) (m + 1) cap X k p q 0 _ (H.facts (by repeat (first | with_reducible exact List.mem_cons_self | with_reducible apply List.mem_cons_of_mem))) (by omega) (H.row (by repeat (first | with_reducible exact List.mem_cons_self | with_reducible apply List.mem_cons_of_mem))) I1.out).mono ?_)
  rintro e w3 ⟨rfl, hb⟩
  replace H := H.below hb
  clear hb
  go_wp2_with fail
  replace H := H.pair (w3.heap.size) (.int .i64 p) (.int .i64 q) 27 rfl
  (with_reducible refine (ipart_is a b (some ⟨B, off, none⟩) (m + 1) cap X (2 * k) s t 0 _ (H.facts (by repeat (first | with_reducible exact List.mem_cons_self | with_reducible apply List.mem_cons_of_mem))) (by omega) (H.row (by repeat (first | with_reducible exact List.mem_cons_self | with_reducible apply List.mem_cons_of_mem))) I2.out).mono ?_)
  rintro e w4 ⟨rfl, hb⟩
  replace H := H.below hb
  clear hb
  have cx0 := H.cell (w3.heap.size) 0 (.int .i64 p) (by repeat (first | with_reducible exact List.mem_cons_self | with_reducible apply List.mem_cons_of_mem))
  have cx1 := H.cell (w3.heap.size) 1 (.int .i64 q) (by repeat (first | with_reducible exact List.mem_cons_self | with_reducible apply List.mem_cons_of_mem))
  have lx := cell_lt cx0
  go_wp2_with fail
  clear cx0 cx1 lx
  replace H := H.pair (w4.heap.size) (.int .i64 s) (.int .i64 t) 27 rfl
  (with_reducible refine (MU.out _).mono ?_)
  rintro e w5 ⟨rfl, hb⟩
  replace H := H.below hb
  clear hb
  have cBm := H.cell B (off + m) (.int .i64 (X m)) (by repeat (first | with_reducible exact List.mem_cons_self | with_reducible apply List.mem_cons_of_mem))
  have lB := cell_lt cBm
  have t2 : decide (X m + mo > 3652059) = false := by simp; omega
  have cx0 := H.cell (w3.heap.size) 0 (.int .i64 p) (by repeat (first | with_reducible exact List.mem_cons_self | with_reducible apply List.mem_cons_of_mem))
  have cx1 := H.cell (w3.heap.size) 1 (.int .i64 q) (by repeat (first | with_reducible exact List.mem_cons_self | with_reducible apply List.mem_cons_of_mem))
  have lx := cell_lt cx0
  have cy0 := H.cell (w4.heap.size) 0 (.int .i64 s) (by repeat (first | with_reducible exact List.mem_cons_self | with_reducible apply List.mem_cons_of_mem))
  have cy1 := H.cell (w4.heap.size) 1 (.int .i64 t) (by repeat (first | with_reducible exact List.mem_cons_self | with_reducible apply List.mem_cons_of_mem))
  have ly := cell_lt cy0
  go_wp2_with fail
  clear cx0 cx1 lx cy0 cy1 ly cBm lB
  replace H := H.pair (w5.heap.size) (.int .i64 s) (.int .i64 t) 27 rfl
  obtain ⟨W0, hW0⟩ : ∃ W0, w5.alloc (.cells #[.int .i64 s, .int .i64 t] 27) = W0 := ⟨_, rfl⟩
  rw [hW0] at H ⊢
  clear hW0
  obtain ⟨B0, hB0⟩ : ∃ B0, W0.heap.size = B0 := ⟨_, rfl⟩
  go_loopw [17, 18] (fun v i wr => ∃ j : Nat, j ≤ m + 1 ∧ i = .int .i64 (j : Int) ∧ wr.ownsRow B0 3 1 v j ((List.range j).map fun i => .int .i64 (X i + mo)) ∧ Below B0 W0 wr) (fun _ i _ => m + 1 - (intOf i).toNat)
  case atStart => exact ⟨0, by omega, rfl, World.ownsRow_nil _ _ _ _, Below.refl _ _⟩
  case round =>
    obtain ⟨j, hj, rfl, hown, hB⟩ := hrel
    have hsz : B0 ≤ wr.heap.size := by rw [← hB0]; exact hB.size
    have KH := Lib.hid (H.below (by rw [hB0]; exact hB))
    by_cases hlt : j < m + 1
    · have cj := (KH.out.cells (by repeat (first | with_reducible exact List.mem_cons_self | with_reducible apply List.mem_cons_of_mem))) j hlt
      have xb := MX.out.1 j hlt
      have XL : Hid (X j + mo = X j + mo) := Lib.hid rfl
      go_wp2_with (first
        | (at_builtin; refine wpList_append_own _ rfl _ _ 22 rfl B0 3 i0 (.int .i64 0) 1 8 Tryd.underlying22 hi hz0 hz1 hz2 rfl (by decide) _ _ _ rfl (hown.alloc _) ⟨wr.heap.size, 0, none⟩ 1 1 [.int .i64 (X j + mo)] rfl rfl ?c1 ?c2 ?c3 ?c4 ?c5 ?_)
        | go_in)
      case c2 => first | rfl | (intro u hu; simp at hu; subst hu; rfl)
      case c3 => unfold maxLen; omega
      case c4 => omega
      case c5 => first | omega | (simp; omega)
      · intro v' w1 hown' hgrow _
        have R := grown_row hsz hown hgrow
        rw [range_snoc (fun i => X i + mo)] at hown'
        have OW := Lib.hid hown'
        clear hgrow hown hown'
        go_wp2
        go_roundw
        case rel => exact ⟨j + 1, by omega, by go_num, OW.out, hB.trans R⟩
        case measure => simp [intOf]; omega
    · obtain rfl : j = m + 1 := by omega
      obtain ⟨ao, ca, rfl, hrow⟩ := own_row (X := fun i => X i + mo) hown
      have H := KH.out
      clear KH hown
      replace H := H.add (f := rowF ao (fun i => X i + mo) (m + 1) ca) hrow
      clear hrow
      go_wp2_with fail
      (with_reducible refine (ipart_is (a + mo) (b + mo) ao (m + 1) ca (fun i => X i + mo) k p q 0 _ (H.facts (by repeat (first | with_reducible exact List.mem_cons_self | with_reducible apply List.mem_cons_of_mem))) (by omega) (H.row (by repeat (first | with_reducible exact List.mem_cons_self | with_reducible apply List.mem_cons_of_mem))) I3.out).mono ?_)
      rintro e w6 ⟨rfl, hb⟩
      replace H := H.below hb
      clear hb
      have cx0 := H.cell (w3.heap.size) 0 (.int .i64 p) (by repeat (first | with_reducible exact List.mem_cons_self | with_reducible apply List.mem_cons_of_mem))
      have cx1 := H.cell (w3.heap.size) 1 (.int .i64 q) (by repeat (first | with_reducible exact List.mem_cons_self | with_reducible apply List.mem_cons_of_mem))
      have lx := cell_lt cx0
      go_wp2_with fail
      clear cx0 cx1 lx
      replace H := H.pair (w6.heap.size) (.int .i64 p) (.int .i64 q) 27 rfl
      go_ret
      exact ⟨rfl, H.old⟩

theorem iscales_walk (a b : Int) (ao : Option Addr) (n cap : Nat) (X : Nat → Int) (fq mo : Int) (w : World) (hL : Facts w) (hR : RowAt w ao X n cap) (bf : 0 ≤ fq ∧ fq < 256) (bm : 0 ≤ mo ∧ mo < 65536) :
    Calls Tryd.prog 7 #[.agg #[.int .i64 a, .int .i64 b, .slice ao n cap, .int .u8 fq, .int .u16 mo]] w fun e w' => e = .returned (.bool true) ∧ Below w.heap.size w w' := by
  obtain ⟨k, hk⟩ : ∃ k, 1 + fq % 6 = k := ⟨_, rfl⟩
  by_cases hn : 40 < n
  · exact iscales_long a b ao n cap X fq mo k w hL bf bm hk hR hn
  · by_cases hm : MayX X n k
    · obtain ⟨p, q, c, hI⟩ := ic_is X n k a b
      by_cases hc : c = 0
      · rcases hI with ⟨_, _, _, rfl⟩ | ⟨_, _, _, _, rfl⟩ | ⟨_, _, _, _, _, rfl⟩ | ⟨h1, h2, ⟨_, h3, h4⟩, _, _, _⟩
        · omega
        · omega
        · omega
        · have h6 := hm.1
          obtain ⟨B, off, rfl, hC⟩ := hR.2 (by omega)
          obtain ⟨m, rfl⟩ : ∃ m, n = m + 1 := ⟨n - 1, by omega⟩
          rw [Nat.add_sub_cancel] at h4
          by_cases hfar : 3652059 < X m + mo
          · exact iscales_far a b B off m cap X fq mo k w hL bf bm hk (by omega) (by omega) hR.1 hC hm h1.1 h1.2 h3 h2 h4 hfar
          · exact iscales_yes a b B off m cap X fq mo k w hL bf bm hk (by omega) (by omega) hR.1 hC hm h1.1 h1.2 h3 h2 h4 (by omega)
      · exact iscales_code a b ao n cap X fq mo k w hL bf bm hk hR (by omega) hm p q c hI hc
    · exact iscales_not a b ao n cap X fq mo k w hL bf bm hk hR (by omega) hm
end Go.Proofs.YtcplfgmajbadmaaDoor
