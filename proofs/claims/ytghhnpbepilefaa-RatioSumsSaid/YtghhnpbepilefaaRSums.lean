/- RatioSums: the walk. -/
import Derived.Test.YtghhnpbepilefaaRShown
import Derived.Test.YtghhnpbepilefaaRFew
import Derived.Test.YtghhnpbepilefaaRLawNum
namespace Go.Proofs.Ytghhnpbepilefaa
open Go.RowKit
set_option linter.unusedVariables false

set_option maxHeartbeats 1000000 in
set_option maxRecDepth 100000 in
theorem rsums_no1 (an ad bn bd cn cd : Int) (w : World) (ha : fewB an ad = false) :
    Calls Try.prog 8 #[.agg #[.int .i64 an, .int .i64 ad], .agg #[.int .i64 bn, .int .i64 bd], .agg #[.int .i64 cn, .int .i64 cd]] w fun e w' => e = .returned (.bool true) ∧ Below w.heap.size w w' := by
  have H := Held.start w
  have Ra := Lib.hid ha
  clear ha
  go_enter Try.func8, Try.ntmps8
  go_wp2_with fail
  replace H := (((H.pair (w.heap.size) (.int .i64 an) (.int .i64 ad) 23 rfl).pair (w.heap.size + 1) (.int .i64 bn) (.int .i64 bd) 23 (by simp)).pair (w.heap.size + 2) (.int .i64 cn) (.int .i64 cd) 23 (by simp))
  (with_reducible refine (rshown_any _).mono ?_)
  rintro e w1 ⟨rfl, hb⟩
  replace H := H.below hb
  clear hb
  have ca0 := H.cell (w.heap.size) 0 (.int .i64 an) (List.Mem.tail _ (List.Mem.tail _ (List.Mem.tail _ (List.Mem.tail _ (List.Mem.tail _ (List.Mem.tail _ (List.Mem.tail _ (List.Mem.tail _ (List.Mem.head _)))))))))
  have ca1 := H.cell (w.heap.size) 1 (.int .i64 ad) (List.Mem.tail _ (List.Mem.tail _ (List.Mem.tail _ (List.Mem.tail _ (List.Mem.tail _ (List.Mem.tail _ (List.Mem.tail _ (List.Mem.tail _ (List.Mem.tail _ (List.Mem.head _))))))))))
  have la := H.lt (w.heap.size) 0 (.int .i64 an) (List.Mem.tail _ (List.Mem.tail _ (List.Mem.tail _ (List.Mem.tail _ (List.Mem.tail _ (List.Mem.tail _ (List.Mem.tail _ (List.Mem.tail _ (List.Mem.head _)))))))))
  go_wp2_with fail
  clear ca0 ca1 la
  (with_reducible refine (few_is an ad false _ Ra.out).mono ?_)
  rintro e w2 ⟨rfl, hb⟩
  replace H := H.below hb
  clear hb
  go_wp2
  go_ret
  exact ⟨rfl, H.old⟩

set_option maxHeartbeats 1000000 in
set_option maxRecDepth 100000 in
theorem rsums_no2 (an ad bn bd cn cd : Int) (w : World) (ha : fewB an ad = true) (hb : fewB bn bd = false) :
    Calls Try.prog 8 #[.agg #[.int .i64 an, .int .i64 ad], .agg #[.int .i64 bn, .int .i64 bd], .agg #[.int .i64 cn, .int .i64 cd]] w fun e w' => e = .returned (.bool true) ∧ Below w.heap.size w w' := by
  have H := Held.start w
  have Ra := Lib.hid ha
  have Rb := Lib.hid hb
  clear ha hb
  go_enter Try.func8, Try.ntmps8
  go_wp2_with fail
  replace H := (((H.pair (w.heap.size) (.int .i64 an) (.int .i64 ad) 23 rfl).pair (w.heap.size + 1) (.int .i64 bn) (.int .i64 bd) 23 (by simp)).pair (w.heap.size + 2) (.int .i64 cn) (.int .i64 cd) 23 (by simp))
  (with_reducible refine (rshown_any _).mono ?_)
  rintro e w1 ⟨rfl, hb⟩
  replace H := H.below hb
  clear hb
  have ca0 := H.cell (w.heap.size) 0 (.int .i64 an) (List.Mem.tail _ (List.Mem.tail _ (List.Mem.tail _ (List.Mem.tail _ (List.Mem.tail _ (List.Mem.tail _ (List.Mem.tail _ (List.Mem.tail _ (List.Mem.head _)))))))))
  have ca1 := H.cell (w.heap.size) 1 (.int .i64 ad) (List.Mem.tail _ (List.Mem.tail _ (List.Mem.tail _ (List.Mem.tail _ (List.Mem.tail _ (List.Mem.tail _ (List.Mem.tail _ (List.Mem.tail _ (List.Mem.tail _ (List.Mem.head _))))))))))
  have la := H.lt (w.heap.size) 0 (.int .i64 an) (List.Mem.tail _ (List.Mem.tail _ (List.Mem.tail _ (List.Mem.tail _ (List.Mem.tail _ (List.Mem.tail _ (List.Mem.tail _ (List.Mem.tail _ (List.Mem.head _)))))))))
  go_wp2_with fail
  clear ca0 ca1 la
  (with_reducible refine (few_is an ad true _ Ra.out).mono ?_)
  rintro e w2 ⟨rfl, hb⟩
  replace H := H.below hb
  clear hb
  have cb0 := H.cell (w.heap.size + 1) 0 (.int .i64 bn) (List.Mem.tail _ (List.Mem.tail _ (List.Mem.tail _ (List.Mem.tail _ (List.Mem.head _)))))
  have cb1 := H.cell (w.heap.size + 1) 1 (.int .i64 bd) (List.Mem.tail _ (List.Mem.tail _ (List.Mem.tail _ (List.Mem.tail _ (List.Mem.tail _ (List.Mem.head _))))))
  have lb := H.lt (w.heap.size + 1) 0 (.int .i64 bn) (List.Mem.tail _ (List.Mem.tail _ (List.Mem.tail _ (List.Mem.tail _ (List.Mem.head _)))))
  go_wp2_with fail
  clear cb0 cb1 lb
  (with_reducible refine (few_is bn bd false _ Rb.out).mono ?_)
  rintro e w3 ⟨rfl, hb⟩
  replace H := H.below hb
  clear hb
  go_wp2
  go_ret
  exact ⟨rfl, H.old⟩

set_option maxHeartbeats 1000000 in
set_option maxRecDepth 100000 in
theorem rsums_no3 (an ad bn bd cn cd : Int) (w : World) (ha : fewB an ad = true) (hb : fewB bn bd = true) (hc : fewB cn cd = false) :
    Calls Try.prog 8 #[.agg #[.int .i64 an, .int .i64 ad], .agg #[.int .i64 bn, .int .i64 bd], .agg #[.int .i64 cn, .int .i64 cd]] w fun e w' => e = .returned (.bool true) ∧ Below w.heap.size w w' := by
  have H := Held.start w
  have Ra := Lib.hid ha
  have Rb := Lib.hid hb
  have Rc := Lib.hid hc
  clear ha hb hc
  go_enter Try.func8, Try.ntmps8
  go_wp2_with fail
  replace H := (((H.pair (w.heap.size) (.int .i64 an) (.int .i64 ad) 23 rfl).pair (w.heap.size + 1) (.int .i64 bn) (.int .i64 bd) 23 (by simp)).pair (w.heap.size + 2) (.int .i64 cn) (.int .i64 cd) 23 (by simp))
  (with_reducible refine (rshown_any _).mono ?_)
  rintro e w1 ⟨rfl, hb⟩
  replace H := H.below hb
  clear hb
  have ca0 := H.cell (w.heap.size) 0 (.int .i64 an) (List.Mem.tail _ (List.Mem.tail _ (List.Mem.tail _ (List.Mem.tail _ (List.Mem.tail _ (List.Mem.tail _ (List.Mem.tail _ (List.Mem.tail _ (List.Mem.head _)))))))))
  have ca1 := H.cell (w.heap.size) 1 (.int .i64 ad) (List.Mem.tail _ (List.Mem.tail _ (List.Mem.tail _ (List.Mem.tail _ (List.Mem.tail _ (List.Mem.tail _ (List.Mem.tail _ (List.Mem.tail _ (List.Mem.tail _ (List.Mem.head _))))))))))
  have la := H.lt (w.heap.size) 0 (.int .i64 an) (List.Mem.tail _ (List.Mem.tail _ (List.Mem.tail _ (List.Mem.tail _ (List.Mem.tail _ (List.Mem.tail _ (List.Mem.tail _ (List.Mem.tail _ (List.Mem.head _)))))))))
  go_wp2_with fail
  clear ca0 ca1 la
  (with_reducible refine (few_is an ad true _ Ra.out).mono ?_)
  rintro e w2 ⟨rfl, hb⟩
  replace H := H.below hb
  clear hb
  have cb0 := H.cell (w.heap.size + 1) 0 (.int .i64 bn) (List.Mem.tail _ (List.Mem.tail _ (List.Mem.tail _ (List.Mem.tail _ (List.Mem.head _)))))
  have cb1 := H.cell (w.heap.size + 1) 1 (.int .i64 bd) (List.Mem.tail _ (List.Mem.tail _ (List.Mem.tail _ (List.Mem.tail _ (List.Mem.tail _ (List.Mem.head _))))))
  have lb := H.lt (w.heap.size + 1) 0 (.int .i64 bn) (List.Mem.tail _ (List.Mem.tail _ (List.Mem.tail _ (List.Mem.tail _ (List.Mem.head _)))))
  go_wp2_with fail
  clear cb0 cb1 lb
  (with_reducible refine (few_is bn bd true _ Rb.out).mono ?_)
  rintro e w3 ⟨rfl, hb⟩
  replace H := H.below hb
  clear hb
  have cc0 := H.cell (w.heap.size + 2) 0 (.int .i64 cn) (List.Mem.head _)
  have cc1 := H.cell (w.heap.size + 2) 1 (.int .i64 cd) (List.Mem.tail _ (List.Mem.head _))
  have lc := H.lt (w.heap.size + 2) 0 (.int .i64 cn) (List.Mem.head _)
  go_wp2_with fail
  clear cc0 cc1 lc
  (with_reducible refine (few_is cn cd false _ Rc.out).mono ?_)
  rintro e w4 ⟨rfl, hb⟩
  replace H := H.below hb
  clear hb
  go_wp2
  go_ret
  exact ⟨rfl, H.old⟩

set_option maxHeartbeats 8000000 in
set_option maxRecDepth 100000 in
theorem rsums_yes (an ad bn bd cn cd : Int) (w : World) (ha : fewB an ad = true) (hb : fewB bn bd = true) (hc : fewB cn cd = true) :
    Calls Try.prog 8 #[.agg #[.int .i64 an, .int .i64 ad], .agg #[.int .i64 bn, .int .i64 bd], .agg #[.int .i64 cn, .int .i64 cd]] w fun e w' => e = .returned (.bool true) ∧ Below w.heap.size w w' := by
  have H := Held.start w
  obtain ⟨ra, ra1, ra2⟩ := (few_iff an ad).1 ha
  obtain ⟨rb, rb1, rb2⟩ := (few_iff bn bd).1 hb
  obtain ⟨rc, rc1, rc2⟩ := (few_iff cn cd).1 hc
  obtain ⟨un, ud, vn, vd, wn, wd, xn, xd, pn, pd, qn, qd, sn, sd, hu, hv, hw, ru, rv, rw', hx, hx2, hp, hq, rp, rq, hs, hs2, hk⟩ := sums_num ra rb rc ra1 ra2 rb1 rb2 rc1 rc2
  obtain ⟨a0, a1, a2, a3, -⟩ := (right_iff an ad).1 ra
  obtain ⟨b0, b1, b2, b3, -⟩ := (right_iff bn bd).1 rb
  obtain ⟨v0, v1, v2, v3, -⟩ := (right_iff vn vd).1 rv
  obtain ⟨z0, z1, z2, z3, -⟩ := (right_iff wn wd).1 rw'
  obtain ⟨k, HK⟩ : ∃ k, Hid (cmpI (an * bd) (bn * ad) = k) := ⟨_, Lib.hid rfl⟩
  rw [HK.out] at hk
  have HK2 := Lib.hid hk
  have FA := Lib.hid ha
  have FB := Lib.hid hb
  have FC := Lib.hid hc
  have RA := Lib.hid ra
  have RB := Lib.hid rb
  have RC := Lib.hid rc
  have RU := Lib.hid ru
  have RV := Lib.hid rv
  have RP := Lib.hid rp
  have RQ := Lib.hid rq
  have HU := Lib.hid hu
  have HV := Lib.hid hv
  have HW := Lib.hid hw
  have HX := Lib.hid hx
  have HX2 := Lib.hid hx2
  have HP := Lib.hid hp
  have HQ := Lib.hid hq
  have HS := Lib.hid hs
  have HS2 := Lib.hid hs2
  clear ha hb hc ra rb rc ru rv rw' rp rq hu hv hw hx hx2 hp hq hs hs2 hk ra1 ra2 rb1 rb2 rc1 rc2
  go_enter Try.func8, Try.ntmps8
  go_wp2_with fail
  replace H := (((H.pair (w.heap.size) (.int .i64 an) (.int .i64 ad) 23 rfl).pair (w.heap.size + 1) (.int .i64 bn) (.int .i64 bd) 23 (by simp)).pair (w.heap.size + 2) (.int .i64 cn) (.int .i64 cd) 23 (by simp))
  (with_reducible refine (rshown_any _).mono ?_)
  rintro e w1 ⟨rfl, hb⟩
  replace H := H.below hb
  clear hb
  have ca0 := H.cell (w.heap.size) 0 (.int .i64 an) (List.Mem.tail _ (List.Mem.tail _ (List.Mem.tail _ (List.Mem.tail _ (List.Mem.tail _ (List.Mem.tail _ (List.Mem.tail _ (List.Mem.tail _ (List.Mem.head _)))))))))
  have ca1 := H.cell (w.heap.size) 1 (.int .i64 ad) (List.Mem.tail _ (List.Mem.tail _ (List.Mem.tail _ (List.Mem.tail _ (List.Mem.tail _ (List.Mem.tail _ (List.Mem.tail _ (List.Mem.tail _ (List.Mem.tail _ (List.Mem.head _))))))))))
  have la := H.lt (w.heap.size) 0 (.int .i64 an) (List.Mem.tail _ (List.Mem.tail _ (List.Mem.tail _ (List.Mem.tail _ (List.Mem.tail _ (List.Mem.tail _ (List.Mem.tail _ (List.Mem.tail _ (List.Mem.head _)))))))))
  go_wp2_with fail
  clear ca0 ca1 la
  (with_reducible refine (few_is an ad true _ FA.out).mono ?_)
  rintro e w2 ⟨rfl, hb⟩
  replace H := H.below hb
  clear hb
  have cb0 := H.cell (w.heap.size + 1) 0 (.int .i64 bn) (List.Mem.tail _ (List.Mem.tail _ (List.Mem.tail _ (List.Mem.tail _ (List.Mem.head _)))))
  have cb1 := H.cell (w.heap.size + 1) 1 (.int .i64 bd) (List.Mem.tail _ (List.Mem.tail _ (List.Mem.tail _ (List.Mem.tail _ (List.Mem.tail _ (List.Mem.head _))))))
  have lb := H.lt (w.heap.size + 1) 0 (.int .i64 bn) (List.Mem.tail _ (List.Mem.tail _ (List.Mem.tail _ (List.Mem.tail _ (List.Mem.head _)))))
  go_wp2_with fail
  clear cb0 cb1 lb
  (with_reducible refine (few_is bn bd true _ FB.out).mono ?_)
  rintro e w3 ⟨rfl, hb⟩
  replace H := H.below hb
  clear hb
  have cc0 := H.cell (w.heap.size + 2) 0 (.int .i64 cn) (List.Mem.head _)
  have cc1 := H.cell (w.heap.size + 2) 1 (.int .i64 cd) (List.Mem.tail _ (List.Mem.head _))
  have lc := H.lt (w.heap.size + 2) 0 (.int .i64 cn) (List.Mem.head _)
  go_wp2_with fail
  clear cc0 cc1 lc
  (with_reducible refine (few_is cn cd true _ FC.out).mono ?_)
  rintro e w4 ⟨rfl, hb⟩
  replace H := H.below hb
  clear hb
  have ca0 := H.cell (w.heap.size) 0 (.int .i64 an) (List.Mem.tail _ (List.Mem.tail _ (List.Mem.tail _ (List.Mem.tail _ (List.Mem.tail _ (List.Mem.tail _ (List.Mem.tail _ (List.Mem.tail _ (List.Mem.head _)))))))))
  have ca1 := H.cell (w.heap.size) 1 (.int .i64 ad) (List.Mem.tail _ (List.Mem.tail _ (List.Mem.tail _ (List.Mem.tail _ (List.Mem.tail _ (List.Mem.tail _ (List.Mem.tail _ (List.Mem.tail _ (List.Mem.tail _ (List.Mem.head _))))))))))
  have la := H.lt (w.heap.size) 0 (.int .i64 an) (List.Mem.tail _ (List.Mem.tail _ (List.Mem.tail _ (List.Mem.tail _ (List.Mem.tail _ (List.Mem.tail _ (List.Mem.tail _ (List.Mem.tail _ (List.Mem.head _)))))))))
  have cb0 := H.cell (w.heap.size + 1) 0 (.int .i64 bn) (List.Mem.tail _ (List.Mem.tail _ (List.Mem.tail _ (List.Mem.tail _ (List.Mem.head _)))))
  have cb1 := H.cell (w.heap.size + 1) 1 (.int .i64 bd) (List.Mem.tail _ (List.Mem.tail _ (List.Mem.tail _ (List.Mem.tail _ (List.Mem.tail _ (List.Mem.head _))))))
  have lb := H.lt (w.heap.size + 1) 0 (.int .i64 bn) (List.Mem.tail _ (List.Mem.tail _ (List.Mem.tail _ (List.Mem.tail _ (List.Mem.head _)))))
  go_wp2_with fail
  clear ca0 ca1 la cb0 cb1 lb
  (with_reducible refine (radd_is an ad bn bd un ud 0 _ RA.out RB.out HU.out).mono ?_)
  rintro e w5 ⟨rfl, hb⟩
  replace H := H.below hb
  clear hb
  have cb0 := H.cell (w.heap.size + 1) 0 (.int .i64 bn) (List.Mem.tail _ (List.Mem.tail _ (List.Mem.tail _ (List.Mem.tail _ (List.Mem.head _)))))
  have cb1 := H.cell (w.heap.size + 1) 1 (.int .i64 bd) (List.Mem.tail _ (List.Mem.tail _ (List.Mem.tail _ (List.Mem.tail _ (List.Mem.tail _ (List.Mem.head _))))))
  have lb := H.lt (w.heap.size + 1) 0 (.int .i64 bn) (List.Mem.tail _ (List.Mem.tail _ (List.Mem.tail _ (List.Mem.tail _ (List.Mem.head _)))))
  have cc0 := H.cell (w.heap.size + 2) 0 (.int .i64 cn) (List.Mem.head _)
  have cc1 := H.cell (w.heap.size + 2) 1 (.int .i64 cd) (List.Mem.tail _ (List.Mem.head _))
  have lc := H.lt (w.heap.size + 2) 0 (.int .i64 cn) (List.Mem.head _)
  go_wp2_with fail
  clear cb0 cb1 lb cc0 cc1 lc
  replace H := (H.pair (w5.heap.size) (.int .i64 un) (.int .i64 ud) 23 rfl)
  (with_reducible refine (radd_is bn bd cn cd vn vd 0 _ RB.out RC.out HV.out).mono ?_)
  rintro e w6 ⟨rfl, hb⟩
  replace H := H.below hb
  clear hb
  have cu0 := H.cell (w5.heap.size) 0 (.int .i64 un) (List.Mem.head _)
  have cu1 := H.cell (w5.heap.size) 1 (.int .i64 ud) (List.Mem.tail _ (List.Mem.head _))
  have lu := H.lt (w5.heap.size) 0 (.int .i64 un) (List.Mem.head _)
  have cc0 := H.cell (w.heap.size + 2) 0 (.int .i64 cn) (List.Mem.tail _ (List.Mem.tail _ (List.Mem.tail _ (List.Mem.tail _ (List.Mem.head _)))))
  have cc1 := H.cell (w.heap.size + 2) 1 (.int .i64 cd) (List.Mem.tail _ (List.Mem.tail _ (List.Mem.tail _ (List.Mem.tail _ (List.Mem.tail _ (List.Mem.head _))))))
  have lc := H.lt (w.heap.size + 2) 0 (.int .i64 cn) (List.Mem.tail _ (List.Mem.tail _ (List.Mem.tail _ (List.Mem.tail _ (List.Mem.head _)))))
  go_wp2_with fail
  clear cu0 cu1 lu cc0 cc1 lc
  replace H := (H.pair (w6.heap.size) (.int .i64 vn) (.int .i64 vd) 23 rfl)
  (with_reducible refine (radd_is un ud cn cd xn xd 0 _ RU.out RC.out HX.out).mono ?_)
  rintro e w7 ⟨rfl, hb⟩
  replace H := H.below hb
  clear hb
  have ca0 := H.cell (w.heap.size) 0 (.int .i64 an) (List.Mem.tail _ (List.Mem.tail _ (List.Mem.tail _ (List.Mem.tail _ (List.Mem.tail _ (List.Mem.tail _ (List.Mem.tail _ (List.Mem.tail _ (List.Mem.tail _ (List.Mem.tail _ (List.Mem.tail _ (List.Mem.tail _ (List.Mem.tail _ (List.Mem.tail _ (List.Mem.tail _ (List.Mem.tail _ (List.Mem.head _)))))))))))))))))
  have ca1 := H.cell (w.heap.size) 1 (.int .i64 ad) (List.Mem.tail _ (List.Mem.tail _ (List.Mem.tail _ (List.Mem.tail _ (List.Mem.tail _ (List.Mem.tail _ (List.Mem.tail _ (List.Mem.tail _ (List.Mem.tail _ (List.Mem.tail _ (List.Mem.tail _ (List.Mem.tail _ (List.Mem.tail _ (List.Mem.tail _ (List.Mem.tail _ (List.Mem.tail _ (List.Mem.tail _ (List.Mem.head _))))))))))))))))))
  have la := H.lt (w.heap.size) 0 (.int .i64 an) (List.Mem.tail _ (List.Mem.tail _ (List.Mem.tail _ (List.Mem.tail _ (List.Mem.tail _ (List.Mem.tail _ (List.Mem.tail _ (List.Mem.tail _ (List.Mem.tail _ (List.Mem.tail _ (List.Mem.tail _ (List.Mem.tail _ (List.Mem.tail _ (List.Mem.tail _ (List.Mem.tail _ (List.Mem.tail _ (List.Mem.head _)))))))))))))))))
  have cv0 := H.cell (w6.heap.size) 0 (.int .i64 vn) (List.Mem.head _)
  have cv1 := H.cell (w6.heap.size) 1 (.int .i64 vd) (List.Mem.tail _ (List.Mem.head _))
  have lv := H.lt (w6.heap.size) 0 (.int .i64 vn) (List.Mem.head _)
  go_wp2_with fail
  clear ca0 ca1 la cv0 cv1 lv
  replace H := (H.pair (w7.heap.size) (.int .i64 xn) (.int .i64 xd) 23 rfl)
  (with_reducible refine (radd_is an ad vn vd xn xd 0 _ RA.out RV.out HX2.out).mono ?_)
  rintro e w8 ⟨rfl, hb⟩
  replace H := H.below hb
  clear hb
  have ca0 := H.cell (w.heap.size) 0 (.int .i64 an) (List.Mem.tail _ (List.Mem.tail _ (List.Mem.tail _ (List.Mem.tail _ (List.Mem.tail _ (List.Mem.tail _ (List.Mem.tail _ (List.Mem.tail _ (List.Mem.tail _ (List.Mem.tail _ (List.Mem.tail _ (List.Mem.tail _ (List.Mem.tail _ (List.Mem.tail _ (List.Mem.tail _ (List.Mem.tail _ (List.Mem.tail _ (List.Mem.tail _ (List.Mem.tail _ (List.Mem.tail _ (List.Mem.head _)))))))))))))))))))))
  have ca1 := H.cell (w.heap.size) 1 (.int .i64 ad) (List.Mem.tail _ (List.Mem.tail _ (List.Mem.tail _ (List.Mem.tail _ (List.Mem.tail _ (List.Mem.tail _ (List.Mem.tail _ (List.Mem.tail _ (List.Mem.tail _ (List.Mem.tail _ (List.Mem.tail _ (List.Mem.tail _ (List.Mem.tail _ (List.Mem.tail _ (List.Mem.tail _ (List.Mem.tail _ (List.Mem.tail _ (List.Mem.tail _ (List.Mem.tail _ (List.Mem.tail _ (List.Mem.tail _ (List.Mem.head _))))))))))))))))))))))
  have la := H.lt (w.heap.size) 0 (.int .i64 an) (List.Mem.tail _ (List.Mem.tail _ (List.Mem.tail _ (List.Mem.tail _ (List.Mem.tail _ (List.Mem.tail _ (List.Mem.tail _ (List.Mem.tail _ (List.Mem.tail _ (List.Mem.tail _ (List.Mem.tail _ (List.Mem.tail _ (List.Mem.tail _ (List.Mem.tail _ (List.Mem.tail _ (List.Mem.tail _ (List.Mem.tail _ (List.Mem.tail _ (List.Mem.tail _ (List.Mem.tail _ (List.Mem.head _)))))))))))))))))))))
  have cc0 := H.cell (w.heap.size + 2) 0 (.int .i64 cn) (List.Mem.tail _ (List.Mem.tail _ (List.Mem.tail _ (List.Mem.tail _ (List.Mem.tail _ (List.Mem.tail _ (List.Mem.tail _ (List.Mem.tail _ (List.Mem.tail _ (List.Mem.tail _ (List.Mem.tail _ (List.Mem.tail _ (List.Mem.head _)))))))))))))
  have cc1 := H.cell (w.heap.size + 2) 1 (.int .i64 cd) (List.Mem.tail _ (List.Mem.tail _ (List.Mem.tail _ (List.Mem.tail _ (List.Mem.tail _ (List.Mem.tail _ (List.Mem.tail _ (List.Mem.tail _ (List.Mem.tail _ (List.Mem.tail _ (List.Mem.tail _ (List.Mem.tail _ (List.Mem.tail _ (List.Mem.head _))))))))))))))
  have lc := H.lt (w.heap.size + 2) 0 (.int .i64 cn) (List.Mem.tail _ (List.Mem.tail _ (List.Mem.tail _ (List.Mem.tail _ (List.Mem.tail _ (List.Mem.tail _ (List.Mem.tail _ (List.Mem.tail _ (List.Mem.tail _ (List.Mem.tail _ (List.Mem.tail _ (List.Mem.tail _ (List.Mem.head _)))))))))))))
  go_wp2_with fail
  clear ca0 ca1 la cc0 cc1 lc
  replace H := (H.pair (w8.heap.size) (.int .i64 xn) (.int .i64 xd) 23 rfl)
  (with_reducible refine (rmul_is an ad cn cd pn pd 0 _ RA.out RC.out HP.out).mono ?_)
  rintro e w9 ⟨rfl, hb⟩
  replace H := H.below hb
  clear hb
  have cb0 := H.cell (w.heap.size + 1) 0 (.int .i64 bn) (List.Mem.tail _ (List.Mem.tail _ (List.Mem.tail _ (List.Mem.tail _ (List.Mem.tail _ (List.Mem.tail _ (List.Mem.tail _ (List.Mem.tail _ (List.Mem.tail _ (List.Mem.tail _ (List.Mem.tail _ (List.Mem.tail _ (List.Mem.tail _ (List.Mem.tail _ (List.Mem.tail _ (List.Mem.tail _ (List.Mem.tail _ (List.Mem.tail _ (List.Mem.tail _ (List.Mem.tail _ (List.Mem.head _)))))))))))))))))))))
  have cb1 := H.cell (w.heap.size + 1) 1 (.int .i64 bd) (List.Mem.tail _ (List.Mem.tail _ (List.Mem.tail _ (List.Mem.tail _ (List.Mem.tail _ (List.Mem.tail _ (List.Mem.tail _ (List.Mem.tail _ (List.Mem.tail _ (List.Mem.tail _ (List.Mem.tail _ (List.Mem.tail _ (List.Mem.tail _ (List.Mem.tail _ (List.Mem.tail _ (List.Mem.tail _ (List.Mem.tail _ (List.Mem.tail _ (List.Mem.tail _ (List.Mem.tail _ (List.Mem.tail _ (List.Mem.head _))))))))))))))))))))))
  have lb := H.lt (w.heap.size + 1) 0 (.int .i64 bn) (List.Mem.tail _ (List.Mem.tail _ (List.Mem.tail _ (List.Mem.tail _ (List.Mem.tail _ (List.Mem.tail _ (List.Mem.tail _ (List.Mem.tail _ (List.Mem.tail _ (List.Mem.tail _ (List.Mem.tail _ (List.Mem.tail _ (List.Mem.tail _ (List.Mem.tail _ (List.Mem.tail _ (List.Mem.tail _ (List.Mem.tail _ (List.Mem.tail _ (List.Mem.tail _ (List.Mem.tail _ (List.Mem.head _)))))))))))))))))))))
  have cc0 := H.cell (w.heap.size + 2) 0 (.int .i64 cn) (List.Mem.tail _ (List.Mem.tail _ (List.Mem.tail _ (List.Mem.tail _ (List.Mem.tail _ (List.Mem.tail _ (List.Mem.tail _ (List.Mem.tail _ (List.Mem.tail _ (List.Mem.tail _ (List.Mem.tail _ (List.Mem.tail _ (List.Mem.tail _ (List.Mem.tail _ (List.Mem.tail _ (List.Mem.tail _ (List.Mem.head _)))))))))))))))))
  have cc1 := H.cell (w.heap.size + 2) 1 (.int .i64 cd) (List.Mem.tail _ (List.Mem.tail _ (List.Mem.tail _ (List.Mem.tail _ (List.Mem.tail _ (List.Mem.tail _ (List.Mem.tail _ (List.Mem.tail _ (List.Mem.tail _ (List.Mem.tail _ (List.Mem.tail _ (List.Mem.tail _ (List.Mem.tail _ (List.Mem.tail _ (List.Mem.tail _ (List.Mem.tail _ (List.Mem.tail _ (List.Mem.head _))))))))))))))))))
  have lc := H.lt (w.heap.size + 2) 0 (.int .i64 cn) (List.Mem.tail _ (List.Mem.tail _ (List.Mem.tail _ (List.Mem.tail _ (List.Mem.tail _ (List.Mem.tail _ (List.Mem.tail _ (List.Mem.tail _ (List.Mem.tail _ (List.Mem.tail _ (List.Mem.tail _ (List.Mem.tail _ (List.Mem.tail _ (List.Mem.tail _ (List.Mem.tail _ (List.Mem.tail _ (List.Mem.head _)))))))))))))))))
  go_wp2_with fail
  clear cb0 cb1 lb cc0 cc1 lc
  replace H := (H.pair (w9.heap.size) (.int .i64 pn) (.int .i64 pd) 23 rfl)
  (with_reducible refine (rmul_is bn bd cn cd qn qd 0 _ RB.out RC.out HQ.out).mono ?_)
  rintro e w10 ⟨rfl, hb⟩
  replace H := H.below hb
  clear hb
  have cp0 := H.cell (w9.heap.size) 0 (.int .i64 pn) (List.Mem.head _)
  have cp1 := H.cell (w9.heap.size) 1 (.int .i64 pd) (List.Mem.tail _ (List.Mem.head _))
  have lp := H.lt (w9.heap.size) 0 (.int .i64 pn) (List.Mem.head _)
  go_wp2_with fail
  clear cp0 cp1 lp
  replace H := (H.pair (w10.heap.size) (.int .i64 qn) (.int .i64 qd) 23 rfl)
  (with_reducible refine (radd_is pn pd qn qd sn sd 0 _ RP.out RQ.out HS.out).mono ?_)
  rintro e w11 ⟨rfl, hb⟩
  replace H := H.below hb
  clear hb
  have cu0 := H.cell (w5.heap.size) 0 (.int .i64 un) (List.Mem.tail _ (List.Mem.tail _ (List.Mem.tail _ (List.Mem.tail _ (List.Mem.tail _ (List.Mem.tail _ (List.Mem.tail _ (List.Mem.tail _ (List.Mem.tail _ (List.Mem.tail _ (List.Mem.tail _ (List.Mem.tail _ (List.Mem.tail _ (List.Mem.tail _ (List.Mem.tail _ (List.Mem.tail _ (List.Mem.tail _ (List.Mem.tail _ (List.Mem.tail _ (List.Mem.tail _ (List.Mem.head _)))))))))))))))))))))
  have cu1 := H.cell (w5.heap.size) 1 (.int .i64 ud) (List.Mem.tail _ (List.Mem.tail _ (List.Mem.tail _ (List.Mem.tail _ (List.Mem.tail _ (List.Mem.tail _ (List.Mem.tail _ (List.Mem.tail _ (List.Mem.tail _ (List.Mem.tail _ (List.Mem.tail _ (List.Mem.tail _ (List.Mem.tail _ (List.Mem.tail _ (List.Mem.tail _ (List.Mem.tail _ (List.Mem.tail _ (List.Mem.tail _ (List.Mem.tail _ (List.Mem.tail _ (List.Mem.tail _ (List.Mem.head _))))))))))))))))))))))
  have lu := H.lt (w5.heap.size) 0 (.int .i64 un) (List.Mem.tail _ (List.Mem.tail _ (List.Mem.tail _ (List.Mem.tail _ (List.Mem.tail _ (List.Mem.tail _ (List.Mem.tail _ (List.Mem.tail _ (List.Mem.tail _ (List.Mem.tail _ (List.Mem.tail _ (List.Mem.tail _ (List.Mem.tail _ (List.Mem.tail _ (List.Mem.tail _ (List.Mem.tail _ (List.Mem.tail _ (List.Mem.tail _ (List.Mem.tail _ (List.Mem.tail _ (List.Mem.head _)))))))))))))))))))))
  have cc0 := H.cell (w.heap.size + 2) 0 (.int .i64 cn) (List.Mem.tail _ (List.Mem.tail _ (List.Mem.tail _ (List.Mem.tail _ (List.Mem.tail _ (List.Mem.tail _ (List.Mem.tail _ (List.Mem.tail _ (List.Mem.tail _ (List.Mem.tail _ (List.Mem.tail _ (List.Mem.tail _ (List.Mem.tail _ (List.Mem.tail _ (List.Mem.tail _ (List.Mem.tail _ (List.Mem.tail _ (List.Mem.tail _ (List.Mem.tail _ (List.Mem.tail _ (List.Mem.tail _ (List.Mem.tail _ (List.Mem.tail _ (List.Mem.tail _ (List.Mem.head _)))))))))))))))))))))))))
  have cc1 := H.cell (w.heap.size + 2) 1 (.int .i64 cd) (List.Mem.tail _ (List.Mem.tail _ (List.Mem.tail _ (List.Mem.tail _ (List.Mem.tail _ (List.Mem.tail _ (List.Mem.tail _ (List.Mem.tail _ (List.Mem.tail _ (List.Mem.tail _ (List.Mem.tail _ (List.Mem.tail _ (List.Mem.tail _ (List.Mem.tail _ (List.Mem.tail _ (List.Mem.tail _ (List.Mem.tail _ (List.Mem.tail _ (List.Mem.tail _ (List.Mem.tail _ (List.Mem.tail _ (List.Mem.tail _ (List.Mem.tail _ (List.Mem.tail _ (List.Mem.tail _ (List.Mem.head _))))))))))))))))))))))))))
  have lc := H.lt (w.heap.size + 2) 0 (.int .i64 cn) (List.Mem.tail _ (List.Mem.tail _ (List.Mem.tail _ (List.Mem.tail _ (List.Mem.tail _ (List.Mem.tail _ (List.Mem.tail _ (List.Mem.tail _ (List.Mem.tail _ (List.Mem.tail _ (List.Mem.tail _ (List.Mem.tail _ (List.Mem.tail _ (List.Mem.tail _ (List.Mem.tail _ (List.Mem.tail _ (List.Mem.tail _ (List.Mem.tail _ (List.Mem.tail _ (List.Mem.tail _ (List.Mem.tail _ (List.Mem.tail _ (List.Mem.tail _ (List.Mem.tail _ (List.Mem.head _)))))))))))))))))))))))))
  go_wp2_with fail
  clear cu0 cu1 lu cc0 cc1 lc
  replace H := (H.pair (w11.heap.size) (.int .i64 sn) (.int .i64 sd) 23 rfl)
  (with_reducible refine (rmul_is un ud cn cd sn sd 0 _ RU.out RC.out HS2.out).mono ?_)
  rintro e w12 ⟨rfl, hb⟩
  replace H := H.below hb
  clear hb
  have ca0 := H.cell (w.heap.size) 0 (.int .i64 an) (List.Mem.tail _ (List.Mem.tail _ (List.Mem.tail _ (List.Mem.tail _ (List.Mem.tail _ (List.Mem.tail _ (List.Mem.tail _ (List.Mem.tail _ (List.Mem.tail _ (List.Mem.tail _ (List.Mem.tail _ (List.Mem.tail _ (List.Mem.tail _ (List.Mem.tail _ (List.Mem.tail _ (List.Mem.tail _ (List.Mem.tail _ (List.Mem.tail _ (List.Mem.tail _ (List.Mem.tail _ (List.Mem.tail _ (List.Mem.tail _ (List.Mem.tail _ (List.Mem.tail _ (List.Mem.tail _ (List.Mem.tail _ (List.Mem.tail _ (List.Mem.tail _ (List.Mem.tail _ (List.Mem.tail _ (List.Mem.tail _ (List.Mem.tail _ (List.Mem.tail _ (List.Mem.tail _ (List.Mem.tail _ (List.Mem.tail _ (List.Mem.head _)))))))))))))))))))))))))))))))))))))
  have ca1 := H.cell (w.heap.size) 1 (.int .i64 ad) (List.Mem.tail _ (List.Mem.tail _ (List.Mem.tail _ (List.Mem.tail _ (List.Mem.tail _ (List.Mem.tail _ (List.Mem.tail _ (List.Mem.tail _ (List.Mem.tail _ (List.Mem.tail _ (List.Mem.tail _ (List.Mem.tail _ (List.Mem.tail _ (List.Mem.tail _ (List.Mem.tail _ (List.Mem.tail _ (List.Mem.tail _ (List.Mem.tail _ (List.Mem.tail _ (List.Mem.tail _ (List.Mem.tail _ (List.Mem.tail _ (List.Mem.tail _ (List.Mem.tail _ (List.Mem.tail _ (List.Mem.tail _ (List.Mem.tail _ (List.Mem.tail _ (List.Mem.tail _ (List.Mem.tail _ (List.Mem.tail _ (List.Mem.tail _ (List.Mem.tail _ (List.Mem.tail _ (List.Mem.tail _ (List.Mem.tail _ (List.Mem.tail _ (List.Mem.head _))))))))))))))))))))))))))))))))))))))
  have la := H.lt (w.heap.size) 0 (.int .i64 an) (List.Mem.tail _ (List.Mem.tail _ (List.Mem.tail _ (List.Mem.tail _ (List.Mem.tail _ (List.Mem.tail _ (List.Mem.tail _ (List.Mem.tail _ (List.Mem.tail _ (List.Mem.tail _ (List.Mem.tail _ (List.Mem.tail _ (List.Mem.tail _ (List.Mem.tail _ (List.Mem.tail _ (List.Mem.tail _ (List.Mem.tail _ (List.Mem.tail _ (List.Mem.tail _ (List.Mem.tail _ (List.Mem.tail _ (List.Mem.tail _ (List.Mem.tail _ (List.Mem.tail _ (List.Mem.tail _ (List.Mem.tail _ (List.Mem.tail _ (List.Mem.tail _ (List.Mem.tail _ (List.Mem.tail _ (List.Mem.tail _ (List.Mem.tail _ (List.Mem.tail _ (List.Mem.tail _ (List.Mem.tail _ (List.Mem.tail _ (List.Mem.head _)))))))))))))))))))))))))))))))))))))
  have cc0 := H.cell (w.heap.size + 2) 0 (.int .i64 cn) (List.Mem.tail _ (List.Mem.tail _ (List.Mem.tail _ (List.Mem.tail _ (List.Mem.tail _ (List.Mem.tail _ (List.Mem.tail _ (List.Mem.tail _ (List.Mem.tail _ (List.Mem.tail _ (List.Mem.tail _ (List.Mem.tail _ (List.Mem.tail _ (List.Mem.tail _ (List.Mem.tail _ (List.Mem.tail _ (List.Mem.tail _ (List.Mem.tail _ (List.Mem.tail _ (List.Mem.tail _ (List.Mem.tail _ (List.Mem.tail _ (List.Mem.tail _ (List.Mem.tail _ (List.Mem.tail _ (List.Mem.tail _ (List.Mem.tail _ (List.Mem.tail _ (List.Mem.head _)))))))))))))))))))))))))))))
  have cc1 := H.cell (w.heap.size + 2) 1 (.int .i64 cd) (List.Mem.tail _ (List.Mem.tail _ (List.Mem.tail _ (List.Mem.tail _ (List.Mem.tail _ (List.Mem.tail _ (List.Mem.tail _ (List.Mem.tail _ (List.Mem.tail _ (List.Mem.tail _ (List.Mem.tail _ (List.Mem.tail _ (List.Mem.tail _ (List.Mem.tail _ (List.Mem.tail _ (List.Mem.tail _ (List.Mem.tail _ (List.Mem.tail _ (List.Mem.tail _ (List.Mem.tail _ (List.Mem.tail _ (List.Mem.tail _ (List.Mem.tail _ (List.Mem.tail _ (List.Mem.tail _ (List.Mem.tail _ (List.Mem.tail _ (List.Mem.tail _ (List.Mem.tail _ (List.Mem.head _))))))))))))))))))))))))))))))
  have lc := H.lt (w.heap.size + 2) 0 (.int .i64 cn) (List.Mem.tail _ (List.Mem.tail _ (List.Mem.tail _ (List.Mem.tail _ (List.Mem.tail _ (List.Mem.tail _ (List.Mem.tail _ (List.Mem.tail _ (List.Mem.tail _ (List.Mem.tail _ (List.Mem.tail _ (List.Mem.tail _ (List.Mem.tail _ (List.Mem.tail _ (List.Mem.tail _ (List.Mem.tail _ (List.Mem.tail _ (List.Mem.tail _ (List.Mem.tail _ (List.Mem.tail _ (List.Mem.tail _ (List.Mem.tail _ (List.Mem.tail _ (List.Mem.tail _ (List.Mem.tail _ (List.Mem.tail _ (List.Mem.tail _ (List.Mem.tail _ (List.Mem.head _)))))))))))))))))))))))))))))
  go_wp2_with fail
  clear ca0 ca1 la cc0 cc1 lc
  replace H := (H.pair (w12.heap.size) (.int .i64 sn) (.int .i64 sd) 23 rfl)
  (with_reducible refine (radd_is an ad cn cd wn wd 0 _ RA.out RC.out HW.out).mono ?_)
  rintro e w13 ⟨rfl, hb⟩
  replace H := H.below hb
  clear hb
  go_wp2_with fail
  replace H := (H.pair (w13.heap.size) (.int .i64 wn) (.int .i64 wd) 23 rfl)
  have KSZ : Hid (∀ w' : World, Held w [.cell (w13.heap.size) 0 (.int .i64 wn), .cell (w13.heap.size) 1 (.int .i64 wd), .free (w13.heap.size) 0, .free (w13.heap.size) 1, .cell (w12.heap.size) 0 (.int .i64 sn), .cell (w12.heap.size) 1 (.int .i64 sd), .free (w12.heap.size) 0, .free (w12.heap.size) 1, .cell (w11.heap.size) 0 (.int .i64 sn), .cell (w11.heap.size) 1 (.int .i64 sd), .free (w11.heap.size) 0, .free (w11.heap.size) 1, .cell (w10.heap.size) 0 (.int .i64 qn), .cell (w10.heap.size) 1 (.int .i64 qd), .free (w10.heap.size) 0, .free (w10.heap.size) 1, .cell (w9.heap.size) 0 (.int .i64 pn), .cell (w9.heap.size) 1 (.int .i64 pd), .free (w9.heap.size) 0, .free (w9.heap.size) 1, .cell (w8.heap.size) 0 (.int .i64 xn), .cell (w8.heap.size) 1 (.int .i64 xd), .free (w8.heap.size) 0, .free (w8.heap.size) 1, .cell (w7.heap.size) 0 (.int .i64 xn), .cell (w7.heap.size) 1 (.int .i64 xd), .free (w7.heap.size) 0, .free (w7.heap.size) 1, .cell (w6.heap.size) 0 (.int .i64 vn), .cell (w6.heap.size) 1 (.int .i64 vd), .free (w6.heap.size) 0, .free (w6.heap.size) 1, .cell (w5.heap.size) 0 (.int .i64 un), .cell (w5.heap.size) 1 (.int .i64 ud), .free (w5.heap.size) 0, .free (w5.heap.size) 1, .cell (w.heap.size + 2) 0 (.int .i64 cn), .cell (w.heap.size + 2) 1 (.int .i64 cd), .free (w.heap.size + 2) 0, .free (w.heap.size + 2) 1, .cell (w.heap.size + 1) 0 (.int .i64 bn), .cell (w.heap.size + 1) 1 (.int .i64 bd), .free (w.heap.size + 1) 0, .free (w.heap.size + 1) 1, .cell (w.heap.size) 0 (.int .i64 an), .cell (w.heap.size) 1 (.int .i64 ad), .free (w.heap.size) 0, .free (w.heap.size) 1] w' → w'.cell? ⟨w7.heap.size, 0, none⟩ = some (.int .i64 xn) ∧ w'.cell? ⟨w7.heap.size, 1, none⟩ = some (.int .i64 xd) ∧ w'.cell? ⟨w8.heap.size, 0, none⟩ = some (.int .i64 xn) ∧ w'.cell? ⟨w8.heap.size, 1, none⟩ = some (.int .i64 xd) ∧ w'.cell? ⟨w11.heap.size, 0, none⟩ = some (.int .i64 sn) ∧ w'.cell? ⟨w11.heap.size, 1, none⟩ = some (.int .i64 sd) ∧ w'.cell? ⟨w12.heap.size, 0, none⟩ = some (.int .i64 sn) ∧ w'.cell? ⟨w12.heap.size, 1, none⟩ = some (.int .i64 sd) ∧ w'.cell? ⟨w13.heap.size, 0, none⟩ = some (.int .i64 wn) ∧ w'.cell? ⟨w13.heap.size, 1, none⟩ = some (.int .i64 wd) ∧ w'.cell? ⟨w6.heap.size, 0, none⟩ = some (.int .i64 vn) ∧ w'.cell? ⟨w6.heap.size, 1, none⟩ = some (.int .i64 vd) ∧ w'.cell? ⟨w.heap.size, 0, none⟩ = some (.int .i64 an) ∧ w'.cell? ⟨w.heap.size, 1, none⟩ = some (.int .i64 ad) ∧ w'.cell? ⟨w.heap.size + 1, 0, none⟩ = some (.int .i64 bn) ∧ w'.cell? ⟨w.heap.size + 1, 1, none⟩ = some (.int .i64 bd) ∧ Held w [.cell (w13.heap.size) 0 (.int .i64 wn), .cell (w13.heap.size) 1 (.int .i64 wd), .free (w13.heap.size) 0, .free (w13.heap.size) 1, .cell (w12.heap.size) 0 (.int .i64 sn), .cell (w12.heap.size) 1 (.int .i64 sd), .free (w12.heap.size) 0, .free (w12.heap.size) 1, .cell (w11.heap.size) 0 (.int .i64 sn), .cell (w11.heap.size) 1 (.int .i64 sd), .free (w11.heap.size) 0, .free (w11.heap.size) 1, .cell (w10.heap.size) 0 (.int .i64 qn), .cell (w10.heap.size) 1 (.int .i64 qd), .free (w10.heap.size) 0, .free (w10.heap.size) 1, .cell (w9.heap.size) 0 (.int .i64 pn), .cell (w9.heap.size) 1 (.int .i64 pd), .free (w9.heap.size) 0, .free (w9.heap.size) 1, .cell (w8.heap.size) 0 (.int .i64 xn), .cell (w8.heap.size) 1 (.int .i64 xd), .free (w8.heap.size) 0, .free (w8.heap.size) 1, .cell (w7.heap.size) 0 (.int .i64 xn), .cell (w7.heap.size) 1 (.int .i64 xd), .free (w7.heap.size) 0, .free (w7.heap.size) 1, .cell (w6.heap.size) 0 (.int .i64 vn), .cell (w6.heap.size) 1 (.int .i64 vd), .free (w6.heap.size) 0, .free (w6.heap.size) 1, .cell (w5.heap.size) 0 (.int .i64 un), .cell (w5.heap.size) 1 (.int .i64 ud), .free (w5.heap.size) 0, .free (w5.heap.size) 1, .cell (w.heap.size + 2) 0 (.int .i64 cn), .cell (w.heap.size + 2) 1 (.int .i64 cd), .free (w.heap.size + 2) 0, .free (w.heap.size + 2) 1, .cell (w.heap.size + 1) 0 (.int .i64 bn), .cell (w.heap.size + 1) 1 (.int .i64 bd), .free (w.heap.size + 1) 0, .free (w.heap.size + 1) 1, .cell (w.heap.size) 0 (.int .i64 an), .cell (w.heap.size) 1 (.int .i64 ad), .free (w.heap.size) 0, .free (w.heap.size) 1] w') := Lib.hid (fun _ h => ⟨h.cell (w7.heap.size) 0 (.int .i64 xn) (List.Mem.tail _ (List.Mem.tail _ (List.Mem.tail _ (List.Mem.tail _ (List.Mem.tail _ (List.Mem.tail _ (List.Mem.tail _ (List.Mem.tail _ (List.Mem.tail _ (List.Mem.tail _ (List.Mem.tail _ (List.Mem.tail _ (List.Mem.tail _ (List.Mem.tail _ (List.Mem.tail _ (List.Mem.tail _ (List.Mem.tail _ (List.Mem.tail _ (List.Mem.tail _ (List.Mem.tail _ (List.Mem.tail _ (List.Mem.tail _ (List.Mem.tail _ (List.Mem.tail _ (List.Mem.head _))))))))))))))))))))))))), h.cell (w7.heap.size) 1 (.int .i64 xd) (List.Mem.tail _ (List.Mem.tail _ (List.Mem.tail _ (List.Mem.tail _ (List.Mem.tail _ (List.Mem.tail _ (List.Mem.tail _ (List.Mem.tail _ (List.Mem.tail _ (List.Mem.tail _ (List.Mem.tail _ (List.Mem.tail _ (List.Mem.tail _ (List.Mem.tail _ (List.Mem.tail _ (List.Mem.tail _ (List.Mem.tail _ (List.Mem.tail _ (List.Mem.tail _ (List.Mem.tail _ (List.Mem.tail _ (List.Mem.tail _ (List.Mem.tail _ (List.Mem.tail _ (List.Mem.tail _ (List.Mem.head _)))))))))))))))))))))))))), h.cell (w8.heap.size) 0 (.int .i64 xn) (List.Mem.tail _ (List.Mem.tail _ (List.Mem.tail _ (List.Mem.tail _ (List.Mem.tail _ (List.Mem.tail _ (List.Mem.tail _ (List.Mem.tail _ (List.Mem.tail _ (List.Mem.tail _ (List.Mem.tail _ (List.Mem.tail _ (List.Mem.tail _ (List.Mem.tail _ (List.Mem.tail _ (List.Mem.tail _ (List.Mem.tail _ (List.Mem.tail _ (List.Mem.tail _ (List.Mem.tail _ (List.Mem.head _))))))))))))))))))))), h.cell (w8.heap.size) 1 (.int .i64 xd) (List.Mem.tail _ (List.Mem.tail _ (List.Mem.tail _ (List.Mem.tail _ (List.Mem.tail _ (List.Mem.tail _ (List.Mem.tail _ (List.Mem.tail _ (List.Mem.tail _ (List.Mem.tail _ (List.Mem.tail _ (List.Mem.tail _ (List.Mem.tail _ (List.Mem.tail _ (List.Mem.tail _ (List.Mem.tail _ (List.Mem.tail _ (List.Mem.tail _ (List.Mem.tail _ (List.Mem.tail _ (List.Mem.tail _ (List.Mem.head _)))))))))))))))))))))), h.cell (w11.heap.size) 0 (.int .i64 sn) (List.Mem.tail _ (List.Mem.tail _ (List.Mem.tail _ (List.Mem.tail _ (List.Mem.tail _ (List.Mem.tail _ (List.Mem.tail _ (List.Mem.tail _ (List.Mem.head _))))))))), h.cell (w11.heap.size) 1 (.int .i64 sd) (List.Mem.tail _ (List.Mem.tail _ (List.Mem.tail _ (List.Mem.tail _ (List.Mem.tail _ (List.Mem.tail _ (List.Mem.tail _ (List.Mem.tail _ (List.Mem.tail _ (List.Mem.head _)))))))))), h.cell (w12.heap.size) 0 (.int .i64 sn) (List.Mem.tail _ (List.Mem.tail _ (List.Mem.tail _ (List.Mem.tail _ (List.Mem.head _))))), h.cell (w12.heap.size) 1 (.int .i64 sd) (List.Mem.tail _ (List.Mem.tail _ (List.Mem.tail _ (List.Mem.tail _ (List.Mem.tail _ (List.Mem.head _)))))), h.cell (w13.heap.size) 0 (.int .i64 wn) (List.Mem.head _), h.cell (w13.heap.size) 1 (.int .i64 wd) (List.Mem.tail _ (List.Mem.head _)), h.cell (w6.heap.size) 0 (.int .i64 vn) (List.Mem.tail _ (List.Mem.tail _ (List.Mem.tail _ (List.Mem.tail _ (List.Mem.tail _ (List.Mem.tail _ (List.Mem.tail _ (List.Mem.tail _ (List.Mem.tail _ (List.Mem.tail _ (List.Mem.tail _ (List.Mem.tail _ (List.Mem.tail _ (List.Mem.tail _ (List.Mem.tail _ (List.Mem.tail _ (List.Mem.tail _ (List.Mem.tail _ (List.Mem.tail _ (List.Mem.tail _ (List.Mem.tail _ (List.Mem.tail _ (List.Mem.tail _ (List.Mem.tail _ (List.Mem.tail _ (List.Mem.tail _ (List.Mem.tail _ (List.Mem.tail _ (List.Mem.head _))))))))))))))))))))))))))))), h.cell (w6.heap.size) 1 (.int .i64 vd) (List.Mem.tail _ (List.Mem.tail _ (List.Mem.tail _ (List.Mem.tail _ (List.Mem.tail _ (List.Mem.tail _ (List.Mem.tail _ (List.Mem.tail _ (List.Mem.tail _ (List.Mem.tail _ (List.Mem.tail _ (List.Mem.tail _ (List.Mem.tail _ (List.Mem.tail _ (List.Mem.tail _ (List.Mem.tail _ (List.Mem.tail _ (List.Mem.tail _ (List.Mem.tail _ (List.Mem.tail _ (List.Mem.tail _ (List.Mem.tail _ (List.Mem.tail _ (List.Mem.tail _ (List.Mem.tail _ (List.Mem.tail _ (List.Mem.tail _ (List.Mem.tail _ (List.Mem.tail _ (List.Mem.head _)))))))))))))))))))))))))))))), h.cell (w.heap.size) 0 (.int .i64 an) (List.Mem.tail _ (List.Mem.tail _ (List.Mem.tail _ (List.Mem.tail _ (List.Mem.tail _ (List.Mem.tail _ (List.Mem.tail _ (List.Mem.tail _ (List.Mem.tail _ (List.Mem.tail _ (List.Mem.tail _ (List.Mem.tail _ (List.Mem.tail _ (List.Mem.tail _ (List.Mem.tail _ (List.Mem.tail _ (List.Mem.tail _ (List.Mem.tail _ (List.Mem.tail _ (List.Mem.tail _ (List.Mem.tail _ (List.Mem.tail _ (List.Mem.tail _ (List.Mem.tail _ (List.Mem.tail _ (List.Mem.tail _ (List.Mem.tail _ (List.Mem.tail _ (List.Mem.tail _ (List.Mem.tail _ (List.Mem.tail _ (List.Mem.tail _ (List.Mem.tail _ (List.Mem.tail _ (List.Mem.tail _ (List.Mem.tail _ (List.Mem.tail _ (List.Mem.tail _ (List.Mem.tail _ (List.Mem.tail _ (List.Mem.tail _ (List.Mem.tail _ (List.Mem.tail _ (List.Mem.tail _ (List.Mem.head _))))))))))))))))))))))))))))))))))))))))))))), h.cell (w.heap.size) 1 (.int .i64 ad) (List.Mem.tail _ (List.Mem.tail _ (List.Mem.tail _ (List.Mem.tail _ (List.Mem.tail _ (List.Mem.tail _ (List.Mem.tail _ (List.Mem.tail _ (List.Mem.tail _ (List.Mem.tail _ (List.Mem.tail _ (List.Mem.tail _ (List.Mem.tail _ (List.Mem.tail _ (List.Mem.tail _ (List.Mem.tail _ (List.Mem.tail _ (List.Mem.tail _ (List.Mem.tail _ (List.Mem.tail _ (List.Mem.tail _ (List.Mem.tail _ (List.Mem.tail _ (List.Mem.tail _ (List.Mem.tail _ (List.Mem.tail _ (List.Mem.tail _ (List.Mem.tail _ (List.Mem.tail _ (List.Mem.tail _ (List.Mem.tail _ (List.Mem.tail _ (List.Mem.tail _ (List.Mem.tail _ (List.Mem.tail _ (List.Mem.tail _ (List.Mem.tail _ (List.Mem.tail _ (List.Mem.tail _ (List.Mem.tail _ (List.Mem.tail _ (List.Mem.tail _ (List.Mem.tail _ (List.Mem.tail _ (List.Mem.tail _ (List.Mem.head _)))))))))))))))))))))))))))))))))))))))))))))), h.cell (w.heap.size + 1) 0 (.int .i64 bn) (List.Mem.tail _ (List.Mem.tail _ (List.Mem.tail _ (List.Mem.tail _ (List.Mem.tail _ (List.Mem.tail _ (List.Mem.tail _ (List.Mem.tail _ (List.Mem.tail _ (List.Mem.tail _ (List.Mem.tail _ (List.Mem.tail _ (List.Mem.tail _ (List.Mem.tail _ (List.Mem.tail _ (List.Mem.tail _ (List.Mem.tail _ (List.Mem.tail _ (List.Mem.tail _ (List.Mem.tail _ (List.Mem.tail _ (List.Mem.tail _ (List.Mem.tail _ (List.Mem.tail _ (List.Mem.tail _ (List.Mem.tail _ (List.Mem.tail _ (List.Mem.tail _ (List.Mem.tail _ (List.Mem.tail _ (List.Mem.tail _ (List.Mem.tail _ (List.Mem.tail _ (List.Mem.tail _ (List.Mem.tail _ (List.Mem.tail _ (List.Mem.tail _ (List.Mem.tail _ (List.Mem.tail _ (List.Mem.tail _ (List.Mem.head _))))))))))))))))))))))))))))))))))))))))), h.cell (w.heap.size + 1) 1 (.int .i64 bd) (List.Mem.tail _ (List.Mem.tail _ (List.Mem.tail _ (List.Mem.tail _ (List.Mem.tail _ (List.Mem.tail _ (List.Mem.tail _ (List.Mem.tail _ (List.Mem.tail _ (List.Mem.tail _ (List.Mem.tail _ (List.Mem.tail _ (List.Mem.tail _ (List.Mem.tail _ (List.Mem.tail _ (List.Mem.tail _ (List.Mem.tail _ (List.Mem.tail _ (List.Mem.tail _ (List.Mem.tail _ (List.Mem.tail _ (List.Mem.tail _ (List.Mem.tail _ (List.Mem.tail _ (List.Mem.tail _ (List.Mem.tail _ (List.Mem.tail _ (List.Mem.tail _ (List.Mem.tail _ (List.Mem.tail _ (List.Mem.tail _ (List.Mem.tail _ (List.Mem.tail _ (List.Mem.tail _ (List.Mem.tail _ (List.Mem.tail _ (List.Mem.tail _ (List.Mem.tail _ (List.Mem.tail _ (List.Mem.tail _ (List.Mem.tail _ (List.Mem.head _)))))))))))))))))))))))))))))))))))))))))), h⟩)
  have KHZ : Hid (∀ w' : World, w'.cell? ⟨w7.heap.size, 0, none⟩ = some (.int .i64 xn) ∧ w'.cell? ⟨w7.heap.size, 1, none⟩ = some (.int .i64 xd) ∧ w'.cell? ⟨w8.heap.size, 0, none⟩ = some (.int .i64 xn) ∧ w'.cell? ⟨w8.heap.size, 1, none⟩ = some (.int .i64 xd) ∧ w'.cell? ⟨w11.heap.size, 0, none⟩ = some (.int .i64 sn) ∧ w'.cell? ⟨w11.heap.size, 1, none⟩ = some (.int .i64 sd) ∧ w'.cell? ⟨w12.heap.size, 0, none⟩ = some (.int .i64 sn) ∧ w'.cell? ⟨w12.heap.size, 1, none⟩ = some (.int .i64 sd) ∧ w'.cell? ⟨w13.heap.size, 0, none⟩ = some (.int .i64 wn) ∧ w'.cell? ⟨w13.heap.size, 1, none⟩ = some (.int .i64 wd) ∧ w'.cell? ⟨w6.heap.size, 0, none⟩ = some (.int .i64 vn) ∧ w'.cell? ⟨w6.heap.size, 1, none⟩ = some (.int .i64 vd) ∧ w'.cell? ⟨w.heap.size, 0, none⟩ = some (.int .i64 an) ∧ w'.cell? ⟨w.heap.size, 1, none⟩ = some (.int .i64 ad) ∧ w'.cell? ⟨w.heap.size + 1, 0, none⟩ = some (.int .i64 bn) ∧ w'.cell? ⟨w.heap.size + 1, 1, none⟩ = some (.int .i64 bd) ∧ Held w [.cell (w13.heap.size) 0 (.int .i64 wn), .cell (w13.heap.size) 1 (.int .i64 wd), .free (w13.heap.size) 0, .free (w13.heap.size) 1, .cell (w12.heap.size) 0 (.int .i64 sn), .cell (w12.heap.size) 1 (.int .i64 sd), .free (w12.heap.size) 0, .free (w12.heap.size) 1, .cell (w11.heap.size) 0 (.int .i64 sn), .cell (w11.heap.size) 1 (.int .i64 sd), .free (w11.heap.size) 0, .free (w11.heap.size) 1, .cell (w10.heap.size) 0 (.int .i64 qn), .cell (w10.heap.size) 1 (.int .i64 qd), .free (w10.heap.size) 0, .free (w10.heap.size) 1, .cell (w9.heap.size) 0 (.int .i64 pn), .cell (w9.heap.size) 1 (.int .i64 pd), .free (w9.heap.size) 0, .free (w9.heap.size) 1, .cell (w8.heap.size) 0 (.int .i64 xn), .cell (w8.heap.size) 1 (.int .i64 xd), .free (w8.heap.size) 0, .free (w8.heap.size) 1, .cell (w7.heap.size) 0 (.int .i64 xn), .cell (w7.heap.size) 1 (.int .i64 xd), .free (w7.heap.size) 0, .free (w7.heap.size) 1, .cell (w6.heap.size) 0 (.int .i64 vn), .cell (w6.heap.size) 1 (.int .i64 vd), .free (w6.heap.size) 0, .free (w6.heap.size) 1, .cell (w5.heap.size) 0 (.int .i64 un), .cell (w5.heap.size) 1 (.int .i64 ud), .free (w5.heap.size) 0, .free (w5.heap.size) 1, .cell (w.heap.size + 2) 0 (.int .i64 cn), .cell (w.heap.size + 2) 1 (.int .i64 cd), .free (w.heap.size + 2) 0, .free (w.heap.size + 2) 1, .cell (w.heap.size + 1) 0 (.int .i64 bn), .cell (w.heap.size + 1) 1 (.int .i64 bd), .free (w.heap.size + 1) 0, .free (w.heap.size + 1) 1, .cell (w.heap.size) 0 (.int .i64 an), .cell (w.heap.size) 1 (.int .i64 ad), .free (w.heap.size) 0, .free (w.heap.size) 1] w' → Held w [.cell (w13.heap.size) 0 (.int .i64 wn), .cell (w13.heap.size) 1 (.int .i64 wd), .free (w13.heap.size) 0, .free (w13.heap.size) 1, .cell (w12.heap.size) 0 (.int .i64 sn), .cell (w12.heap.size) 1 (.int .i64 sd), .free (w12.heap.size) 0, .free (w12.heap.size) 1, .cell (w11.heap.size) 0 (.int .i64 sn), .cell (w11.heap.size) 1 (.int .i64 sd), .free (w11.heap.size) 0, .free (w11.heap.size) 1, .cell (w10.heap.size) 0 (.int .i64 qn), .cell (w10.heap.size) 1 (.int .i64 qd), .free (w10.heap.size) 0, .free (w10.heap.size) 1, .cell (w9.heap.size) 0 (.int .i64 pn), .cell (w9.heap.size) 1 (.int .i64 pd), .free (w9.heap.size) 0, .free (w9.heap.size) 1, .cell (w8.heap.size) 0 (.int .i64 xn), .cell (w8.heap.size) 1 (.int .i64 xd), .free (w8.heap.size) 0, .free (w8.heap.size) 1, .cell (w7.heap.size) 0 (.int .i64 xn), .cell (w7.heap.size) 1 (.int .i64 xd), .free (w7.heap.size) 0, .free (w7.heap.size) 1, .cell (w6.heap.size) 0 (.int .i64 vn), .cell (w6.heap.size) 1 (.int .i64 vd), .free (w6.heap.size) 0, .free (w6.heap.size) 1, .cell (w5.heap.size) 0 (.int .i64 un), .cell (w5.heap.size) 1 (.int .i64 ud), .free (w5.heap.size) 0, .free (w5.heap.size) 1, .cell (w.heap.size + 2) 0 (.int .i64 cn), .cell (w.heap.size + 2) 1 (.int .i64 cd), .free (w.heap.size + 2) 0, .free (w.heap.size + 2) 1, .cell (w.heap.size + 1) 0 (.int .i64 bn), .cell (w.heap.size + 1) 1 (.int .i64 bd), .free (w.heap.size + 1) 0, .free (w.heap.size + 1) 1, .cell (w.heap.size) 0 (.int .i64 an), .cell (w.heap.size) 1 (.int .i64 ad), .free (w.heap.size) 0, .free (w.heap.size) 1] w') := Lib.hid (fun _ h => h.2.2.2.2.2.2.2.2.2.2.2.2.2.2.2.2)
  have HSZ := Lib.hid (KSZ.out _ H.drew)
  go_region_held3 (fun w' => w'.cell? ⟨w7.heap.size, 0, none⟩ = some (.int .i64 xn) ∧ w'.cell? ⟨w7.heap.size, 1, none⟩ = some (.int .i64 xd) ∧ w'.cell? ⟨w8.heap.size, 0, none⟩ = some (.int .i64 xn) ∧ w'.cell? ⟨w8.heap.size, 1, none⟩ = some (.int .i64 xd) ∧ w'.cell? ⟨w11.heap.size, 0, none⟩ = some (.int .i64 sn) ∧ w'.cell? ⟨w11.heap.size, 1, none⟩ = some (.int .i64 sd) ∧ w'.cell? ⟨w12.heap.size, 0, none⟩ = some (.int .i64 sn) ∧ w'.cell? ⟨w12.heap.size, 1, none⟩ = some (.int .i64 sd) ∧ w'.cell? ⟨w13.heap.size, 0, none⟩ = some (.int .i64 wn) ∧ w'.cell? ⟨w13.heap.size, 1, none⟩ = some (.int .i64 wd) ∧ w'.cell? ⟨w6.heap.size, 0, none⟩ = some (.int .i64 vn) ∧ w'.cell? ⟨w6.heap.size, 1, none⟩ = some (.int .i64 vd) ∧ w'.cell? ⟨w.heap.size, 0, none⟩ = some (.int .i64 an) ∧ w'.cell? ⟨w.heap.size, 1, none⟩ = some (.int .i64 ad) ∧ w'.cell? ⟨w.heap.size + 1, 0, none⟩ = some (.int .i64 bn) ∧ w'.cell? ⟨w.heap.size + 1, 1, none⟩ = some (.int .i64 bd) ∧ Held w [.cell (w13.heap.size) 0 (.int .i64 wn), .cell (w13.heap.size) 1 (.int .i64 wd), .free (w13.heap.size) 0, .free (w13.heap.size) 1, .cell (w12.heap.size) 0 (.int .i64 sn), .cell (w12.heap.size) 1 (.int .i64 sd), .free (w12.heap.size) 0, .free (w12.heap.size) 1, .cell (w11.heap.size) 0 (.int .i64 sn), .cell (w11.heap.size) 1 (.int .i64 sd), .free (w11.heap.size) 0, .free (w11.heap.size) 1, .cell (w10.heap.size) 0 (.int .i64 qn), .cell (w10.heap.size) 1 (.int .i64 qd), .free (w10.heap.size) 0, .free (w10.heap.size) 1, .cell (w9.heap.size) 0 (.int .i64 pn), .cell (w9.heap.size) 1 (.int .i64 pd), .free (w9.heap.size) 0, .free (w9.heap.size) 1, .cell (w8.heap.size) 0 (.int .i64 xn), .cell (w8.heap.size) 1 (.int .i64 xd), .free (w8.heap.size) 0, .free (w8.heap.size) 1, .cell (w7.heap.size) 0 (.int .i64 xn), .cell (w7.heap.size) 1 (.int .i64 xd), .free (w7.heap.size) 0, .free (w7.heap.size) 1, .cell (w6.heap.size) 0 (.int .i64 vn), .cell (w6.heap.size) 1 (.int .i64 vd), .free (w6.heap.size) 0, .free (w6.heap.size) 1, .cell (w5.heap.size) 0 (.int .i64 un), .cell (w5.heap.size) 1 (.int .i64 ud), .free (w5.heap.size) 0, .free (w5.heap.size) 1, .cell (w.heap.size + 2) 0 (.int .i64 cn), .cell (w.heap.size + 2) 1 (.int .i64 cd), .free (w.heap.size + 2) 0, .free (w.heap.size + 2) 1, .cell (w.heap.size + 1) 0 (.int .i64 bn), .cell (w.heap.size + 1) 1 (.int .i64 bd), .free (w.heap.size + 1) 0, .free (w.heap.size + 1) 1, .cell (w.heap.size) 0 (.int .i64 an), .cell (w.heap.size) 1 (.int .i64 ad), .free (w.heap.size) 0, .free (w.heap.size) 1] w')
    (first | exact HSZ.out | (refine KSZ.out _ (Held.below (KHZ.out _ ?_) hb); assumption) | (refine KSZ.out _ (Held.alloc (KHZ.out _ ?_) _); assumption))
    (first
      | (go_at_call 22; (with_reducible refine (rcmp_is wn wd vn vd k _ z0 z1 (by omega) z3 v0 v1 (by omega) v3 HK2.out).mono ?_); rintro e w' ⟨rfl, hb⟩)
      | (go_at_call 22; (with_reducible refine (rcmp_is an ad bn bd k _ a0 a1 (by omega) a3 b0 b1 (by omega) b3 HK.out).mono ?_); rintro e w' ⟨rfl, hb⟩))
  all_goals
    go_wp2
    go_ret
    exact ⟨rfl, (KHZ.out _ (by assumption)).old⟩

theorem rsums_walk (an ad bn bd cn cd : Int) (w : World) (h1 : (-9223372036854775808 ≤ an ∧ an < 9223372036854775808)) (h2 : (-9223372036854775808 ≤ ad ∧ ad < 9223372036854775808)) (h3 : (-9223372036854775808 ≤ bn ∧ bn < 9223372036854775808)) (h4 : (-9223372036854775808 ≤ bd ∧ bd < 9223372036854775808)) (h5 : (-9223372036854775808 ≤ cn ∧ cn < 9223372036854775808)) (h6 : (-9223372036854775808 ≤ cd ∧ cd < 9223372036854775808)) :
    Calls Try.prog 8 #[.agg #[.int .i64 an, .int .i64 ad], .agg #[.int .i64 bn, .int .i64 bd], .agg #[.int .i64 cn, .int .i64 cd]] w fun e w' => e = .returned (.bool true) ∧ Below w.heap.size w w' := by
  cases ha : fewB an ad
  · exact rsums_no1 an ad bn bd cn cd w ha
  · cases hb : fewB bn bd
    · exact rsums_no2 an ad bn bd cn cd w ha hb
    · cases hc : fewB cn cd
      · exact rsums_no3 an ad bn bd cn cd w ha hb hc
      · exact rsums_yes an ad bn bd cn cd w ha hb hc
end Go.Proofs.Ytghhnpbepilefaa
