/- Package dates: the days of a grid that are kept, and Of. -/
import Derived.Test.YtjijgcgbnmobfaaGreatDoorDaGrid
namespace Go.Proofs.YtjijgcgbnmobfaaGreatDoor
open Go.RowKit Go.Shelf
set_option linter.unusedVariables false
set_option linter.unusedSimpArgs false

theorem grid_any (mo ra ki co st en ms : Int) (bk lg eo : Bool) (ro : Int) (X E : Nat → Int) (m : Nat) (w : World) (hL : FactsT w) (hc : (Tm.mk mo ra ki co st en ms bk lg eo ro).code = 0) (hm : -100 ≤ ms ∧ ms ≤ 100) (hWk : (Tm.mk mo ra ki co st en ms bk lg eo ro).Walk X E m) :
    Calls Tryz.prog 12 #[.agg #[.int .i64 mo, .int .i64 ra, .int .i64 ki, .int .i64 co, .int .i64 st, .int .i64 en, .int .i64 ms, .bool bk, .bool lg, .bool eo, .int .i64 ro]] w fun e w' => ∃ ao cap, e = .returned (.tuple #[.slice ao (gl E m) cap, .int .i64 0]) ∧ DaysAt w' ao (ld ((Tm.mk mo ra ki co st en ms bk lg eo ro).grid X (gl E m))) (gl E m) cap ∧ Below w.heap.size w w' := by
  cases bk
  · exact grid_false mo ra ki co st en ms lg eo ro X E m w hL hc hm hWk
  · exact grid_true mo ra ki co st en ms lg eo ro X E m w hL hc hm hWk
/-- What is known of blocks below b stays so where what lies there is as it was. -/
def Fact.low (b : Nat) : Fact → Prop
  | .cell c _ _ => c < b
  | .free c _ => c < b
  | .is c _ => c < b
  | .that P _ => False
theorem Held.upto {w W1 W : World} {fs : List Fact} (h : Held w fs W1) (b : Nat) (hb : Below b W1 W) (hw : w.heap.size ≤ b) (hoff : ∀ f ∈ fs, f.low b) : Held w fs W := by
  refine ⟨h.old.trans (hb.mono hw), fun f hf => ?_⟩
  have a := h.all f hf
  have k := hoff f hf
  cases f with
  | cell c i v => exact (hb.cell (p := ⟨c, i, none⟩) k).trans a
  | free c i => exact ⟨Nat.lt_of_lt_of_le a.1 hb.size, (hb.frozen (p := ⟨c, i, none⟩) k).trans a.2⟩
  | is c i =>
    have e := hb.cell (p := ⟨c, i, none⟩) k
    show (W.cell? ⟨c, i, none⟩).isSome = true
    rw [e]; exact a
  | that P h => exact k.elim
theorem ld_tail (l : List Int) (i : Nat) : ld l.tail i = ld l (i + 1) := by simp [ld]
theorem ld_take {l : List Int} {k i : Nat} (h : i < k) : ld (l.take k) i = ld l i := by simp [ld, List.getElem?_take, h]
theorem Tm.inn_succ (t : Tm) (X : Nat → Int) (k : Nat) : t.inn (dl X (k + 1)) = t.inn (dl X k) ++ (if t.btw (X k) = true then [X k] else []) := by
  unfold Tm.inn
  rw [dl_succ, List.filter_append]
  congr 1
  by_cases h : t.btw (X k) = true
  · rw [if_pos h, List.filter_cons_of_pos h]; rfl
  · rw [if_neg h, List.filter_cons_of_neg h]; rfl
set_option maxHeartbeats 8000000 in
set_option maxRecDepth 100000 in
theorem inner_any (mo ra ki co st en ms : Int) (bk lg eo : Bool) (ro : Int) (ao : Option Addr) (n cap : Nat) (X : Nat → Int) (L : List Int) (w : World) (hn : n ≤ 1200) (hm : -100 ≤ ms ∧ ms ≤ 100) (hD : DaysAt w ao X n cap) (hL : (Tm.mk mo ra ki co st en ms bk lg eo ro).kept (dl X n) = L) :
    Calls Tryz.prog 30 #[.agg #[.int .i64 mo, .int .i64 ra, .int .i64 ki, .int .i64 co, .int .i64 st, .int .i64 en, .int .i64 ms, .bool bk, .bool lg, .bool eo, .int .i64 ro], .slice ao n cap] w fun e w' => ∃ ao' cap', e = .returned (.slice ao' L.length cap') ∧ DaysAt w' ao' (ld L) L.length cap' ∧ Below w.heap.size w w' := by
  obtain ⟨i0, hi, hz0, hz1, hz2⟩ := info_parts infoInt13
  have KD := Lib.hid hD
  have EN := Lib.hid (fun v => ends_any mo ra ki co st en ms bk lg eo ro v hm)
  have BT := Lib.hid (fun x b v h => between_any mo ra ki co st en ms bk lg eo ro x b v h)
  have HL := Lib.hid hL
  clear hD hL
  go_enter Tryz.func30, Tryz.ntmps30
  go_wp2_with fail
  have H := (Held.start w).box_11 (w.heap.size) (.int .i64 mo) (.int .i64 ra) (.int .i64 ki) (.int .i64 co) (.int .i64 st) (.int .i64 en) (.int .i64 ms) (.bool bk) (.bool lg) (.bool eo) (.int .i64 ro) 23 rfl
  obtain ⟨W1, hW1⟩ : ∃ W1, w.alloc (.cells #[.int .i64 mo, .int .i64 ra, .int .i64 ki, .int .i64 co, .int .i64 st, .int .i64 en, .int .i64 ms, .bool bk, .bool lg, .bool eo, .int .i64 ro] 23) = W1 := ⟨_, rfl⟩
  have hs1 : w.heap.size < W1.heap.size := by rw [← hW1, World.size_alloc]; omega
  rw [hW1] at H ⊢
  clear hW1
  have HH := Lib.hid H
  clear H
  go_loopw [5, 7, 13] (fun v d i wr => ∃ k : Nat, k ≤ n ∧ i = .int .i64 (k : Int) ∧ wr.ownsRow W1.heap.size 3 1 v ((Tm.mk mo ra ki co st en ms bk lg eo ro).inn (dl X k)).length (il ((Tm.mk mo ra ki co st en ms bk lg eo ro).inn (dl X k))) ∧ Below W1.heap.size W1 wr) (fun _ _ i _ => n - (intOf i).toNat)
  case atStart => exact ⟨0, by omega, rfl, World.ownsRow_nil _ _ _ _, Below.refl _ _⟩
  case round =>
    obtain ⟨k, hk, rfl, hown, hB⟩ := hrel
    have hsz := hB.size
    have HO := Lib.hid hown
    have HB := Lib.hid hB
    by_cases hlt : k < n
    · have KK := Lib.hid (KD.out.below (HH.out.old.trans (hB.mono (by omega)) |> fun x => x))
      obtain ⟨bA, oA, rfl, da⟩ := KK.out.2 (by omega)
      have ka := da k hlt
      have kc := KK.out.1
      have ct0 := (hB.cell (p := ⟨w.heap.size, 0, none⟩) (by simp; omega)).trans (HH.out.cell (w.heap.size) 0 (.int .i64 mo) (by repeat (first | with_reducible exact List.mem_cons_self | with_reducible apply List.mem_cons_of_mem)))
      have ct1 := (hB.cell (p := ⟨w.heap.size, 1, none⟩) (by simp; omega)).trans (HH.out.cell (w.heap.size) 1 (.int .i64 ra) (by repeat (first | with_reducible exact List.mem_cons_self | with_reducible apply List.mem_cons_of_mem)))
      have ct2 := (hB.cell (p := ⟨w.heap.size, 2, none⟩) (by simp; omega)).trans (HH.out.cell (w.heap.size) 2 (.int .i64 ki) (by repeat (first | with_reducible exact List.mem_cons_self | with_reducible apply List.mem_cons_of_mem)))
      have ct3 := (hB.cell (p := ⟨w.heap.size, 3, none⟩) (by simp; omega)).trans (HH.out.cell (w.heap.size) 3 (.int .i64 co) (by repeat (first | with_reducible exact List.mem_cons_self | with_reducible apply List.mem_cons_of_mem)))
      have ct4 := (hB.cell (p := ⟨w.heap.size, 4, none⟩) (by simp; omega)).trans (HH.out.cell (w.heap.size) 4 (.int .i64 st) (by repeat (first | with_reducible exact List.mem_cons_self | with_reducible apply List.mem_cons_of_mem)))
      have ct5 := (hB.cell (p := ⟨w.heap.size, 5, none⟩) (by simp; omega)).trans (HH.out.cell (w.heap.size) 5 (.int .i64 en) (by repeat (first | with_reducible exact List.mem_cons_self | with_reducible apply List.mem_cons_of_mem)))
      have ct6 := (hB.cell (p := ⟨w.heap.size, 6, none⟩) (by simp; omega)).trans (HH.out.cell (w.heap.size) 6 (.int .i64 ms) (by repeat (first | with_reducible exact List.mem_cons_self | with_reducible apply List.mem_cons_of_mem)))
      have ct7 := (hB.cell (p := ⟨w.heap.size, 7, none⟩) (by simp; omega)).trans (HH.out.cell (w.heap.size) 7 (.bool bk) (by repeat (first | with_reducible exact List.mem_cons_self | with_reducible apply List.mem_cons_of_mem)))
      have ct8 := (hB.cell (p := ⟨w.heap.size, 8, none⟩) (by simp; omega)).trans (HH.out.cell (w.heap.size) 8 (.bool lg) (by repeat (first | with_reducible exact List.mem_cons_self | with_reducible apply List.mem_cons_of_mem)))
      have ct9 := (hB.cell (p := ⟨w.heap.size, 9, none⟩) (by simp; omega)).trans (HH.out.cell (w.heap.size) 9 (.bool eo) (by repeat (first | with_reducible exact List.mem_cons_self | with_reducible apply List.mem_cons_of_mem)))
      have ct10 := (hB.cell (p := ⟨w.heap.size, 10, none⟩) (by simp; omega)).trans (HH.out.cell (w.heap.size) 10 (.int .i64 ro) (by repeat (first | with_reducible exact List.mem_cons_self | with_reducible apply List.mem_cons_of_mem)))
      obtain ⟨b, hb⟩ : ∃ b, (Tm.mk mo ra ki co st en ms bk lg eo ro).btw (X k) = b := ⟨_, rfl⟩
      obtain ⟨x, hx⟩ : ∃ x, X k = x := ⟨_, rfl⟩
      rw [hx] at ka hb
      have B1 := Lib.hid (fun v => BT.out x b v hb)
      have HX := Lib.hid hx
      have HBb := Lib.hid hb
      clear da hb hx hown hB
      go_wp2_with fail
      clear ct0 ct1 ct2 ct3 ct4 ct5 ct6 ct7 ct8 ct9 ct10 ka kc
      (with_reducible refine (B1.out _).mono ?_)
      rintro e w2 ⟨rfl, hb⟩
      have hown2 := own_below13 HO.out hb
      have hB2 := HB.out.trans (hb.mono hsz)
      have hz2' := hB2.size
      clear hb B1
      cases b
      · have ES : Hid ((Tm.mk mo ra ki co st en ms bk lg eo ro).inn (dl X (k + 1)) = (Tm.mk mo ra ki co st en ms bk lg eo ro).inn (dl X k)) := Lib.hid (by rw [Tm.inn_succ, HX.out, if_neg (by rw [HBb.out]; decide), List.append_nil])
        go_wp2
        go_roundw
        case rel => exact ⟨k + 1, by omega, by go_num, by rw [ES.out]; exact hown2, hB2⟩
        case measure => simp [intOf]; omega
      · have ES : Hid ((Tm.mk mo ra ki co st en ms bk lg eo ro).inn (dl X (k + 1)) = (Tm.mk mo ra ki co st en ms bk lg eo ro).inn (dl X k) ++ [x]) := Lib.hid (by rw [Tm.inn_succ, HX.out, if_pos HBb.out])
        have ln := Tm.inn_len (Tm.mk mo ra ki co st en ms bk lg eo ro) (dl X k)
        rw [dl_len] at ln
        go_wp2_with (first
          | (at_builtin; refine wpList_append_own _ rfl _ _ 27 rfl W1.heap.size 3 i0 (.int .i64 0) 1 8 Tryz.underlying27 hi hz0 hz1 hz2 rfl (by decide) _ _ _ rfl (own_below13 (hown2.alloc _) (Below.refl _ _)) ⟨w2.heap.size, 0, none⟩ 1 1 [.int .i64 x] rfl rfl ?c1 ?c2 ?c3 ?c4 ?c5 ?_)
          | go_in)
        case c1 => exact cell_one_new _ _ _
        case c2 => intro u hu; simp at hu; subst hu; rfl
        case c3 => unfold maxLen; omega
        case c4 => omega
        case c5 => simp; omega
        · intro v' w3 hown' hgrow _
          have R := (((Below.refl W1.heap.size w2).alloc (by omega) _).grown hgrow (by simp; omega) (fun k hk => (World.ownsRow.lt hown2 k hk).1))
          rw [il_snoc] at hown'
          have OW := Lib.hid hown'
          have hB3 := hB2.trans R
          clear hgrow hown2 hown' R
          go_wp2
          go_roundw
          case rel => exact ⟨k + 1, by omega, by go_num, by rw [ES.out, List.length_append, List.length_singleton]; exact OW.out, hB3⟩
          case measure => simp [intOf]; omega
    · obtain rfl : k = n := by omega
      obtain ⟨aI, cI, rfl, hI⟩ := own_days13 rfl hown
      have H := ((HH.out.upto W1.heap.size hB (by omega) (by intro f hf; simp only [List.mem_cons, List.not_mem_nil, or_false] at hf; rcases hf with rfl | rfl | rfl | rfl | rfl | rfl | rfl | rfl | rfl | rfl | rfl | rfl | rfl | rfl | rfl | rfl | rfl | rfl | rfl | rfl | rfl | rfl <;> (show w.heap.size < _; omega))).add (f := daysF aI _ _ _) hI).add (f := daysF ao X k cap) (KD.out.below (HH.out.old.trans (hB.mono (by omega))))
      obtain ⟨li, hli⟩ : ∃ li, (Tm.mk mo ra ki co st en ms bk lg eo ro).inn (dl X k) = li := ⟨_, rfl⟩
      rw [hli] at hI H ⊢
      have HI := Lib.hid hli
      have ln : li.length ≤ k := by rw [← hli]; have := Tm.inn_len (Tm.mk mo ra ki co st en ms bk lg eo ro) (dl X k); rwa [dl_len] at this
      clear hown hB hI HO HB hli BT hlt
      have ct0 := H.cell (w.heap.size) 0 (.int .i64 mo) (by repeat (first | with_reducible exact List.mem_cons_self | with_reducible apply List.mem_cons_of_mem))
      have ct1 := H.cell (w.heap.size) 1 (.int .i64 ra) (by repeat (first | with_reducible exact List.mem_cons_self | with_reducible apply List.mem_cons_of_mem))
      have ct2 := H.cell (w.heap.size) 2 (.int .i64 ki) (by repeat (first | with_reducible exact List.mem_cons_self | with_reducible apply List.mem_cons_of_mem))
      have ct3 := H.cell (w.heap.size) 3 (.int .i64 co) (by repeat (first | with_reducible exact List.mem_cons_self | with_reducible apply List.mem_cons_of_mem))
      have ct4 := H.cell (w.heap.size) 4 (.int .i64 st) (by repeat (first | with_reducible exact List.mem_cons_self | with_reducible apply List.mem_cons_of_mem))
      have ct5 := H.cell (w.heap.size) 5 (.int .i64 en) (by repeat (first | with_reducible exact List.mem_cons_self | with_reducible apply List.mem_cons_of_mem))
      have ct6 := H.cell (w.heap.size) 6 (.int .i64 ms) (by repeat (first | with_reducible exact List.mem_cons_self | with_reducible apply List.mem_cons_of_mem))
      have ct7 := H.cell (w.heap.size) 7 (.bool bk) (by repeat (first | with_reducible exact List.mem_cons_self | with_reducible apply List.mem_cons_of_mem))
      have ct8 := H.cell (w.heap.size) 8 (.bool lg) (by repeat (first | with_reducible exact List.mem_cons_self | with_reducible apply List.mem_cons_of_mem))
      have ct9 := H.cell (w.heap.size) 9 (.bool eo) (by repeat (first | with_reducible exact List.mem_cons_self | with_reducible apply List.mem_cons_of_mem))
      have ct10 := H.cell (w.heap.size) 10 (.int .i64 ro) (by repeat (first | with_reducible exact List.mem_cons_self | with_reducible apply List.mem_cons_of_mem))
      have lct := cell_lt ct0
      go_wp2_with fail
      clear ct0 ct1 ct2 ct3 ct4 ct5 ct6 ct7 ct8 ct9 ct10 lct
      (with_reducible refine (EN.out _).mono ?_)
      rintro e w3 ⟨rfl, hb⟩
      replace H := H.below hb
      clear hb EN
      cases lg
      · have ek : (Tm.mk mo ra ki co st en ms bk false eo ro).kept (dl X k) = li := by unfold Tm.kept; rw [if_neg (fun h => by cases h.1), HI.out]
        obtain rfl : li = L := ek.symm.trans HL.out
        have ct0 := H.cell (w.heap.size) 0 (.int .i64 mo) (by repeat (first | with_reducible exact List.mem_cons_self | with_reducible apply List.mem_cons_of_mem))
        have ct1 := H.cell (w.heap.size) 1 (.int .i64 ra) (by repeat (first | with_reducible exact List.mem_cons_self | with_reducible apply List.mem_cons_of_mem))
        have ct2 := H.cell (w.heap.size) 2 (.int .i64 ki) (by repeat (first | with_reducible exact List.mem_cons_self | with_reducible apply List.mem_cons_of_mem))
        have ct3 := H.cell (w.heap.size) 3 (.int .i64 co) (by repeat (first | with_reducible exact List.mem_cons_self | with_reducible apply List.mem_cons_of_mem))
        have ct4 := H.cell (w.heap.size) 4 (.int .i64 st) (by repeat (first | with_reducible exact List.mem_cons_self | with_reducible apply List.mem_cons_of_mem))
        have ct5 := H.cell (w.heap.size) 5 (.int .i64 en) (by repeat (first | with_reducible exact List.mem_cons_self | with_reducible apply List.mem_cons_of_mem))
        have ct6 := H.cell (w.heap.size) 6 (.int .i64 ms) (by repeat (first | with_reducible exact List.mem_cons_self | with_reducible apply List.mem_cons_of_mem))
        have ct7 := H.cell (w.heap.size) 7 (.bool bk) (by repeat (first | with_reducible exact List.mem_cons_self | with_reducible apply List.mem_cons_of_mem))
        have ct8 := H.cell (w.heap.size) 8 (.bool false) (by repeat (first | with_reducible exact List.mem_cons_self | with_reducible apply List.mem_cons_of_mem))
        have ct9 := H.cell (w.heap.size) 9 (.bool eo) (by repeat (first | with_reducible exact List.mem_cons_self | with_reducible apply List.mem_cons_of_mem))
        have ct10 := H.cell (w.heap.size) 10 (.int .i64 ro) (by repeat (first | with_reducible exact List.mem_cons_self | with_reducible apply List.mem_cons_of_mem))
        have lct := cell_lt ct0
        go_wp2
        go_ret
        exact ⟨aI, cI, rfl, H.days (by repeat (first | with_reducible exact List.mem_cons_self | with_reducible apply List.mem_cons_of_mem)), H.old⟩
      · by_cases hz : li.length = 0
        · have e0 : li = [] := List.length_eq_zero_iff.1 hz
          have ek : (Tm.mk mo ra ki co st en ms bk true eo ro).kept (dl X k) = li := by unfold Tm.kept; rw [if_neg (fun h => h.2.1 (by rw [HI.out, e0])), HI.out]
          obtain rfl : li = L := ek.symm.trans HL.out
          have t1 : ((li.length : Int) == 0) = true := by rw [hz]; rfl
          have ct0 := H.cell (w.heap.size) 0 (.int .i64 mo) (by repeat (first | with_reducible exact List.mem_cons_self | with_reducible apply List.mem_cons_of_mem))
          have ct1 := H.cell (w.heap.size) 1 (.int .i64 ra) (by repeat (first | with_reducible exact List.mem_cons_self | with_reducible apply List.mem_cons_of_mem))
          have ct2 := H.cell (w.heap.size) 2 (.int .i64 ki) (by repeat (first | with_reducible exact List.mem_cons_self | with_reducible apply List.mem_cons_of_mem))
          have ct3 := H.cell (w.heap.size) 3 (.int .i64 co) (by repeat (first | with_reducible exact List.mem_cons_self | with_reducible apply List.mem_cons_of_mem))
          have ct4 := H.cell (w.heap.size) 4 (.int .i64 st) (by repeat (first | with_reducible exact List.mem_cons_self | with_reducible apply List.mem_cons_of_mem))
          have ct5 := H.cell (w.heap.size) 5 (.int .i64 en) (by repeat (first | with_reducible exact List.mem_cons_self | with_reducible apply List.mem_cons_of_mem))
          have ct6 := H.cell (w.heap.size) 6 (.int .i64 ms) (by repeat (first | with_reducible exact List.mem_cons_self | with_reducible apply List.mem_cons_of_mem))
          have ct7 := H.cell (w.heap.size) 7 (.bool bk) (by repeat (first | with_reducible exact List.mem_cons_self | with_reducible apply List.mem_cons_of_mem))
          have ct8 := H.cell (w.heap.size) 8 (.bool true) (by repeat (first | with_reducible exact List.mem_cons_self | with_reducible apply List.mem_cons_of_mem))
          have ct9 := H.cell (w.heap.size) 9 (.bool eo) (by repeat (first | with_reducible exact List.mem_cons_self | with_reducible apply List.mem_cons_of_mem))
          have ct10 := H.cell (w.heap.size) 10 (.int .i64 ro) (by repeat (first | with_reducible exact List.mem_cons_self | with_reducible apply List.mem_cons_of_mem))
          have lct := cell_lt ct0
          go_wp2
          go_ret
          exact ⟨aI, cI, by rw [hz]; rfl, H.days (by repeat (first | with_reducible exact List.mem_cons_self | with_reducible apply List.mem_cons_of_mem)), H.old⟩
        · have t1 : ((li.length : Int) == 0) = false := by rw [beq_eq_false_iff_ne]; omega
          have hk0 : 0 < k := by omega
          obtain ⟨bb, hbb⟩ : ∃ bb, decide ((Tm.mk mo ra ki co st en ms bk true eo ro).ot ∈ dl X k) = bb := ⟨_, rfl⟩
          obtain ⟨bA, oA, rfl, hc⟩ := (H.days (ao := ao) (X := X) (n := k) (cap := cap) (by repeat (first | with_reducible exact List.mem_cons_self | with_reducible apply List.mem_cons_of_mem))).2 hk0
          have CT := Lib.hid (Tryz.slices_Contains_int bA oA k cap (dl X k) (Tm.mk mo ra ki co st en ms bk true eo ro).ot w3 (by rw [dl_len]; omega) (by omega) (fun j hj => by rw [dl_len] at hj; rw [hc j hj]; simp [dl, hj]))
          have eb : ((dl X k).take k).contains (Tm.mk mo ra ki co st en ms bk true eo ro).ot = bb := by
            rw [List.take_of_length_le (by rw [dl_len]; omega), ← hbb]
            simp
          rw [eb] at CT
          have HBB := Lib.hid hbb
          clear hc hbb eb
          have ct0 := H.cell (w.heap.size) 0 (.int .i64 mo) (by repeat (first | with_reducible exact List.mem_cons_self | with_reducible apply List.mem_cons_of_mem))
          have ct1 := H.cell (w.heap.size) 1 (.int .i64 ra) (by repeat (first | with_reducible exact List.mem_cons_self | with_reducible apply List.mem_cons_of_mem))
          have ct2 := H.cell (w.heap.size) 2 (.int .i64 ki) (by repeat (first | with_reducible exact List.mem_cons_self | with_reducible apply List.mem_cons_of_mem))
          have ct3 := H.cell (w.heap.size) 3 (.int .i64 co) (by repeat (first | with_reducible exact List.mem_cons_self | with_reducible apply List.mem_cons_of_mem))
          have ct4 := H.cell (w.heap.size) 4 (.int .i64 st) (by repeat (first | with_reducible exact List.mem_cons_self | with_reducible apply List.mem_cons_of_mem))
          have ct5 := H.cell (w.heap.size) 5 (.int .i64 en) (by repeat (first | with_reducible exact List.mem_cons_self | with_reducible apply List.mem_cons_of_mem))
          have ct6 := H.cell (w.heap.size) 6 (.int .i64 ms) (by repeat (first | with_reducible exact List.mem_cons_self | with_reducible apply List.mem_cons_of_mem))
          have ct7 := H.cell (w.heap.size) 7 (.bool bk) (by repeat (first | with_reducible exact List.mem_cons_self | with_reducible apply List.mem_cons_of_mem))
          have ct8 := H.cell (w.heap.size) 8 (.bool true) (by repeat (first | with_reducible exact List.mem_cons_self | with_reducible apply List.mem_cons_of_mem))
          have ct9 := H.cell (w.heap.size) 9 (.bool eo) (by repeat (first | with_reducible exact List.mem_cons_self | with_reducible apply List.mem_cons_of_mem))
          have ct10 := H.cell (w.heap.size) 10 (.int .i64 ro) (by repeat (first | with_reducible exact List.mem_cons_self | with_reducible apply List.mem_cons_of_mem))
          have lct := cell_lt ct0
          go_wp2_with fail
          clear ct0 ct1 ct2 ct3 ct4 ct5 ct6 ct7 ct8 ct9 ct10 lct
          (with_reducible refine (CT.out).mono ?_)
          rintro e w4 ⟨rfl, rfl⟩
          cases bb
          · obtain ⟨bI, oI, rfl, hI⟩ := (H.days (ao := aI) (by repeat (first | with_reducible exact List.mem_cons_self | with_reducible apply List.mem_cons_of_mem))).2 (by omega)
            have hcap := (H.days (ao := some ⟨bI, oI, none⟩) (X := ld li) (n := li.length) (cap := cI) (by repeat (first | with_reducible exact List.mem_cons_self | with_reducible apply List.mem_cons_of_mem))).1
            have hday := (H.days (ao := some ⟨bI, oI, none⟩) (X := ld li) (n := li.length) (cap := cI) (by repeat (first | with_reducible exact List.mem_cons_self | with_reducible apply List.mem_cons_of_mem)))
            have hin : (Tm.mk mo ra ki co st en ms bk true eo ro).ot ∉ dl X k := of_decide_eq_false HBB.out
            have hne : (Tm.mk mo ra ki co st en ms bk true eo ro).inn (dl X k) ≠ [] := by rw [HI.out]; intro e; rw [e] at hz; exact hz rfl
            cases bk
            · have ek : (Tm.mk mo ra ki co st en ms false true eo ro).kept (dl X k) = li.take (li.length - 1) := by unfold Tm.kept; rw [if_pos ⟨rfl, hne, hin⟩, if_neg (fun h => by cases h), HI.out]
              obtain rfl : li.take (li.length - 1) = L := ek.symm.trans HL.out
              have ct0 := H.cell (w.heap.size) 0 (.int .i64 mo) (by repeat (first | with_reducible exact List.mem_cons_self | with_reducible apply List.mem_cons_of_mem))
              have ct1 := H.cell (w.heap.size) 1 (.int .i64 ra) (by repeat (first | with_reducible exact List.mem_cons_self | with_reducible apply List.mem_cons_of_mem))
              have ct2 := H.cell (w.heap.size) 2 (.int .i64 ki) (by repeat (first | with_reducible exact List.mem_cons_self | with_reducible apply List.mem_cons_of_mem))
              have ct3 := H.cell (w.heap.size) 3 (.int .i64 co) (by repeat (first | with_reducible exact List.mem_cons_self | with_reducible apply List.mem_cons_of_mem))
              have ct4 := H.cell (w.heap.size) 4 (.int .i64 st) (by repeat (first | with_reducible exact List.mem_cons_self | with_reducible apply List.mem_cons_of_mem))
              have ct5 := H.cell (w.heap.size) 5 (.int .i64 en) (by repeat (first | with_reducible exact List.mem_cons_self | with_reducible apply List.mem_cons_of_mem))
              have ct6 := H.cell (w.heap.size) 6 (.int .i64 ms) (by repeat (first | with_reducible exact List.mem_cons_self | with_reducible apply List.mem_cons_of_mem))
              have ct7 := H.cell (w.heap.size) 7 (.bool false) (by repeat (first | with_reducible exact List.mem_cons_self | with_reducible apply List.mem_cons_of_mem))
              have ct8 := H.cell (w.heap.size) 8 (.bool true) (by repeat (first | with_reducible exact List.mem_cons_self | with_reducible apply List.mem_cons_of_mem))
              have ct9 := H.cell (w.heap.size) 9 (.bool eo) (by repeat (first | with_reducible exact List.mem_cons_self | with_reducible apply List.mem_cons_of_mem))
              have ct10 := H.cell (w.heap.size) 10 (.int .i64 ro) (by repeat (first | with_reducible exact List.mem_cons_self | with_reducible apply List.mem_cons_of_mem))
              have lct := cell_lt ct0
              go_wp2
              have lt : (li.take (li.length - 1)).length = li.length - 1 := by rw [List.length_take]; omega
              go_ret
              exact ⟨some ⟨bI, oI, none⟩, cI, by rw [lt]; rfl, by rw [lt]; exact (hday.take (by omega)).ext (fun i hi => (ld_take (by omega)).symm), H.old⟩
            · have ek : (Tm.mk mo ra ki co st en ms true true eo ro).kept (dl X k) = li.drop 1 := by unfold Tm.kept; rw [if_pos ⟨rfl, hne, hin⟩, if_pos rfl, HI.out]
              obtain rfl : li.drop 1 = L := ek.symm.trans HL.out
              have ct0 := H.cell (w.heap.size) 0 (.int .i64 mo) (by repeat (first | with_reducible exact List.mem_cons_self | with_reducible apply List.mem_cons_of_mem))
              have ct1 := H.cell (w.heap.size) 1 (.int .i64 ra) (by repeat (first | with_reducible exact List.mem_cons_self | with_reducible apply List.mem_cons_of_mem))
              have ct2 := H.cell (w.heap.size) 2 (.int .i64 ki) (by repeat (first | with_reducible exact List.mem_cons_self | with_reducible apply List.mem_cons_of_mem))
              have ct3 := H.cell (w.heap.size) 3 (.int .i64 co) (by repeat (first | with_reducible exact List.mem_cons_self | with_reducible apply List.mem_cons_of_mem))
              have ct4 := H.cell (w.heap.size) 4 (.int .i64 st) (by repeat (first | with_reducible exact List.mem_cons_self | with_reducible apply List.mem_cons_of_mem))
              have ct5 := H.cell (w.heap.size) 5 (.int .i64 en) (by repeat (first | with_reducible exact List.mem_cons_self | with_reducible apply List.mem_cons_of_mem))
              have ct6 := H.cell (w.heap.size) 6 (.int .i64 ms) (by repeat (first | with_reducible exact List.mem_cons_self | with_reducible apply List.mem_cons_of_mem))
              have ct7 := H.cell (w.heap.size) 7 (.bool true) (by repeat (first | with_reducible exact List.mem_cons_self | with_reducible apply List.mem_cons_of_mem))
              have ct8 := H.cell (w.heap.size) 8 (.bool true) (by repeat (first | with_reducible exact List.mem_cons_self | with_reducible apply List.mem_cons_of_mem))
              have ct9 := H.cell (w.heap.size) 9 (.bool eo) (by repeat (first | with_reducible exact List.mem_cons_self | with_reducible apply List.mem_cons_of_mem))
              have ct10 := H.cell (w.heap.size) 10 (.int .i64 ro) (by repeat (first | with_reducible exact List.mem_cons_self | with_reducible apply List.mem_cons_of_mem))
              have lct := cell_lt ct0
              go_wp2
              all_goals
                go_ret
                first
                  | exact ⟨_, _, rfl, (hday.drop (k := 1) (by omega)).ext (fun i hi => by rw [ld_tail, Nat.add_comm]), H.old⟩
                  | exact ⟨_, _, rfl, ⟨by omega, fun h => absurd h (by omega)⟩, H.old⟩
          · have hin : (Tm.mk mo ra ki co st en ms bk true eo ro).ot ∈ dl X k := of_decide_eq_true HBB.out
            have ek : (Tm.mk mo ra ki co st en ms bk true eo ro).kept (dl X k) = li := by unfold Tm.kept; rw [if_neg (fun h => h.2.2 hin), HI.out]
            obtain rfl : li = L := ek.symm.trans HL.out
            go_wp2
            go_ret
            exact ⟨aI, cI, rfl, H.days (by repeat (first | with_reducible exact List.mem_cons_self | with_reducible apply List.mem_cons_of_mem)), H.old⟩
end Go.Proofs.YtjijgcgbnmobfaaGreatDoor
