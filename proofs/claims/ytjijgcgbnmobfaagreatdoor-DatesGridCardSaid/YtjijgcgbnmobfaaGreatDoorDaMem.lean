/- Rows of days in the memory: what holds them, rows of the call's own, append, the library's Grow and Concat at three rows. -/
import Derived.Test.YtjijgcgbnmobfaaGreatDoorDaList
import Derived.Test.YtjijgcgbnmobfaaGreatDoorTeFacts
import Derived.Deep.Onto
import Derived.Lib.AppendZeros
import Derived.Lib.OwnBridge
import Derived.Maps.AppendAt
namespace Go.Proofs.YtjijgcgbnmobfaaGreatDoor
open Go.RowKit
set_option linter.unusedVariables false
set_option linter.unusedSimpArgs false

theorem add_plain13 (b off j : Nat) : (⟨b, off, none⟩ : Addr).add j = ⟨b, off + j, none⟩ := by
  unfold Addr.add
  split
  · next h => subst h; rfl
  · rfl
/-- A slice's cells hold days. -/
def DCells (W : World) (b off : Nat) (X : Nat → Int) (n : Nat) : Prop := ∀ j, j < n → W.cell? ⟨b, off + j, none⟩ = some (.int .i64 (X j))
theorem DCells.below {W W' : World} {b off n : Nat} {X : Nat → Int} (h : DCells W b off X n) (hb : Below W.heap.size W W') : DCells W' b off X n := fun j hj => keep hb (cell_lt (h j hj)) (h j hj)
def DaysAt (W : World) (ao : Option Addr) (X : Nat → Int) (n cap : Nat) : Prop := n ≤ cap ∧ (0 < n → ∃ b off, ao = some ⟨b, off, none⟩ ∧ DCells W b off X n)
theorem DaysAt.below {W W' : World} {ao : Option Addr} {n cap : Nat} {X : Nat → Int} (h : DaysAt W ao X n cap) (hb : Below W.heap.size W W') : DaysAt W' ao X n cap :=
  ⟨h.1, fun hn => by obtain ⟨b, off, e, hc⟩ := h.2 hn; exact ⟨b, off, e, hc.below hb⟩⟩
def daysF (ao : Option Addr) (X : Nat → Int) (n cap : Nat) : Fact := .that (fun W => DaysAt W ao X n cap) (fun _ _ hb h => h.below hb)
theorem Held.days {w W : World} {fs : List Fact} {ao : Option Addr} {X : Nat → Int} {n cap : Nat} (h : Held w fs W) (hm : daysF ao X n cap ∈ fs) : DaysAt W ao X n cap := h.all _ hm
theorem DaysAt.ext {W : World} {ao : Option Addr} {X Y : Nat → Int} {n cap : Nat} (h : DaysAt W ao X n cap) (e : ∀ i, i < n → X i = Y i) : DaysAt W ao Y n cap :=
  ⟨h.1, fun hn => by obtain ⟨b, off, e0, hc⟩ := h.2 hn; exact ⟨b, off, e0, fun j hj => by rw [← e j hj]; exact hc j hj⟩⟩
theorem DaysAt.none (W : World) (X : Nat → Int) (cap : Nat) : DaysAt W .none X 0 cap := ⟨Nat.zero_le _, fun h => absurd h (by omega)⟩
theorem own_below13 {W W' : World} {base : Nat} {e : TypeId} {size n : Nat} {v : Value} {xs : List Value} (h : W.ownsRow base e size v n xs) (hb : Below W.heap.size W W') : W'.ownsRow base e size v n xs := by
  obtain ⟨h1, h2⟩ := h
  refine ⟨h1, ?_⟩
  rcases h2 with h2 | ⟨g, cap, cur, hv, hg, hh, hr⟩
  · exact .inl h2
  · exact .inr ⟨g, cap, cur, hv, hg, by rw [hb.block g ((Array.getElem?_eq_some_iff.1 hh).1)]; exact hh, hr⟩
theorem infoInt13 : (Tryz.prog.info? 3).map (fun i => (i.zero, i.size, i.bytes)) = some (some (.int .i64 0), 1, 8) := by kernel_rfl
def il (l : List Int) : List Value := l.map (Value.int .i64)
theorem il_len (l : List Int) : (il l).length = l.length := by simp [il]
/-- A row of the call's own, as days. -/
theorem own_days13 {W : World} {base n : Nat} {v : Value} {l : List Int} (hn : l.length = n) (h : W.ownsRow base 3 1 v n (il l)) : ∃ ao cap, v = .slice ao n cap ∧ DaysAt W ao (ld l) n cap := by
  have h0 := h
  subst hn
  rcases h.2 with ⟨rfl, e⟩ | ⟨g, cap, cur, rfl, _, _, hc, _⟩
  · refine ⟨none, 0, by rw [e], by omega, fun k => absurd k (by omega)⟩
  · refine ⟨_, _, rfl, hc, fun _ => ⟨g, 0, rfl, fun j hj => ?_⟩⟩
    have := World.ownsRow.cellAt h0 j (by omega)
    rw [Nat.zero_add, this]
    simp [il, ld, hj]
theorem grown13 {wr w1 : World} {base : Nat} {e : TypeId} {size n : Nat} {v : Value} {xs : List Value} {o : Obj} (hsz : base ≤ wr.heap.size) (hown : wr.ownsRow base e size v n xs) {k : Nat} (hg : ((wr.alloc o).drewN k).grownBy w1 v.ownBlock) : Below base wr w1 :=
  (belowDrewN ((Below.refl base wr).alloc hsz o) k).grown hg (by simp; omega) (fun k hk => (World.ownsRow.lt hown k hk).1)
theorem one_news (W : World) (x : Value) (t : TypeId) (k : Nat) : ∀ j u, [x][j]? = some u → ((W.alloc (.cells #[x] t)).drewN k).cell? ((⟨W.heap.size, 0, none⟩ : Addr).add j) = some u := by
  intro j u hu
  match j, hu with
  | 0, hu =>
    obtain rfl : x = u := by simpa using hu
    rw [add_plain13]
    simp [go_sem, World.cell?_alloc_new]
  | j + 1, hu => simp at hu
theorem il_snoc (l : List Int) (x : Int) : il l ++ [.int .i64 x] = il (l ++ [x]) := by simp [il]
/-- A row of cells, wherever it lies: what is laid behind another one. -/
def Row13 (W : World) (size : Nat) (ao : Option Addr) (n : Nat) (l : List Value) : Prop := l.length = n * size ∧ (∀ u ∈ l, u.oneCell' = true) ∧ (0 < n → ∃ b off, ao = some ⟨b, off, none⟩ ∧ ∀ j u, l[j]? = some u → W.cell? ((⟨b, off, none⟩ : Addr).add j) = some u)
theorem Row13.below {W W' : World} {size n : Nat} {ao : Option Addr} {l : List Value} (h : Row13 W size ao n l) (hb : Below W.heap.size W W') : Row13 W' size ao n l :=
  ⟨h.1, h.2.1, fun hn => by
    obtain ⟨b, off, e, hc⟩ := h.2.2 hn
    refine ⟨b, off, e, fun j u hu => ?_⟩
    have := hc j u hu
    rw [add_plain13] at this ⊢
    exact keep hb (cell_lt this) this⟩
theorem row_days {W : World} {ao : Option Addr} {X : Nat → Int} {n cap : Nat} (h : DaysAt W ao X n cap) : Row13 W 1 ao n (il (dl X n)) :=
  ⟨by rw [il_len, dl_len, Nat.mul_one], fun u hu => by simp [il] at hu; obtain ⟨a, _, rfl⟩ := hu; rfl, fun hn => by
    obtain ⟨b, off, e, hc⟩ := h.2 hn
    refine ⟨b, off, e, fun j u hu => ?_⟩
    have hj : j < n := by
      rcases Nat.lt_or_ge j n with k | k
      · exact k
      · rw [List.getElem?_eq_none (by rw [il_len, dl_len]; exact k)] at hu; cases hu
    rw [add_plain13, hc j hj]
    simpa [il, dl, hj] using hu⟩
theorem app_none {P : Program} {w : World} (base : Nat) (t ty e : TypeId) (i : TypeInfo) (size : Nat) (ht : P.underlying t = some (.slice e)) (hi : P.info? e = some i)
    (v : Value) (n : Nat) (xs : List Value) (hown : w.ownsRow base e size v n xs) (c : Nat) : (Builtin.append_ #[t, t] ty #[v, .slice none 0 c]).run P w = .ok v w := by
  rcases hown.2 with ⟨rfl, rfl⟩ | ⟨g, cap, cur, rfl, _, _, hnc, _⟩
  · simp [Builtin.append_, run_underlying ht, sizeOf, typeInfo, hi, Builtin.lenOf, Builtin.firstCells]
  · simp [Builtin.append_, run_underlying ht, sizeOf, typeInfo, hi, Builtin.lenOf, Builtin.firstCells, hnc, storeCells]
/-- append of any row to a row of the call's own. -/
theorem app13 {P : Program} {w : World} (base : Nat) (t ty e : TypeId) (i : TypeInfo) (z : Value) (size bytes : Nat) (ht : P.underlying t = some (.slice e)) (hi : P.info? e = some i) (hz : i.zero = some z)
    (hsize : i.size = size) (hby : i.bytes = bytes) (hzs : z.cells.size = size) (hsz : 0 < size)
    (v : Value) (n : Nat) (xs : List Value) (hown : w.ownsRow base e size v n xs) (ao : Option Addr) (m c : Nat) (l : List Value) (hl : Row13 w size ao m l)
    (h63 : n + m ≤ 100000) (hb : bytes ≤ 1000) (hbase : base ≤ w.heap.size) :
    ∃ v' w', (Builtin.append_ #[t, t] ty #[v, .slice ao m c]).run P w = .ok v' w' ∧ w'.ownsRow base e size v' (n + m) (xs ++ l) ∧ w.grownBy w' v.ownBlock := by
  have hbytes : (n + m) * bytes ≤ 140737488355328 := Nat.le_trans (Nat.mul_le_mul h63 hb) (by decide)
  have h63' : n + m ≤ maxLen := by unfold maxLen; omega
  rcases Nat.eq_zero_or_pos m with rfl | hm
  · have e0 : l = [] := List.length_eq_zero_iff.1 (by simpa using hl.1)
    subst e0
    cases ao with
    | none => exact ⟨v, w, app_none base t ty e i size ht hi v n xs hown c, by simpa using hown, rfl, rfl, rfl, Nat.le_refl _, fun _ _ _ => rfl⟩
    | some ad =>
      obtain ⟨v', w', h1, h2, h3, _⟩ := run_append_own w base t ty e i z size bytes ht hi hz hsize hby hzs hsz v n xs hown ad 0 c [] (by simp) (fun j u hu => by simp at hu) (fun u hu => by cases hu) h63' hbytes hbase
      exact ⟨v', w', h1, h2, h3⟩
  · obtain ⟨b, off, rfl, hc⟩ := hl.2.2 hm
    obtain ⟨v', w', h1, h2, h3, _⟩ := run_append_own w base t ty e i z size bytes ht hi hz hsize hby hzs hsz v n xs hown ⟨b, off, none⟩ m c l hl.1 hc hl.2.1 h63' hbytes hbase
    exact ⟨v', w', h1, h2, h3⟩
theorem grown_own {wr w1 : World} {base : Nat} {e : TypeId} {size n : Nat} {v : Value} {xs : List Value} (hsz : base ≤ wr.heap.size) (hown : wr.ownsRow base e size v n xs) (hg : wr.grownBy w1 v.ownBlock) : Below base wr w1 :=
  (Below.refl base wr).grown hg hsz (fun k hk => (World.ownsRow.lt hown k hk).1)
/-- append of any row to a row of the call's own: where the new one lies, too. -/
theorem app14 {P : Program} {w : World} (base : Nat) (t ty e : TypeId) (i : TypeInfo) (z : Value) (size bytes : Nat) (ht : P.underlying t = some (.slice e)) (hi : P.info? e = some i) (hz : i.zero = some z)
    (hsize : i.size = size) (hby : i.bytes = bytes) (hzs : z.cells.size = size) (hsz : 0 < size)
    (v : Value) (n : Nat) (xs : List Value) (hown : w.ownsRow base e size v n xs) (ao : Option Addr) (m c : Nat) (l : List Value) (hl : Row13 w size ao m l)
    (h63 : n + m ≤ 100000) (hb : bytes ≤ 1000) (hbase : base ≤ w.heap.size) :
    ∃ v' w', (Builtin.append_ #[t, t] ty #[v, .slice ao m c]).run P w = .ok v' w' ∧ w'.ownsRow base e size v' (n + m) (xs ++ l) ∧ w.grownBy w' v.ownBlock ∧ (v'.ownBlock = v.ownBlock ∨ v'.ownBlock = some w.heap.size) := by
  have hbytes : (n + m) * bytes ≤ 140737488355328 := Nat.le_trans (Nat.mul_le_mul h63 hb) (by decide)
  have h63' : n + m ≤ maxLen := by unfold maxLen; omega
  rcases Nat.eq_zero_or_pos m with rfl | hm
  · have e0 : l = [] := List.length_eq_zero_iff.1 (by simpa using hl.1)
    subst e0
    cases ao with
    | none => exact ⟨v, w, app_none base t ty e i size ht hi v n xs hown c, by simpa using hown, ⟨rfl, rfl, rfl, Nat.le_refl _, fun _ _ _ => rfl⟩, Or.inl rfl⟩
    | some ad =>
      obtain ⟨v', w', h1, h2, h3, _, h5⟩ := run_append_own_at w base t ty e i z size bytes ht hi hz hsize hby hzs hsz v n xs hown ad 0 c [] (by simp) (fun j u hu => by simp at hu) (fun u hu => by cases hu) h63' hbytes hbase
      exact ⟨v', w', h1, h2, h3, h5⟩
  · obtain ⟨b, off, rfl, hc⟩ := hl.2.2 hm
    obtain ⟨v', w', h1, h2, h3, _, h5⟩ := run_append_own_at w base t ty e i z size bytes ht hi hz hsize hby hzs hsz v n xs hown ⟨b, off, none⟩ m c l hl.1 hc hl.2.1 h63' hbytes hbase
    exact ⟨v', w', h1, h2, h3, h5⟩
theorem Row13.grown {W W' : World} {size n : Nat} {g : Nat} {l : List Value} {row : Option Nat} (h : Row13 W size (some ⟨g, 0, none⟩) n l) (hg : W.grownBy W' row) (hn : some g ≠ row) : Row13 W' size (some ⟨g, 0, none⟩) n l :=
  ⟨h.1, h.2.1, fun hp => by
    obtain ⟨b, off, e, hc⟩ := h.2.2 hp
    injection e with e
    injection e with e1 e2 _
    subst e1 e2
    refine ⟨g, 0, rfl, fun j u hu => ?_⟩
    have := hc j u hu
    rw [add_plain13] at this ⊢
    exact hg.cell this hn⟩
theorem Row13.alloc {W : World} {size n : Nat} {ao : Option Addr} {l : List Value} (h : Row13 W size ao n l) (o : Obj) : Row13 (W.alloc o) size ao n l := h.below ((Below.refl _ _).alloc (Nat.le_refl _) o)
theorem il_app (l m : List Int) : il l ++ il m = il (l ++ m) := by simp [il]
theorem row_one (W : World) (x : Int) : Row13 (W.alloc (.cells #[.int .i64 x] 3)) 1 (some ⟨W.heap.size, 0, none⟩) 1 [.int .i64 x] :=
  ⟨rfl, fun u hu => by simp at hu; subst hu; rfl, fun _ => ⟨W.heap.size, 0, rfl, fun j u hu => by
    match j, hu with
    | 0, hu => obtain rfl : Value.int .i64 x = u := by simpa using hu
               simp [go_sem, World.cell?_alloc_new, Addr.add]
    | j + 1, hu => simp at hu⟩⟩
theorem days_one (W : World) (x : Int) : DaysAt (W.alloc (.cells #[.int .i64 x] 3)) (some ⟨W.heap.size, 0, none⟩) (fun _ => x) 1 1 :=
  ⟨Nat.le_refl _, fun _ => ⟨W.heap.size, 0, rfl, fun j hj => by
    obtain rfl : j = 0 := by omega
    simp [World.cell?_alloc_new]⟩⟩
theorem DaysAt.drop {W : World} {X : Nat → Int} {n cap k : Nat} {b off : Nat} (h : DaysAt W (some ⟨b, off, .none⟩) X n cap) (hk : k ≤ n) : DaysAt W (some ⟨b, off + k, .none⟩) (fun i => X (k + i)) (n - k) (cap - k) :=
  ⟨by have := h.1; omega, fun hn => by
    obtain ⟨b', off', e, hc⟩ := h.2 (by omega)
    injection e with e
    injection e with e1 e2 _
    subst e1 e2
    exact ⟨b, off + k, rfl, fun j hj => by rw [Nat.add_assoc]; exact hc (k + j) (by omega)⟩⟩
theorem DaysAt.take {W : World} {ao : Option Addr} {X : Nat → Int} {n cap k : Nat} (h : DaysAt W ao X n cap) (hk : k ≤ n) : DaysAt W ao X k cap :=
  ⟨by have := h.1; omega, fun hn => by
    obtain ⟨b, off, e, hc⟩ := h.2 (by omega)
    exact ⟨b, off, e, fun j hj => hc j (by omega)⟩⟩
set_option maxHeartbeats 4000000 in
set_option maxRecDepth 100000 in
theorem cgrow_d (n : Nat) (m : Int) (w : World) (hm : m = n) (hn : n ≤ 4000) : Calls Tryz.prog 45 #[.slice none 0 0, .int .i64 m] w fun e w' => ∃ v, e = .returned v ∧ w'.ownsRow w.heap.size 3 1 v 0 [] ∧ Below w.heap.size w w' := by
  obtain ⟨i0, hi, hz0, hz1, hz2⟩ := info_parts infoInt13
  subst hm
  rcases Nat.eq_zero_or_pos n with rfl | hp
  · go_enter Tryz.func45, Tryz.ntmps45
    go_wp2
    go_ret
    exact ⟨_, rfl, World.ownsRow_nil _ _ _ _, Below.refl _ _⟩
  · have hr : ∀ ty v, (Builtin.append_ #[27, 3] ty #[.slice none 0 0, .int .i64 (n : Int)]).run Tryz.prog v = _ := fun ty v => Lib.run_append_nil_zeros v 27 3 ty 3 i0 (.int .i64 0) .i64 .i64 Tryz.underlying27 Tryz.underlying3 hi hz0 n hp (by rw [hz1]; decide) (by omega) (by rw [hz2]; omega)
    have HR := Lib.hid hr
    clear hr
    go_enter Tryz.func45, Tryz.ntmps45
    go_wp2_with (first
      | (at_builtin; refine Lib.wpList_append_run _ rfl _ _ _ _ rfl _ _ rfl rfl _ _ (HR.out _ _) ?_)
      | go_in)
    go_ret
    have g1 := grownCap_ge w n 0 3
    have g2 := grownCap_le_maxLen w n 0 3 (by unfold maxLen; omega)
    refine ⟨_, rfl, World.ownsRow_made w.drew _ _ (Nat.le_refl _) g2 ?_, ?_⟩
    · rw [Array.size_append, size_zeroCells, size_zeroCells]
      show n * 1 + (grownCap w n 0 3 - n) * 1 = _
      rw [← Nat.add_mul]
      congr 1
      omega
    · exact (drewN_below 1).alloc (Nat.le_refl _) _
def pick4 {α : Type} (a b c d : α) : Nat → α
  | 0 => a
  | 1 => b
  | 2 => c
  | _ => d
theorem pick4_0 {α : Type} (a b c d : α) : pick4 a b c d 0 = a := rfl
theorem pick4_1 {α : Type} (a b c d : α) : pick4 a b c d 1 = b := rfl
theorem pick4_2 {α : Type} (a b c d : α) : pick4 a b c d 2 = c := rfl
theorem pick4_3 {α : Type} (a b c d : α) : pick4 a b c d 3 = d := rfl
set_option maxHeartbeats 8000000 in
set_option maxRecDepth 100000 in
theorem ccat_3 (B : Nat) (a1 : Option Addr) (n1 c1 : Nat) (l1 : List Value) (a2 : Option Addr) (n2 c2 : Nat) (l2 : List Value) (a3 : Option Addr) (n3 c3 : Nat) (l3 : List Value) (w : World) (h1 : w.cell? ⟨B, 0, none⟩ = some (.slice a1 n1 c1)) (h2 : w.cell? ⟨B, 1, none⟩ = some (.slice a2 n2 c2)) (h3 : w.cell? ⟨B, 2, none⟩ = some (.slice a3 n3 c3))
    (r1 : Row13 w 1 a1 n1 l1) (r2 : Row13 w 1 a2 n2 l2) (r3 : Row13 w 1 a3 n3 l3) (b1 : n1 ≤ 1300) (b2 : n2 ≤ 1300) (b3 : n3 ≤ 1300) :
    Calls Tryz.prog 31 #[.slice (some ⟨B, 0, none⟩) 3 3] w fun e w' => ∃ v, e = .returned v ∧ w'.ownsRow w.heap.size 3 1 v (n1 + n2 + n3) (l1 ++ l2 ++ l3) ∧ Below w.heap.size w w' := by
  obtain ⟨i0, hi, hz0, hz1, hz2⟩ := info_parts infoInt13
  have R1 := Lib.hid r1
  have R2 := Lib.hid r2
  have R3 := Lib.hid r3
  have C := Lib.hid (fun v => cgrow_d (n1 + n2 + n3) ((n1 : Int) + (n2 : Int) + (n3 : Int)) v (by omega) (by omega))
  clear r1 r2 r3
  go_enter Tryz.func31, Tryz.ntmps31
  go_wp2_with fail
  go_loop [11, 3] (fun i u => ∃ j : Nat, j ≤ 3 ∧ i = .int .i64 j ∧ u = .int .i64 ((pick4 0 n1 (n1 + n2) (n1 + n2 + n3) j : Nat) : Int)) (fun i _ => 3 - (intOf i).toNat)
  case atStart => exact ⟨0, by omega, rfl, rfl⟩
  case round =>
    obtain ⟨j, j2, rfl, rfl⟩ := hrel
    match j, j2 with
    | 0, _ =>
      rw [pick4_0]
      go_wp2
      go_round
      case rel => exact ⟨1, by omega, rfl, by rw [pick4_1]; try simp⟩
      case measure => simp [intOf]
    | 1, _ =>
      rw [pick4_1]
      go_wp2
      go_round
      case rel => exact ⟨2, by omega, rfl, by rw [pick4_2]; try simp⟩
      case measure => simp [intOf]
    | 2, _ =>
      rw [pick4_2]
      go_wp2
      go_round
      case rel => exact ⟨3, by omega, rfl, by rw [pick4_3]; try simp⟩
      case measure => simp [intOf]
    | 3, _ =>
      rw [pick4_3]
      go_wp2_with fail
      (with_reducible refine (C.out _).mono ?_)
      rintro e w1 ⟨v1, rfl, hown, hB⟩
      have HO := Lib.hid hown
      clear hown C
      go_wp2_with fail
      go_loopw [27, 6] (fun i v W' => ∃ j : Nat, j ≤ 3 ∧ i = .int .i64 j ∧ W'.ownsRow w.heap.size 3 1 v (pick4 0 n1 (n1 + n2) (n1 + n2 + n3) j) (pick4 [] l1 (l1 ++ l2) (l1 ++ l2 ++ l3) j) ∧ Below w.heap.size w W') (fun i _ _ => 3 - (intOf i).toNat)
      case atStart => exact ⟨0, by omega, rfl, HO.out, hB⟩
      case round =>
        clear hB
        obtain ⟨j, j2, rfl, hown, hB⟩ := hrel
        have hsz : w.heap.size ≤ wr.heap.size := hB.size
        have HO := Lib.hid hown
        clear hown
        match j, j2 with
        | 0, _ =>
          have k1 := keep hB (cell_lt h1) h1
          obtain ⟨v', w', hr, ho, hg⟩ := app13 w.heap.size 27 27 3 i0 (.int .i64 0) 1 8 Tryz.underlying27 hi hz0 hz1 hz2 rfl (by decide) _ _ _ HO.out a1 n1 c1 l1 (R1.out.below hB) (by rw [pick4_0]; omega) (by decide) hsz
          have hB2 := hB.trans (grown_own hsz HO.out hg)
          have HR := Lib.hid hr
          have HN := Lib.hid ho
          clear hr ho hg
          go_wp2_with (first
            | (at_builtin; refine Lib.wpList_append_run _ rfl _ _ _ _ rfl _ _ rfl rfl _ _ HR.out ?_)
            | go_in)
          go_roundw
          case rel => exact ⟨1, by omega, rfl, by have := HN.out; rw [pick4_0, pick4_0, Nat.zero_add, List.nil_append] at this; exact this, hB2⟩
          case measure => simp [intOf]
        | 1, _ =>
          have k1 := keep hB (cell_lt h2) h2
          obtain ⟨v', w', hr, ho, hg⟩ := app13 w.heap.size 27 27 3 i0 (.int .i64 0) 1 8 Tryz.underlying27 hi hz0 hz1 hz2 rfl (by decide) _ _ _ HO.out a2 n2 c2 l2 (R2.out.below hB) (by rw [pick4_1]; omega) (by decide) hsz
          have hB2 := hB.trans (grown_own hsz HO.out hg)
          have HR := Lib.hid hr
          have HN := Lib.hid ho
          clear hr ho hg
          go_wp2_with (first
            | (at_builtin; refine Lib.wpList_append_run _ rfl _ _ _ _ rfl _ _ rfl rfl _ _ HR.out ?_)
            | go_in)
          go_roundw
          case rel => exact ⟨2, by omega, rfl, HN.out, hB2⟩
          case measure => simp [intOf]
        | 2, _ =>
          have k1 := keep hB (cell_lt h3) h3
          obtain ⟨v', w', hr, ho, hg⟩ := app13 w.heap.size 27 27 3 i0 (.int .i64 0) 1 8 Tryz.underlying27 hi hz0 hz1 hz2 rfl (by decide) _ _ _ HO.out a3 n3 c3 l3 (R3.out.below hB) (by rw [pick4_2]; omega) (by decide) hsz
          have hB2 := hB.trans (grown_own hsz HO.out hg)
          have HR := Lib.hid hr
          have HN := Lib.hid ho
          clear hr ho hg
          go_wp2_with (first
            | (at_builtin; refine Lib.wpList_append_run _ rfl _ _ _ _ rfl _ _ rfl rfl _ _ HR.out ?_)
            | go_in)
          go_roundw
          case rel => exact ⟨3, by omega, rfl, HN.out, hB2⟩
          case measure => simp [intOf]
        | 3, _ =>
          go_wp2
          go_ret
          exact ⟨_, rfl, HO.out, hB⟩
end Go.Proofs.YtjijgcgbnmobfaaGreatDoor
