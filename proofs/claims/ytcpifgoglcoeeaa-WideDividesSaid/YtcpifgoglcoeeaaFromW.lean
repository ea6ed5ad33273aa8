/- The reference's numbers of any size: a wide number, an int, 2^128, and whether a number is a wide one. -/
import Derived.Test.YtcpifgoglcoeeaaBigN
namespace Go.Proofs.Ytcpifgoglcoeeaa
open Go.RowKit

/-- What is loaded while a wide number is taken apart: its halves, and 2^32. -/
structure Wided (w : World) (B h : Nat) (xh xl : Int) (vh : Value) (W : World) : Prop where
  c0 : W.cell? ⟨B, 0, none⟩ = some (.int .u64 xh)
  c1 : W.cell? ⟨B, 1, none⟩ = some (.int .u64 xl)
  ch : W.cell? ⟨h, 0, none⟩ = some vh
  nh : BigN W vh 4294967296 5
  rf : W.frozen? ⟨B + 1, 0, none⟩ = false
  old : Below B w W
  size : B + 2 ≤ W.heap.size
theorem Wided.below {w : World} {B h : Nat} {xh xl : Int} {vh : Value} {W W' : World} (k : Wided w B h xh xl vh W) (hb : Below W.heap.size W W') : Wided w B h xh xl vh W' :=
  ⟨keep hb (cell_lt k.c0) k.c0, keep hb (cell_lt k.c1) k.c1, keep hb (cell_lt k.ch) k.ch, k.nh.below hb, frozen_below hb (by have := k.size; omega) k.rf, k.old.trans (hb.mono (by have := k.size; omega)), by have := k.size; have := hb.size; omega⟩

theorem Wided.drew {w : World} {B h : Nat} {xh xl : Int} {vh : Value} {W : World} (k : Wided w B h xh xl vh W) : Wided w B h xh xl vh W.drew := ⟨k.c0, k.c1, k.ch, k.nh, k.rf, k.old.drew, k.size⟩
theorem Wided.stored {w : World} {B h : Nat} {xh xl : Int} {vh : Value} {W : World} (k : Wided w B h xh xl vh W) (hh : B + 2 ≤ h) (hv : ∀ g, vh.ownBlock = some g → B + 2 ≤ g) (u : Value) : Wided w B h xh xl vh (W.setCell ⟨B + 1, 0, none⟩ u) :=
  ⟨by rw [World.cell?_setCell_far _ _ _ _ (by simp)]; exact k.c0, by rw [World.cell?_setCell_far _ _ _ _ (by simp)]; exact k.c1, by rw [World.cell?_setCell_far _ _ _ _ (by simp; omega)]; exact k.ch, bigN_set_old k.nh hv (by simp), by rw [World.frozen?_setCell]; exact k.rf, k.old.setCell (by simp) _, by simpa using k.size⟩
theorem widedS {w : World} {B h : Nat} {xh xl : Int} {vh : Value} {W : World} (k : W.cell? ⟨B, 0, none⟩ = some (.int .u64 xh) ∧ W.cell? ⟨B, 1, none⟩ = some (.int .u64 xl) ∧ W.cell? ⟨h, 0, none⟩ = some vh ∧ Wided w B h xh xl vh W) : Wided w B h xh xl vh W := k.2.2.2
theorem widedS' {w : World} {B h : Nat} {xh xl : Int} {vh : Value} {W : World} (k : Wided w B h xh xl vh W) : W.cell? ⟨B, 0, none⟩ = some (.int .u64 xh) ∧ W.cell? ⟨B, 1, none⟩ = some (.int .u64 xl) ∧ W.cell? ⟨h, 0, none⟩ = some vh ∧ Wided w B h xh xl vh W := ⟨k.c0, k.c1, k.ch, k⟩
theorem wided_start {w w1 : World} {xh xl : Int} {vh z : Value} {t t2 : TypeId} (nh : BigN w1 vh 4294967296 5) (hb : Below ((w.alloc (.cells #[.int .u64 xh, .int .u64 xl] t)).alloc (.cells #[z] t2)).heap.size ((w.alloc (.cells #[.int .u64 xh, .int .u64 xl] t)).alloc (.cells #[z] t2)) w1) :
    Wided w w.heap.size w1.heap.size xh xl vh (w1.alloc (.cells #[vh] t2)) ∧ (w1.alloc (.cells #[vh] t2)).cell? ⟨w.heap.size + 1, 0, none⟩ = some z ∧ w.heap.size + 2 ≤ w1.heap.size := by
  have hs := hb.size
  simp at hs
  have k := fun (o : Nat) (v : Value) (e : ((w.alloc (.cells #[.int .u64 xh, .int .u64 xl] t)).alloc (.cells #[z] t2)).cell? ⟨w.heap.size, o, none⟩ = some v) => keep hb (by simp; omega) e
  have k1 : w1.cell? ⟨w.heap.size + 1, 0, none⟩ = some z := keep hb (by simp) (by simp [go_sem])
  have f1 : w1.frozen? ⟨w.heap.size + 1, 0, none⟩ = false := frozen_below hb (by simp) (by simp [go_sem])
  refine ⟨⟨new_cell (k 0 _ (by simp [go_sem])) (by omega), new_cell (k 1 _ (by simp [go_sem])) (by omega), by simp [World.cell?_alloc_new], nh.alloc _, ?_, ?_, by simp; omega⟩, new_cell k1 (by omega), hs⟩
  · exact frozen_below (Below.refl _ _ |>.alloc (Nat.le_refl _) _) (by omega) f1
  · exact ((((Below.refl _ _).alloc (Nat.le_refl _) _).alloc (by simp) _).trans (hb.mono (by simp <;> omega))).alloc (by omega) _
theorem wn_parts (xh xl : Int) : xh * 4294967296 * 4294967296 + xl = wn xh xl := by unfold wn; omega

set_option maxHeartbeats 1600000 in
set_option maxRecDepth 100000 in
theorem fromW_n (xh xl : Int) (w : World) (h0 : 0 ≤ xh) (h1 : xh < 18446744073709551616) (l0 : 0 ≤ xl) (l1 : xl < 18446744073709551616) :
    Calls Try.prog 11 #[.agg #[.int .u64 xh, .int .u64 xl]] w (NumOut (wn xh xl) 18 w) := by
  go_enter Try.func11, Try.ntmps11
  go_wp2_with fail
  (with_reducible refine (fromU_n 4294967296 _ (by omega) (by omega)).mono ?_)
  rintro e w1 ⟨ha, hk, hc, rfl, nh, fh, hb⟩
  obtain ⟨K1, R, K3⟩ := wided_start nh hb
  have FH : Hid (∀ g, (Value.slice ha hk hc).ownBlock = some g → w.heap.size + 2 ≤ g) := Lib.hid (by simpa using fh)
  clear fh nh hb
  go_wp2_with fail
  obtain ⟨B, hB⟩ : ∃ B, w.heap.size = B := ⟨_, rfl⟩
  rw [hB] at K1 R K3 FH ⊢
  obtain ⟨hh, hhe⟩ : ∃ h, w1.heap.size = h := ⟨_, rfl⟩
  rw [hhe] at K1 K3 ⊢
  generalize w1.alloc (.cells #[.slice ha hk hc] 28) = W1 at K1 R ⊢
  have RF := K1.rf
  have HS := Lib.hid (widedS' K1.drew)
  clear K1
  go_region_held3 (fun w' => w'.cell? ⟨B, 0, none⟩ = some (.int .u64 xh) ∧ w'.cell? ⟨B, 1, none⟩ = some (.int .u64 xl) ∧ w'.cell? ⟨hh, 0, none⟩ = some (.slice ha hk hc) ∧ Wided w B hh xh xl (.slice ha hk hc) w')
    (first | exact HS.out | (refine widedS' (Wided.below (widedS ?_) hb); assumption) | (refine widedS' (Wided.stored (widedS ?_) K3 FH.out _); assumption))
    (first
      | (go_at_call 12; (with_reducible refine (fromU_n xh _ (by omega) (by omega)).mono ?_); rintro e w' ⟨xa, xk, xc, rfl, NX, -, hb⟩; replace RF := frozen_below hb (cell_lt R) RF; replace R := keep hb (cell_lt R) R; (try replace NL := NL.below hb))
      | (go_at_call 12; (with_reducible refine (fromU_n xl _ (by omega) (by omega)).mono ?_); rintro e w' ⟨la, lk, lc, rfl, NL, -, hb⟩; replace RF := frozen_below hb (cell_lt R) RF; replace R := keep hb (cell_lt R) R; (try replace NX := NX.below hb); (try replace NP := NP.below hb); (try replace NQ := NQ.below hb))
      | (go_at_call 17; (with_reducible refine (prod_n (.slice xa xk xc) (.slice ha hk hc) xh 4294967296 5 5 _ NX (Wided.nh (widedS (by assumption))) (by omega) (by omega)).mono ?_); rintro e w' ⟨pa, pk, pc, rfl, NP, -, hb⟩; replace RF := frozen_below hb (cell_lt R) RF; replace R := keep hb (cell_lt R) R; clear NX; (try replace NL := NL.below hb))
      | (go_at_call 17; (with_reducible refine (prod_n (.slice pa pk pc) (.slice ha hk hc) (xh * 4294967296) 4294967296 11 5 _ NP (Wided.nh (widedS (by assumption))) (by omega) (by omega)).mono ?_); rintro e w' ⟨qa, qk, qc, rfl, NQ, -, hb⟩; replace RF := frozen_below hb (cell_lt R) RF; replace R := keep hb (cell_lt R) R; clear NP; (try replace NL := NL.below hb))
      | (go_at_call 18; (with_reducible refine (plus_n (.slice qa qk qc) (.slice la lk lc) (xh * 4294967296 * 4294967296) xl 17 5 _ NQ NL (by omega) (by omega)).mono ?_); rintro e w' ⟨sa, sk, sc, rfl, NS, FS, hb⟩; replace FS : Hid (∀ g, (Value.slice sa sk sc).ownBlock = some g → B + 2 ≤ g) := Lib.hid (fun g hg => Nat.le_trans (Wided.size (widedS (by assumption))) (FS g hg)); replace RF := frozen_below hb (cell_lt R) RF; replace R := keep hb (cell_lt R) R; clear NQ NL))
  have K9 := widedS (by assumption)
  rw [wn_parts] at NS
  have FIN := Lib.hid (And.intro K9.old (bigN_set_old (B := B + 2) (p := ⟨B + 1, 0, none⟩) (u := .slice sa sk sc) NS FS.out (by simp)))
  clear K9 NS
  go_wp2
  refine bodyPost_ret (v := .agg #[.slice sa sk sc]) (by simp [results, Try.results11, go_sem, R]) rfl ⟨_, _, _, rfl, FIN.out.2, fun g hg => by have := FS.out g hg; omega, ?_⟩
  rw [hB]; exact FIN.out.1
end Go.Proofs.Ytcpifgoglcoeeaa
