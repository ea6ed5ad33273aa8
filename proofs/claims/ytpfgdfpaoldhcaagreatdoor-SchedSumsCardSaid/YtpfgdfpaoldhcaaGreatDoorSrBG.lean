/- Several texts in one: RefBig, RefArith, GAc~W, GIc~W, ScNum~W, ScOpen~W, ScLawNum~W. -/
import Derived.Test.YtpfgdfpaoldhcaaGreatDoorSrAJ
import Derived.Test.YtpfgdfpaoldhcaaGreatDoorSrBF
import Derived.ChangeSlices
import Derived.Deep.Slices
import Derived.Stop.LaidErr
import Derived.Stop.LaidTwo
import Derived.LaidHandle
import Derived.LaidLaws
import Derived.Test.YtpfgdfpaoldhcaaGreatDoorRows
import Derived.Test.YtpfgdfpaoldhcaaGreatDoorTie
import Derived.Test.YtpfgdfpaoldhcaaGreatDoorCards
import Derived.ProofKit
import Derived.ChangeMaps5
import Derived.OpenShut
import Derived.ChangeOld
import Derived.LaidMore
import Derived.LaidOnce
import Derived.Stop.Joined
import Derived.MakeChecks
import Derived.SevenTiedAt
set_option maxHeartbeats 8000000
set_option maxRecDepth 100000
set_option linter.unusedVariables false
set_option linter.unusedSimpArgs false
namespace Go.Proofs.YtpfgdfpaoldhcaaGreatDoor
open Go.RowKit
def TwoOut (n d : Int) (w : World) (e : Ending) (w' : World) : Prop := ∃ a k c a2 k2 c2, e = .returned (.tuple #[.agg #[.slice a k c], .agg #[.slice a2 k2 c2]]) ∧ BigN w' (.slice a k c) n 5 ∧ BigN w' (.slice a2 k2 c2) d 5 ∧
 (∀ g, (Value.slice a k c).ownBlock = some g → w.heap.size ≤ g) ∧ (∀ g, (Value.slice a2 k2 c2).ownBlock = some g → w.heap.size ≤ g) ∧ Below w w w'
theorem two_out {w W : World} {B : Nat} {n d : Int} {a a2 : Option Addr} {k c k2 c2 : Nat} (hB : w.heap.size = B) (h1 : BigN W (.slice a k c) n 5) (h2 : BigN W (.slice a2 k2 c2) d 5) (f1 : ∀ g, (Value.slice a k c).ownBlock = some g → B + 3 ≤ g) (f2 : ∀ g, (Value.slice a2 k2 c2).ownBlock = some g → B + 3 ≤ g) (old : Below B w W) :
  TwoOut n d w (.returned (.tuple #[.agg #[.slice a k c], .agg #[.slice a2 k2 c2]])) ((W.setCell ⟨B + 1, 0, none⟩ (.slice a k c)).setCell ⟨B + 2, 0, none⟩ (.slice a2 k2 c2)) := by
 subst hB
 refine ⟨a, k, c, a2, k2, c2, rfl, zAz (zAz h1 f1 zs) f1 zs, zAz (zAz h2 f2 zs) f2 zs, fun g hg => by have := f1 g hg; omega, fun g hg => by have := f2 g hg; omega, (old.setCell zs _).setCell zs _⟩
theorem big_n (n d : Int) (w : World) (n0 : 0 ≤ n) (n1 : n < 9223372036854775808) (d0 : 0 ≤ d) (d1 : d < 9223372036854775808) :
  Calls Tryz.prog 41 #[.agg #[n, d]] w (TwoOut n d w) := by
 have H := Held.start w
 obtain ⟨B, hB⟩ : ∃ B, w.heap.size = B := ⟨_, rfl⟩
 have HB := zh hB
 clear hB
 go_enter Tryz.func41, Tryz.ntmps41
 go_wp2_with fail
 replace H := (((H.pair w n d 48 rfl).lone (w + 1) (.slice none 0 0) 68 zs).lone (w + 2) (.slice none 0 0) 68 zs)
 obtain ⟨ca0, ca1⟩ := H.cells2 w
 have la := H.lt w 0 n i4_
 have cp0 := H.cell (w + 1) 0 _ i2_
 have lp := H.lt (w + 1) 0 (.slice none 0 0) i2_
 have cq0 := H.cell (w + 2) 0 _ i0_
 have lq := H.lt (w + 2) 0 (.slice none 0 0) i0_
 have fp0 := H.frozen (w + 1) 0 i3_
 have fq0 := H.frozen (w + 2) 0 i1_
 replace H := H.drew
 go_region_with
  (first
   | (go_at_call 33; (with_reducible refine (zCb n _ zo zo).mono ?_); rintro e w' ⟨sa, sk, sc, rfl, NN, FN, hb⟩; have FS := zh (fun g hg => show w.heap.size + 3 ≤ g from Nat.le_trans (H.lt (w + 2) 0 (.slice none 0 0)) (FN g hg)); replace H := (H.below hb).num NN; clear hb NN FN; replace ca0 := H.cell w 0 n; replace ca1 := H.cell w 1 d; replace la := H.lt w 0 n; replace cp0 := H.cell (w + 1) 0 (.slice none 0 0); replace lp := H.lt (w + 1) 0 (.slice none 0 0); replace cq0 := H.cell (w + 2) 0 (.slice none 0 0); replace lq := H.lt (w + 2) 0 (.slice none 0 0); replace fp0 := H.frozen (w + 1) 0; replace fq0 := H.frozen (w + 2) 0)
   | (go_at_call 33; (with_reducible refine (zCb d _ zo zo).mono ?_); rintro e w' ⟨ta, tk, tc, rfl, NN, FN, hb⟩; have FT := zh (fun g hg => show w.heap.size + 3 ≤ g from Nat.le_trans (H.lt (w + 2) 0 (.slice none 0 0)) (FN g hg)); replace H := (H.below hb).num NN; clear hb NN FN; replace ca0 := H.cell w 0 n; replace ca1 := H.cell w 1 d; replace la := H.lt w 0 n; replace cp0 := H.cell (w + 1) 0 (.slice none 0 0); replace lp := H.lt (w + 1) 0 (.slice none 0 0); replace cq0 := H.cell (w + 2) 0 (.slice none 0 0); replace lq := H.lt (w + 2) 0 (.slice none 0 0); replace fp0 := H.frozen (w + 1) 0; replace fq0 := H.frozen (w + 2) 0))
 all_goals
  have FIN := zh (two_out rfl (H.big (.slice sa sk sc) n 5) (H.big (.slice ta tk tc) d 5) FS.out FT.out H.old)
  go_wp2
  exact bodyPost_ret (v := .tuple #[.agg #[.slice sa sk sc], .agg #[.slice ta tk tc]]) (by simp [results, Tryz.results41, go_sem, cp0, cq0]) rfl FIN.out
theorem zHu (an ad bn bd : Int) (w : World) (ha : zAi an ad = true) (hb : zAi bn bd = true) :
  Calls Tryz.prog 18 #[.agg #[an, ad], .agg #[bn, bd]] w fun e w' => e = .returned (.tuple #[.agg #[(rN (an * bd + bn * ad) (ad * bd):Int), (rD (an * bd + bn * ad) (ad * bd):Int)], (rE (an * bd + bn * ad) (ad * bd):Int)]) ∧ Below w w w' := by
 have H := Held.start w
 obtain ⟨a0, a1, a2, a3, -⟩ := (zBb an ad).1 ha
 obtain ⟨b0, b1, b2, b3, -⟩ := (zBb bn bd).1 hb
 have tp : 0 < ad * bd := Int.mul_pos zo zo
 obtain ⟨rn, RN⟩ : ∃ x, Hid (rN (an * bd + bn * ad) (ad * bd) = x) := ⟨_, zh rfl⟩
 obtain ⟨rd, RD⟩ : ∃ x, Hid (rD (an * bd + bn * ad) (ad * bd) = x) := ⟨_, zh rfl⟩
 obtain ⟨re, RE⟩ : ∃ x, Hid (rE (an * bd + bn * ad) (ad * bd) = x) := ⟨_, zh rfl⟩
 rw [RN.out, RD.out, RE.out]
 clear ha hb
 go_enter Tryz.func18, Tryz.ntmps18
 go_wp2_with fail
 replace H := (((H.pair w an ad 48 rfl).pair (w + 1) bn bd 48 zs).pair (w + 2) (0:Int) (0:Int) 48 zs)
 have lz := H.lt (w + 2) 0 (0:Int)
 with_reducible refine (big_n an ad _ zo zo zo zo).mono ?_
 rintro e w1 ⟨pa, pk, pc, qa, qk, qc, rfl, N1, N2, F1, F2, hb⟩
 replace H := H.below hb
 clear hb
 have Fp := zh (fun g hg => show w.heap.size + 3 ≤ g from Nat.le_trans lz (F1 g hg))
 have Fq := zh (fun g hg => show w.heap.size + 3 ≤ g from Nat.le_trans lz (F2 g hg))
 replace H := (H.num N1).num N2
 have z0 := H.lt (w + 2) 0 (0:Int)
 clear N1 N2 F1 F2 lz
 obtain ⟨cb0, cb1⟩ := H.cells2 (w + 1)
 have lb := H.lt (w + 1) 0 bn i6_
 have lb_0 := Nat.lt_trans (show w.heap.size < w.heap.size + 1 by omega) lb
 go_wp2_with fail
 clear cb0 cb1 lb lb_0
 replace H := ((H.lone w1 (.slice pa pk pc) 68 rfl).lone (w1 + 1) (.slice qa qk qc) 68 zs)
 have lz := H.lt (w + 2) 0 (0:Int)
 with_reducible refine (big_n bn bd _ zo zo zo zo).mono ?_
 rintro e w2 ⟨ra, rk, rc, sa, sk, sc, rfl, N1, N2, F1, F2, hb⟩
 replace H := H.below hb
 clear hb
 have Fr := zh (fun g hg => show w.heap.size + 3 ≤ g from Nat.le_trans lz (F1 g hg))
 have Fs := zh (fun g hg => show w.heap.size + 3 ≤ g from Nat.le_trans lz (F2 g hg))
 replace H := (H.num N1).num N2
 have z1 := H.lt (w + 2) 0 (0:Int)
 clear N1 N2 F1 F2 lz
 go_wp2_with fail
 replace H := ((H.lone w2 (.slice ra rk rc) 68 rfl).lone (w2 + 1) (.slice sa sk sc) 68 zs)
 replace H := H.is (w + 2) 1 (0:Int)
 replace H := H.is (w + 2) 0 (0:Int)
 replace H : Held w [.is (w + 2) 0, .is (w + 2) 1, .free (w + 2) 0, .free (w + 2) 1, .cell w1 0 (.slice pa pk pc), .cell (w1 + 1) 0 (.slice qa qk qc), .cell w2 0 (.slice ra rk rc), .cell (w2 + 1) 0 (.slice sa sk sc), .num (.slice pa pk pc) (an) 5, .num (.slice qa qk qc) (ad) 5, .num (.slice ra rk rc) (bn) 5, .num (.slice sa sk sc) (bd) 5] _ := H.sub (fun f hf => by
  simp only [List.mem_cons, List.not_mem_nil, or_false] at hf
  rcases hf with rfl | rfl | rfl | rfl | rfl | rfl | rfl | rfl | rfl | rfl | rfl | rfl
  all_goals exact zm)
 have KS : Hid (∀ w' : World, Held w [.is (w + 2) 0, .is (w + 2) 1, .free (w + 2) 0, .free (w + 2) 1, .cell w1 0 (.slice pa pk pc), .cell (w1 + 1) 0 (.slice qa qk qc), .cell w2 0 (.slice ra rk rc), .cell (w2 + 1) 0 (.slice sa sk sc), .num (.slice pa pk pc) (an) 5, .num (.slice qa qk qc) (ad) 5, .num (.slice ra rk rc) (bn) 5, .num (.slice sa sk sc) (bd) 5] w' → w'.cell? ⟨w1, 0, none⟩ = some (.slice pa pk pc) ∧ w'.cell? ⟨w1 + 1, 0, none⟩ = some (.slice qa qk qc) ∧ w'.cell? ⟨w2, 0, none⟩ = some (.slice ra rk rc) ∧ w'.cell? ⟨w2 + 1, 0, none⟩ = some (.slice sa sk sc) ∧ w'.frozen? ⟨w + 2, 0, none⟩ = false ∧ (w'.cell? ⟨w + 2, 0, none⟩).isSome = true ∧ w'.frozen? ⟨w + 2, 1, none⟩ = false ∧ (w'.cell? ⟨w + 2, 1, none⟩).isSome = true ∧ Held w [.is (w + 2) 0, .is (w + 2) 1, .free (w + 2) 0, .free (w + 2) 1, .cell w1 0 (.slice pa pk pc), .cell (w1 + 1) 0 (.slice qa qk qc), .cell w2 0 (.slice ra rk rc), .cell (w2 + 1) 0 (.slice sa sk sc), .num (.slice pa pk pc) (an) 5, .num (.slice qa qk qc) (ad) 5, .num (.slice ra rk rc) (bn) 5, .num (.slice sa sk sc) (bd) 5] w') := zh (fun _ h => ⟨h.cell w1 0 (.slice pa pk pc) i4_, h.cell (w1 + 1) 0 (.slice qa qk qc) i5_, h.cell w2 0 (.slice ra rk rc) i6_, h.cell (w2 + 1) 0 (.slice sa sk sc) i7_, h.frozen (w + 2) 0 i2_, h.some (w + 2) 0 i0_, h.frozen (w + 2) 1 i3_, h.some (w + 2) 1 i1_, h⟩)
 have KH : Hid (∀ w' : World, w'.cell? ⟨w1, 0, none⟩ = some (.slice pa pk pc) ∧ w'.cell? ⟨w1 + 1, 0, none⟩ = some (.slice qa qk qc) ∧ w'.cell? ⟨w2, 0, none⟩ = some (.slice ra rk rc) ∧ w'.cell? ⟨w2 + 1, 0, none⟩ = some (.slice sa sk sc) ∧ w'.frozen? ⟨w + 2, 0, none⟩ = false ∧ (w'.cell? ⟨w + 2, 0, none⟩).isSome = true ∧ w'.frozen? ⟨w + 2, 1, none⟩ = false ∧ (w'.cell? ⟨w + 2, 1, none⟩).isSome = true ∧ Held w [.is (w + 2) 0, .is (w + 2) 1, .free (w + 2) 0, .free (w + 2) 1, .cell w1 0 (.slice pa pk pc), .cell (w1 + 1) 0 (.slice qa qk qc), .cell w2 0 (.slice ra rk rc), .cell (w2 + 1) 0 (.slice sa sk sc), .num (.slice pa pk pc) (an) 5, .num (.slice qa qk qc) (ad) 5, .num (.slice ra rk rc) (bn) 5, .num (.slice sa sk sc) (bd) 5] w' → Held w [.is (w + 2) 0, .is (w + 2) 1, .free (w + 2) 0, .free (w + 2) 1, .cell w1 0 (.slice pa pk pc), .cell (w1 + 1) 0 (.slice qa qk qc), .cell w2 0 (.slice ra rk rc), .cell (w2 + 1) 0 (.slice sa sk sc), .num (.slice pa pk pc) (an) 5, .num (.slice qa qk qc) (ad) 5, .num (.slice ra rk rc) (bn) 5, .num (.slice sa sk sc) (bd) 5] w') := zh (fun _ h => h.2.2.2.2.2.2.2.2)
 have ST0 : Hid (∀ (W : World) (u : Value) (o : Nat), Held w [.is (w + 2) 0, .is (w + 2) 1, .free (w + 2) 0, .free (w + 2) 1, .cell w1 0 (.slice pa pk pc), .cell (w1 + 1) 0 (.slice qa qk qc), .cell w2 0 (.slice ra rk rc), .cell (w2 + 1) 0 (.slice sa sk sc), .num (.slice pa pk pc) (an) 5, .num (.slice qa qk qc) (ad) 5, .num (.slice ra rk rc) (bn) 5, .num (.slice sa sk sc) (bd) 5] W → Held w [.is (w + 2) 0, .is (w + 2) 1, .free (w + 2) 0, .free (w + 2) 1, .cell w1 0 (.slice pa pk pc), .cell (w1 + 1) 0 (.slice qa qk qc), .cell w2 0 (.slice ra rk rc), .cell (w2 + 1) 0 (.slice sa sk sc), .num (.slice pa pk pc) (an) 5, .num (.slice qa qk qc) (ad) 5, .num (.slice ra rk rc) (bn) 5, .num (.slice sa sk sc) (bd) 5] (W.setCell ⟨w + 2, o, none⟩ u)) := zh (fun W u o h => h.set (w + 2) o u zo (fun f hf => by
  simp only [List.mem_cons, List.not_mem_nil, or_false] at hf
  rcases hf with rfl | rfl | rfl | rfl | rfl | rfl | rfl | rfl | rfl | rfl | rfl | rfl
  ·trivial
  ·trivial
  ·trivial
  ·trivial
  ·exact (show _ ≠ _ by omega)
  ·exact (show _ ≠ _ by omega)
  ·exact (show _ ≠ _ by omega)
  ·exact (show _ ≠ _ by omega)
  ·exact fun W o u h => BigN.setCell (p := ⟨w + 2, o, none⟩) h (fun e => by have := Fp.out _ e; simp at this) u
  ·exact fun W o u h => BigN.setCell (p := ⟨w + 2, o, none⟩) h (fun e => by have := Fq.out _ e; simp at this) u
  ·exact fun W o u h => BigN.setCell (p := ⟨w + 2, o, none⟩) h (fun e => by have := Fr.out _ e; simp at this) u
  ·exact fun W o u h => BigN.setCell (p := ⟨w + 2, o, none⟩) h (fun e => by have := Fs.out _ e; simp at this) u))
 have HS := zh (KS.out _ H.drew)
 go_region_held3 (fun w' => w'.cell? ⟨w1, 0, none⟩ = some (.slice pa pk pc) ∧ w'.cell? ⟨w1 + 1, 0, none⟩ = some (.slice qa qk qc) ∧ w'.cell? ⟨w2, 0, none⟩ = some (.slice ra rk rc) ∧ w'.cell? ⟨w2 + 1, 0, none⟩ = some (.slice sa sk sc) ∧ w'.frozen? ⟨w + 2, 0, none⟩ = false ∧ (w'.cell? ⟨w + 2, 0, none⟩).isSome = true ∧ w'.frozen? ⟨w + 2, 1, none⟩ = false ∧ (w'.cell? ⟨w + 2, 1, none⟩).isSome = true ∧ Held w [.is (w + 2) 0, .is (w + 2) 1, .free (w + 2) 0, .free (w + 2) 1, .cell w1 0 (.slice pa pk pc), .cell (w1 + 1) 0 (.slice qa qk qc), .cell w2 0 (.slice ra rk rc), .cell (w2 + 1) 0 (.slice sa sk sc), .num (.slice pa pk pc) (an) 5, .num (.slice qa qk qc) (ad) 5, .num (.slice ra rk rc) (bn) 5, .num (.slice sa sk sc) (bd) 5] w')
  (first | exact HS.out | (refine KS.out _ (Held.below (KH.out _ ?_) hb); assumption) | (refine KS.out _ (ST0.out _ _ _ (ST0.out _ _ _ (KH.out _ ?_))); assumption))
  (first
   | (go_at_call 32; (with_reducible refine (zEu (.slice pa pk pc) (.slice sa sk sc) an bd 5 5 _ (Held.big (KH.out _ za) (.slice pa pk pc) (an) 5) (Held.big (KH.out _ za) (.slice sa sk sc) (bd) 5) zo zo).mono ?_); rintro e w' ⟨xa, xk, xc, rfl, NN, -, hb⟩; (try replace Nx := Nx.below hb); (try replace Ny := Ny.below hb); (try replace Nz := Nz.below hb); (try replace Nt := Nt.below hb); have Nx := NN; clear NN)
   | (go_at_call 32; (with_reducible refine (zEu (.slice ra rk rc) (.slice qa qk qc) bn ad 5 5 _ (Held.big (KH.out _ za) (.slice ra rk rc) (bn) 5) (Held.big (KH.out _ za) (.slice qa qk qc) (ad) 5) zo zo).mono ?_); rintro e w' ⟨ya, yk, yc, rfl, NN, -, hb⟩; (try replace Nx := Nx.below hb); (try replace Ny := Ny.below hb); (try replace Nz := Nz.below hb); (try replace Nt := Nt.below hb); have Ny := NN; clear NN)
   | (go_at_call 32; (with_reducible refine (zEu (.slice qa qk qc) (.slice sa sk sc) ad bd 5 5 _ (Held.big (KH.out _ za) (.slice qa qk qc) (ad) 5) (Held.big (KH.out _ za) (.slice sa sk sc) (bd) 5) zo zo).mono ?_); rintro e w' ⟨ta, tk, tc, rfl, NN, -, hb⟩; (try replace Nx := Nx.below hb); (try replace Ny := Ny.below hb); (try replace Nz := Nz.below hb); (try replace Nt := Nt.below hb); have Nt := NN; clear NN)
   | (go_at_call 43; (with_reducible refine (plus_n (.slice xa xk xc) (.slice ya yk yc) (an * bd) (bn * ad) 11 11 _ Nx Ny zo zo).mono ?_); rintro e w' ⟨za_, zk_, zc, rfl, NN, -, hb⟩; (try replace Nx := Nx.below hb); (try replace Ny := Ny.below hb); (try replace Nz := Nz.below hb); (try replace Nt := Nt.below hb); have Nz := NN; clear NN)
   | (go_at_call 42; (with_reducible refine (made_n za_ zk_ zc ta tk tc (an * bd + bn * ad) (ad * bd) 12 _ (Nz.more zd) (Nt.more zd) zo tp).mono ?_); rw [RN.out, RD.out, RE.out]; rintro e w' ⟨rfl, hb⟩; have H2 := (KH.out _ za).below hb; obtain ⟨v0, is0⟩ := Option.isSome_iff_exists.1 (H2.some (w + 2) 0); have fr0 := H2.frozen (w + 2) 0; obtain ⟨v1, is1⟩ := Option.isSome_iff_exists.1 (H2.some (w + 2) 1); have fr1 := H2.frozen (w + 2) 1; have OLD := H2.old; clear H2))
 all_goals
  go_wp2_with fail
  exact bodyPost_ret (v := .tuple #[.agg #[rn, rd], re]) (by simp [results, Tryz.results18, go_sem, is0, is1]) rfl ⟨rfl, (OLD.setCell zw _).setCell zw _⟩
end Go.Proofs.YtpfgdfpaoldhcaaGreatDoor
namespace Go.Proofs.YtpfgdfpaoldhcaaGreatDoor
theorem ly_four (y : Int) (h : y % 4 = 0) : ly (y + 4) = ly y + if lp y = true then 1 else 0 := by
 unfold ly
 by_cases h' : lp y = true
 ·rw [if_pos h']; rw [zEq] at h'; omega
 ·rw [if_neg h']; rw [zEq] at h'; omega
theorem ly_low (y z : Int) (h : y % 4 = 0) (h1 : y - 4 < z) (h2 : z ≤ y) : ly z = ly y := by unfold ly; omega
end Go.Proofs.YtpfgdfpaoldhcaaGreatDoor
namespace Go.Proofs.YtpfgdfpaoldhcaaGreatDoor
open Go.RowKit
theorem zBl (n : Int) (b : Bool) (w : World) (h : decide (1 ≤ n ∧ n ≤ 3652059) = b) : Calls Tryz.prog 31 #[n] w fun e w' => e = .returned b ∧ Below w w w' := by
 exact zqc06f
theorem zTt (a b : Int) (w : World) (h : a < 1 ∨ 3652059 < a) :
  Calls Tryz.prog 69 #[a, b] w fun e' w' => e' = .returned (3:Int) ∧ Below w w w' := by
 have H := Held.start w
 have D1 : Hid (decide (1 ≤ a ∧ a ≤ 3652059) = false) := zh (by rw [decide_eq_false_iff_not]; omega)
 obtain ⟨x, hx⟩ : ∃ x, decide (1 ≤ b ∧ b ≤ 3652059) = x := ⟨_, rfl⟩
 have D2 := zh hx
 clear h hx
 go_enter Tryz.func69, Tryz.ntmps69
 go_wp2_with fail
 revert H
 with_reducible refine zG (fun _ => zBl a false _ D1.out) ?_
 intro w1 H
 go_wp2_with fail
 revert H
 with_reducible refine zG (fun _ => zBl b x _ D2.out) ?_
 intro w2 H
 go_wp2_with fail
 go_ret
 exact ⟨rfl, H.old⟩
theorem zTv (a b : Int) (w : World) (h1 : 1 ≤ a ∧ a ≤ 3652059) (h : b < 1 ∨ 3652059 < b) :
  Calls Tryz.prog 69 #[a, b] w fun e' w' => e' = .returned (3:Int) ∧ Below w w w' := by
 have H := Held.start w
 have D1 : Hid (decide (1 ≤ a ∧ a ≤ 3652059) = true) := zh (by rw [decide_eq_true_eq]; exact h1)
 have D2 : Hid (decide (1 ≤ b ∧ b ≤ 3652059) = false) := zh (by rw [decide_eq_false_iff_not]; omega)
 clear h h1
 go_enter Tryz.func69, Tryz.ntmps69
 go_wp2_with fail
 revert H
 with_reducible refine zG (fun _ => zBl a true _ D1.out) ?_
 intro w1 H
 go_wp2_with fail
 revert H
 with_reducible refine zG (fun _ => zBl b false _ D2.out) ?_
 intro w2 H
 go_wp2_with fail
 go_ret
 exact ⟨rfl, H.old⟩
theorem zqccz2 {P : Prop} (h : P := by
 have H := Held.start w
 have D1 : Hid (decide (1 ≤ a ∧ a ≤ 3652059) = true) := zh (by rw [decide_eq_true_eq]; exact h1)
 have D2 : Hid (decide (1 ≤ b ∧ b ≤ 3652059) = true) := zh (by rw [decide_eq_true_eq]; exact h2)
 clear h1 h2
 go_enter Tryz.func69, Tryz.ntmps69
 go_wp2_with fail
 revert H
 with_reducible refine zG (fun _ => zBl a true _ D1.out) ?_
 intro w1 H
 go_wp2_with fail
 revert H
 with_reducible refine zG (fun _ => zBl b true _ D2.out) ?_
 intro w2 H
 go_wp2_with fail
 go_ret
 exact ⟨rfl, H.old⟩) : P := h
theorem zP6 (a b : Int) (w : World) (h1 : 1 ≤ a ∧ a ≤ 3652059) (h2 : 1 ≤ b ∧ b ≤ 3652059) (h : a > b) :
  Calls Tryz.prog 69 #[a, b] w fun e' w' => e' = .returned (4:Int) ∧ Below w w w' := by
 exact zqccz2
theorem zP8 (a b : Int) (w : World) (h1 : 1 ≤ a ∧ a ≤ 3652059) (h2 : 1 ≤ b ∧ b ≤ 3652059) (h : ¬ a > b) :
  Calls Tryz.prog 69 #[a, b] w fun e' w' => e' = .returned (0:Int) ∧ Below w w w' := by
 exact zqccz2
def zBw (a b c : Int) : Prop := (((a < 1 ∨ 3652059 < a) ∨ (b < 1 ∨ 3652059 < b)) ∧ c = 3) ∨ ((1 ≤ a ∧ a ≤ 3652059) ∧ (1 ≤ b ∧ b ≤ 3652059) ∧ b < a ∧ c = 4) ∨ ((1 ≤ a ∧ a ≤ 3652059) ∧ (1 ≤ b ∧ b ≤ 3652059) ∧ a ≤ b ∧ c = 0)
theorem zB5 (a b c : Int) (w : World) (h : zBw a b c) : Calls Tryz.prog 69 #[a, b] w fun e' w' => e' = .returned c ∧ Below w w w' := by
 rcases h with ⟨h, rfl⟩ | ⟨h1, h2, h, rfl⟩ | ⟨h1, h2, h, rfl⟩
 ·by_cases h1 : a < 1 ∨ 3652059 < a
  ·exact zTt a b w h1
  ·exact zTv a b w zo zo
 ·exact zP6 a b w h1 h2 h
 ·exact zP8 a b w h1 h2 zo
theorem zJj (n y m d : Int) (w : World) (h : may y m d) (hn : nb y m d = n) :
  Calls Tryz.prog 71 #[n] w fun e' w' => e' = .returned (lv y m d) ∧ Below w w w' := by
 have H := Held.start w
 have O1 : Hid (zAf n y m d 0) := zh (Or.inl ⟨h, hn, rfl⟩)
 have iy := zBq y m d h
 have bd := zAd y m d h
 rw [hn] at bd
 obtain ⟨y1, y2, m1, m2, d1, d2⟩ := h
 have yb := zPo y
 have F1 : Hid (nN y 1 1 = ah y + 1 ∧ nE y 1 1 = 0) := zh (by
  have k : may y 1 1 := ⟨y1, y2, zo, zo, zo, by have := zGr y 1 zo zo; omega⟩
  have z := zEa k
  have e : nb y 1 1 = ah y + 1 := by unfold nb; rw [zFl]; omega
  rw [e] at z; exact z)
 have FN : Hid (n - (ah y + 1) = am y m + d - 1) := zh (by have : ah y + am y m + d = n := hn; omega)
 have ab := zHz y y1 zo
 have lb := zOb y y1 zo
 have L1 : Hid (lv y m d = 366 * ly y + if lp y = true then am y m + d - 1 else 0) := zh rfl
 obtain ⟨r, HR⟩ : ∃ r, Hid (lv y m d = r) := ⟨_, zh rfl⟩
 rw [HR.out] at L1 ⊢
 have CL := zh (fun k v => zGy k v)
 clear d2 hn iy
 go_enter Tryz.func71, Tryz.ntmps71
 go_wp2_with fail
 revert H
 with_reducible refine zG (fun _ => zA5 n y m d 0 _ O1.out) ?_
 intro w1 H
 skip
 replace H := (H.triple w1 y m d 86 rfl)
 obtain ⟨cc0, cc1, cc2⟩ := H.cells3 w1
 have lc := H.lt w1 0 y i0_
 have HK := H.old
 clear H
 obtain ⟨b, HB⟩ : ∃ b, Hid (lp y = b) := ⟨_, zh rfl⟩
 go_wp2
 go_loop [5, 6] (fun s k => ∃ k' : Int, 4 ≤ k' ∧ k' % 4 = 0 ∧ k' ≤ y + 3 ∧ k = .int .i64 k' ∧ s = .int .i64 (366 * ly k')) (fun _ k => (y - intOf k).toNat)
 case atStart => exact ⟨4, zo, zo, zo, rfl, rfl⟩
 case round =>
  obtain ⟨k, k1, k2, k3, rfl, rfl⟩ := hrel
  by_cases hk : k < y
  ·have st := zh (ly_four k k2)
   have kb := zOb k zo zo
   obtain ⟨A, HA⟩ : ∃ A, Hid (ly k = A) := ⟨_, zh rfl⟩
   rw [HA.out] at kb ⊢
   have k2 := zh k2
   go_wp2_with fail
   with_reducible refine (CL.out k _).mono ?_
   rintro e w8 ⟨rfl, rfl⟩
   obtain ⟨q, HQ⟩ : ∃ q, Hid (lp k = q) := ⟨_, zh rfl⟩
   rw [HQ.out]
   have e := st.out
   rw [HA.out, HQ.out] at e
   have E := zh e
   clear e
   cases q
   ·go_wp2
    go_round
    case rel => exact ⟨k + 4, zo, by have := k2.out; omega, zo, rfl, by rw [E.out]; simp⟩
    case measure => simp [intOf]; omega
   ·go_wp2
    go_round
    case rel => exact ⟨k + 4, zo, by have := k2.out; omega, zo, rfl, by rw [E.out]; simp only [Value.int.injEq, true_and, if_true]; omega⟩
    case measure => simp [intOf]; omega
  ·have E := zh (ly_low k y k2 zo zo)
   have kb := zOb y y1 zo
   rw [E.out] at kb
   obtain ⟨A, HA⟩ : ∃ A, Hid (ly k = A) := ⟨_, zh rfl⟩
   rw [HA.out] at kb ⊢
   have L2 := L1.out
   rw [HB.out, E.out, HA.out] at L2
   have L3 := zh L2
   clear L2 k2
   go_wp2_with fail
   with_reducible refine (CL.out y _).mono ?_
   rintro e w8 ⟨rfl, rfl⟩
   rw [HB.out]
   cases b
   ·go_wp2
    go_ret
    exact ⟨retI (by rw [L3.out]; simp), HK⟩
   ·go_wp2_with fail
    with_reducible refine (zB9 y 1 1 (ah y + 1) 0 _ F1.out).mono ?_
    rintro e w9 ⟨rfl, hb9⟩
    go_wp2
    go_ret
    exact ⟨retI (by have := FN.out; rw [L3.out]; simp only [if_true]; omega), HK.trans (hb9.mono HK.size)⟩
end Go.Proofs.YtpfgdfpaoldhcaaGreatDoor
namespace Go.Proofs.YtpfgdfpaoldhcaaGreatDoor
open Go.RowKit
theorem zDs (n d p q c : Int) (w : World) (n0 : 0 ≤ n) (n1 : n < 9223372036854775808) (d0 : 0 < d) (d1 : d < 9223372036854775808) (h : rN n d = p ∧ rD n d = q ∧ rE n d = c) :
  Calls Tryz.prog 70 #[n, d] w fun e w' => e = .returned (.tuple #[.agg #[p, q], c]) ∧ Below w w w' := by
 obtain ⟨rfl, rfl, rfl⟩ := h; exact zDt n d w n0 n1 d0 d1
theorem zOp (an ad bn bd p q c : Int) (w : World) (ha : zAi an ad = true) (hb : zAi bn bd = true) (h : rN (an * bd + bn * ad) (ad * bd) = p ∧ rD (an * bd + bn * ad) (ad * bd) = q ∧ rE (an * bd + bn * ad) (ad * bd) = c) :
  Calls Tryz.prog 18 #[.agg #[an, ad], .agg #[bn, bd]] w fun e w' => e = .returned (.tuple #[.agg #[p, q], c]) ∧ Below w w w' := by
 obtain ⟨rfl, rfl, rfl⟩ := h; exact zHu an ad bn bd w ha hb
theorem zSk (a b p q : Int) (w : World) (ha : 1 ≤ a ∧ a ≤ 3652059) (hb : 1 ≤ b ∧ b ≤ 3652059) (hab : a ≤ b) (hp : rN (b - a) 360 = p) (hq : rD (b - a) 360 = q) :
  Calls Tryz.prog 47 #[a, b] w fun e' w' => e' = .returned (.tuple #[.agg #[p, q], (0:Int)]) ∧ Below w w w' := by
 have H := Held.start w
 have W1 : Hid (zBw a b 0) := zh (Or.inr (Or.inr ⟨ha, hb, hab, rfl⟩))
 have N1 : Hid (rN (b - a) 360 = p ∧ rD (b - a) 360 = q ∧ rE (b - a) 360 = 0) := zh ⟨hp, hq, (zCo (zCn (b - a) 360 zo zo zd zd)).2.2⟩
 clear hp hq
 go_enter Tryz.func47, Tryz.ntmps47
 go_wp2_with fail
 replace H := (H.pair w (0:Int) (0:Int) 48 rfl)
 revert H
 with_reducible refine zG (fun _ => zB5 a b 0 _ W1.out) ?_
 intro w1 H
 go_wp2_with fail
 revert H
 with_reducible refine zG (fun _ => zDs (b - a) 360 p q 0 _ zo zo zd zd N1.out) ?_
 intro w2 H
 obtain ⟨cz0, cz1⟩ := H.cells2 w
 have lz := H.lt w 0 (0:Int) i0_
 obtain ⟨fz0, fz1⟩ := H.frozens2 w
 have HK := H.old
 clear H
 go_wp2_with fail
 exact bodyPost_ret (v := .tuple #[.agg #[p, q], (0:Int)]) (by simp [results, Tryz.results47, go_sem, cz0, cz1]) rfl ⟨rfl, (HK.setCell zw _).setCell zw _⟩
theorem zOm (a b : Int) (w : World) (h : (a < 1 ∨ 3652059 < a) ∨ (b < 1 ∨ 3652059 < b)) :
  Calls Tryz.prog 47 #[a, b] w fun e' w' => e' = .returned (.tuple #[.agg #[(0:Int), (0:Int)], (3:Int)]) ∧ Below w w w' := by
 have H := Held.start w
 have W1 : Hid (zBw a b 3) := zh (Or.inl ⟨h, rfl⟩)
 go_enter Tryz.func47, Tryz.ntmps47
 go_wp2_with fail
 replace H := (H.pair w (0:Int) (0:Int) 48 rfl)
 revert H
 with_reducible refine zG (fun _ => zB5 a b 3 _ W1.out) ?_
 intro w1 H
 obtain ⟨cz0, cz1⟩ := H.cells2 w
 have lz := H.lt w 0 (0:Int) i0_
 obtain ⟨fz0, fz1⟩ := H.frozens2 w
 have HK := H.old
 clear H
 go_wp2_with fail
 exact bodyPost_ret (v := .tuple #[.agg #[(0:Int), (0:Int)], (3:Int)]) (by simp [results, Tryz.results47, go_sem, cz0, cz1]) rfl ⟨rfl, (HK.setCell zw _).setCell zw _⟩
theorem zJy (a b : Int) (w : World) (h1 : 1 ≤ a ∧ a ≤ 3652059) (h2 : 1 ≤ b ∧ b ≤ 3652059) (h : b < a) :
  Calls Tryz.prog 47 #[a, b] w fun e' w' => e' = .returned (.tuple #[.agg #[(0:Int), (0:Int)], (4:Int)]) ∧ Below w w w' := by
 have H := Held.start w
 have W1 : Hid (zBw a b 4) := zh (Or.inr (Or.inl ⟨h1, h2, h, rfl⟩))
 go_enter Tryz.func47, Tryz.ntmps47
 go_wp2_with fail
 replace H := (H.pair w (0:Int) (0:Int) 48 rfl)
 revert H
 with_reducible refine zG (fun _ => zB5 a b 4 _ W1.out) ?_
 intro w1 H
 obtain ⟨cz0, cz1⟩ := H.cells2 w
 have lz := H.lt w 0 (0:Int) i0_
 obtain ⟨fz0, fz1⟩ := H.frozens2 w
 have HK := H.old
 clear H
 go_wp2_with fail
 exact bodyPost_ret (v := .tuple #[.agg #[(0:Int), (0:Int)], (4:Int)]) (by simp [results, Tryz.results47, go_sem, cz0, cz1]) rfl ⟨rfl, (HK.setCell zw _).setCell zw _⟩
theorem zOl (a b p q c : Int) (w : World) (h : AcIs aX 360 a b p q c) : Calls Tryz.prog 47 #[a, b] w fun e' w' => e' = .returned (.tuple #[.agg #[p, q], c]) ∧ Below w w w' := by
 rcases h with ⟨y1, m1, d1, y2, m2, d2, h1, ha, h2, hb, hab, hp, hq, rfl⟩ | ⟨h, rfl, rfl, rfl⟩ | ⟨h1, h2, h, rfl, rfl, rfl⟩
 ·have b1 := zAd _ _ _ h1
  have b2 := zAd _ _ _ h2
  unfold aX at hp hq
  rw [ha] at b1 hp hq
  rw [hb] at b2 hp hq
  exact zSk a b p q w b1 b2 hab hp hq
 ·exact zOm a b w h
 ·exact zJy a b w h1 h2 h
theorem zSl (a b p q : Int) (w : World) (ha : 1 ≤ a ∧ a ≤ 3652059) (hb : 1 ≤ b ∧ b ≤ 3652059) (hab : a ≤ b) (hp : rN (b - a) 365 = p) (hq : rD (b - a) 365 = q) :
  Calls Tryz.prog 48 #[a, b] w fun e' w' => e' = .returned (.tuple #[.agg #[p, q], (0:Int)]) ∧ Below w w w' := by
 have H := Held.start w
 have W1 : Hid (zBw a b 0) := zh (Or.inr (Or.inr ⟨ha, hb, hab, rfl⟩))
 have N1 : Hid (rN (b - a) 365 = p ∧ rD (b - a) 365 = q ∧ rE (b - a) 365 = 0) := zh ⟨hp, hq, (zCo (zCn (b - a) 365 zo zo zd zd)).2.2⟩
 clear hp hq
 go_enter Tryz.func48, Tryz.ntmps48
 go_wp2_with fail
 replace H := (H.pair w (0:Int) (0:Int) 48 rfl)
 revert H
 with_reducible refine zG (fun _ => zB5 a b 0 _ W1.out) ?_
 intro w1 H
 go_wp2_with fail
 revert H
 with_reducible refine zG (fun _ => zDs (b - a) 365 p q 0 _ zo zo zd zd N1.out) ?_
 intro w2 H
 obtain ⟨cz0, cz1⟩ := H.cells2 w
 have lz := H.lt w 0 (0:Int) i0_
 obtain ⟨fz0, fz1⟩ := H.frozens2 w
 have HK := H.old
 clear H
 go_wp2_with fail
 exact bodyPost_ret (v := .tuple #[.agg #[p, q], (0:Int)]) (by simp [results, Tryz.results48, go_sem, cz0, cz1]) rfl ⟨rfl, (HK.setCell zw _).setCell zw _⟩
theorem zOo (a b : Int) (w : World) (h : (a < 1 ∨ 3652059 < a) ∨ (b < 1 ∨ 3652059 < b)) :
  Calls Tryz.prog 48 #[a, b] w fun e' w' => e' = .returned (.tuple #[.agg #[(0:Int), (0:Int)], (3:Int)]) ∧ Below w w w' := by
 have H := Held.start w
 have W1 : Hid (zBw a b 3) := zh (Or.inl ⟨h, rfl⟩)
 go_enter Tryz.func48, Tryz.ntmps48
 go_wp2_with fail
 replace H := (H.pair w (0:Int) (0:Int) 48 rfl)
 revert H
 with_reducible refine zG (fun _ => zB5 a b 3 _ W1.out) ?_
 intro w1 H
 obtain ⟨cz0, cz1⟩ := H.cells2 w
 have lz := H.lt w 0 (0:Int) i0_
 obtain ⟨fz0, fz1⟩ := H.frozens2 w
 have HK := H.old
 clear H
 go_wp2_with fail
 exact bodyPost_ret (v := .tuple #[.agg #[(0:Int), (0:Int)], (3:Int)]) (by simp [results, Tryz.results48, go_sem, cz0, cz1]) rfl ⟨rfl, (HK.setCell zw _).setCell zw _⟩
theorem zJz (a b : Int) (w : World) (h1 : 1 ≤ a ∧ a ≤ 3652059) (h2 : 1 ≤ b ∧ b ≤ 3652059) (h : b < a) :
  Calls Tryz.prog 48 #[a, b] w fun e' w' => e' = .returned (.tuple #[.agg #[(0:Int), (0:Int)], (4:Int)]) ∧ Below w w w' := by
 have H := Held.start w
 have W1 : Hid (zBw a b 4) := zh (Or.inr (Or.inl ⟨h1, h2, h, rfl⟩))
 go_enter Tryz.func48, Tryz.ntmps48
 go_wp2_with fail
 replace H := (H.pair w (0:Int) (0:Int) 48 rfl)
 revert H
 with_reducible refine zG (fun _ => zB5 a b 4 _ W1.out) ?_
 intro w1 H
 obtain ⟨cz0, cz1⟩ := H.cells2 w
 have lz := H.lt w 0 (0:Int) i0_
 obtain ⟨fz0, fz1⟩ := H.frozens2 w
 have HK := H.old
 clear H
 go_wp2_with fail
 exact bodyPost_ret (v := .tuple #[.agg #[(0:Int), (0:Int)], (4:Int)]) (by simp [results, Tryz.results48, go_sem, cz0, cz1]) rfl ⟨rfl, (HK.setCell zw _).setCell zw _⟩
theorem zOn (a b p q c : Int) (w : World) (h : AcIs aX 365 a b p q c) : Calls Tryz.prog 48 #[a, b] w fun e' w' => e' = .returned (.tuple #[.agg #[p, q], c]) ∧ Below w w w' := by
 rcases h with ⟨y1, m1, d1, y2, m2, d2, h1, ha, h2, hb, hab, hp, hq, rfl⟩ | ⟨h, rfl, rfl, rfl⟩ | ⟨h1, h2, h, rfl, rfl, rfl⟩
 ·have b1 := zAd _ _ _ h1
  have b2 := zAd _ _ _ h2
  unfold aX at hp hq
  rw [ha] at b1 hp hq
  rw [hb] at b2 hp hq
  exact zSl a b p q w b1 b2 hab hp hq
 ·exact zOo a b w h
 ·exact zJz a b w h1 h2 h
theorem zLm (a b y1 m1 d1 y2 m2 d2 p q : Int) (w : World) (h1 : may y1 m1 d1) (ha : nb y1 m1 d1 = a) (h2 : may y2 m2 d2) (hb : nb y2 m2 d2 = b) (hab : a ≤ b) (hp : rN (yX y1 m1 d1 y2 m2 d2) 133590 = p) (hq : rD (yX y1 m1 d1 y2 m2 d2) 133590 = q) :
  Calls Tryz.prog 49 #[a, b] w fun e' w' => e' = .returned (.tuple #[.agg #[p, q], (0:Int)]) ∧ Below w w w' := by
 have H := Held.start w
 have b1 := zAd _ _ _ h1
 have b2 := zAd _ _ _ h2
 have le := lv_le _ _ _ _ _ _ h1 h2 zo
 have v1 := lv_bd _ _ _ h1
 have v2 := lv_bd _ _ _ h2
 unfold yX inX at hp hq
 have C1 := zh (fun v => zJj a y1 m1 d1 v h1 ha)
 have C2 := zh (fun v => zJj b y2 m2 d2 v h2 hb)
 rw [ha, hb] at le hp hq
 rw [ha] at b1
 rw [hb] at b2
 obtain ⟨A, hA⟩ : ∃ A, lv y1 m1 d1 = A := ⟨_, rfl⟩
 obtain ⟨B, hB⟩ : ∃ B, lv y2 m2 d2 = B := ⟨_, rfl⟩
 rw [hA] at C1 le hp hq v1
 rw [hB] at C2 le hp hq v2
 have W1 : Hid (zBw a b 0) := zh (Or.inr (Or.inr ⟨b1, b2, hab, rfl⟩))
 obtain ⟨s1, s2, s3, s4, s5⟩ := zKl (B - A) (b - a - (B - A)) le.1 zo zo zo
 rw [hp] at s3
 rw [hq] at s4
 have f1 := (zCo (zCn (B - A) 366 le.1 zo zd zd)).2.2
 have f2 := (zCo (zCn (b - a - (B - A)) 365 zo zo zd zd)).2.2
 obtain ⟨p1, hp1⟩ : ∃ x, rN (B - A) 366 = x := ⟨_, rfl⟩
 obtain ⟨q1, hq1⟩ : ∃ x, rD (B - A) 366 = x := ⟨_, rfl⟩
 obtain ⟨p2, hp2⟩ : ∃ x, rN (b - a - (B - A)) 365 = x := ⟨_, rfl⟩
 obtain ⟨q2, hq2⟩ : ∃ x, rD (b - a - (B - A)) 365 = x := ⟨_, rfl⟩
 rw [hp1, hq1] at s1
 rw [hp2, hq2] at s2
 rw [hp1, hq1, hp2, hq2] at s3 s4 s5
 have N1 : Hid (rN (B - A) 366 = p1 ∧ rD (B - A) 366 = q1 ∧ rE (B - A) 366 = 0) := zh ⟨hp1, hq1, f1⟩
 have N2 : Hid (rN (b - a - (B - A)) 365 = p2 ∧ rD (b - a - (B - A)) 365 = q2 ∧ rE (b - a - (B - A)) 365 = 0) := zh ⟨hp2, hq2, f2⟩
 have S1 := zh (fun v => zOp p1 q1 p2 q2 p q 0 v s1 s2 ⟨s3, s4, s5⟩)
 clear h1 h2 ha hb hp hq hA hB s1 s2 s3 s4 s5 f1 f2 hp1 hq1 hp2 hq2
 go_enter Tryz.func49, Tryz.ntmps49
 go_wp2_with fail
 replace H := (H.pair w (0:Int) (0:Int) 48 rfl)
 revert H
 with_reducible refine zG (fun _ => zB5 a b 0 _ W1.out) ?_
 intro w1 H
 go_wp2_with fail
 revert H
 with_reducible refine zG (fun _ => C2.out _) ?_
 intro w2 H
 go_wp2_with fail
 revert H
 with_reducible refine zG (fun _ => C1.out _) ?_
 intro w3 H
 go_wp2_with fail
 revert H
 with_reducible refine zG (fun _ => zDs (B - A) 366 p1 q1 0 _ le.1 zo zd zd N1.out) ?_
 intro w4 H
 go_wp2_with fail
 replace H := (H.pair w4 p1 q1 48 rfl)
 revert H
 with_reducible refine zG (fun _ => zDs (b - a - (B - A)) 365 p2 q2 0 _ zo zo zd zd N2.out) ?_
 intro w5 H
 obtain ⟨cp0, cp1⟩ := H.cells2 w4
 have lp := H.lt w4 0 p1 i0_
 go_wp2_with fail
 clear cp0 cp1 lp
 replace H := (H.pair w5 p2 q2 48 rfl)
 revert H
 with_reducible refine zG (fun _ => S1.out _) ?_
 intro w6 H
 obtain ⟨cz0, cz1⟩ := H.cells2 w
 have lz := H.lt w 0 (0:Int) i8_
 obtain ⟨fz0, fz1⟩ := H.frozens2 w
 have HK := H.old
 clear H
 go_wp2_with fail
 exact bodyPost_ret (v := .tuple #[.agg #[p, q], (0:Int)]) (by simp [results, Tryz.results49, go_sem, cz0, cz1]) rfl ⟨rfl, (HK.setCell zw _).setCell zw _⟩
theorem zK1 (a b : Int) (w : World) (h : (a < 1 ∨ 3652059 < a) ∨ (b < 1 ∨ 3652059 < b)) :
  Calls Tryz.prog 49 #[a, b] w fun e' w' => e' = .returned (.tuple #[.agg #[(0:Int), (0:Int)], (3:Int)]) ∧ Below w w w' := by
 have H := Held.start w
 have W1 : Hid (zBw a b 3) := zh (Or.inl ⟨h, rfl⟩)
 go_enter Tryz.func49, Tryz.ntmps49
 go_wp2_with fail
 replace H := (H.pair w (0:Int) (0:Int) 48 rfl)
 revert H
 with_reducible refine zG (fun _ => zB5 a b 3 _ W1.out) ?_
 intro w1 H
 obtain ⟨cz0, cz1⟩ := H.cells2 w
 have lz := H.lt w 0 (0:Int) i0_
 obtain ⟨fz0, fz1⟩ := H.frozens2 w
 have HK := H.old
 clear H
 go_wp2_with fail
 exact bodyPost_ret (v := .tuple #[.agg #[(0:Int), (0:Int)], (3:Int)]) (by simp [results, Tryz.results49, go_sem, cz0, cz1]) rfl ⟨rfl, (HK.setCell zw _).setCell zw _⟩
theorem zHc (a b : Int) (w : World) (h1 : 1 ≤ a ∧ a ≤ 3652059) (h2 : 1 ≤ b ∧ b ≤ 3652059) (h : b < a) :
  Calls Tryz.prog 49 #[a, b] w fun e' w' => e' = .returned (.tuple #[.agg #[(0:Int), (0:Int)], (4:Int)]) ∧ Below w w w' := by
 have H := Held.start w
 have W1 : Hid (zBw a b 4) := zh (Or.inr (Or.inl ⟨h1, h2, h, rfl⟩))
 go_enter Tryz.func49, Tryz.ntmps49
 go_wp2_with fail
 replace H := (H.pair w (0:Int) (0:Int) 48 rfl)
 revert H
 with_reducible refine zG (fun _ => zB5 a b 4 _ W1.out) ?_
 intro w1 H
 obtain ⟨cz0, cz1⟩ := H.cells2 w
 have lz := H.lt w 0 (0:Int) i0_
 obtain ⟨fz0, fz1⟩ := H.frozens2 w
 have HK := H.old
 clear H
 go_wp2_with fail
 exact bodyPost_ret (v := .tuple #[.agg #[(0:Int), (0:Int)], (4:Int)]) (by simp [results, Tryz.results49, go_sem, cz0, cz1]) rfl ⟨rfl, (HK.setCell zw _).setCell zw _⟩
theorem zK0 (a b p q c : Int) (w : World) (h : AcIs yX 133590 a b p q c) : Calls Tryz.prog 49 #[a, b] w fun e' w' => e' = .returned (.tuple #[.agg #[p, q], c]) ∧ Below w w w' := by
 rcases h with ⟨y1, m1, d1, y2, m2, d2, h1, ha, h2, hb, hab, hp, hq, rfl⟩ | ⟨h, rfl, rfl, rfl⟩ | ⟨h1, h2, h, rfl, rfl, rfl⟩
 ·exact zLm a b y1 m1 d1 y2 m2 d2 p q w h1 ha h2 hb hab hp hq
 ·exact zK1 a b w h
 ·exact zHc a b w h1 h2 h
end Go.Proofs.YtpfgdfpaoldhcaaGreatDoor
namespace Go.Proofs.YtpfgdfpaoldhcaaGreatDoor
open Go.RowKit
end Go.Proofs.YtpfgdfpaoldhcaaGreatDoor
namespace Go.Proofs.YtpfgdfpaoldhcaaGreatDoor
open Go.RowKit Go.Extern.Stop Go.Stop Go.Extern
end Go.Proofs.YtpfgdfpaoldhcaaGreatDoor
namespace Go.Proofs.YtpfgdfpaoldhcaaGreatDoor
open Go.RowKit
end Go.Proofs.YtpfgdfpaoldhcaaGreatDoor
namespace Go.Proofs.YtpfgdfpaoldhcaaGreatDoor
open Go.RowKit
end Go.Proofs.YtpfgdfpaoldhcaaGreatDoor
namespace Go.Proofs.YtpfgdfpaoldhcaaGreatDoor
open Go.RowKit
end Go.Proofs.YtpfgdfpaoldhcaaGreatDoor
namespace Go.Proofs.YtpfgdfpaoldhcaaGreatDoor
open Go.RowKit
end Go.Proofs.YtpfgdfpaoldhcaaGreatDoor
namespace Go.Proofs.YtpfgdfpaoldhcaaGreatDoor
open Go.RowKit Go.Extern.Stop Go.Stop Go.Extern
end Go.Proofs.YtpfgdfpaoldhcaaGreatDoor
namespace Go.Proofs.YtpfgdfpaoldhcaaGreatDoor
open Go.RowKit Go.Extern.Stop Go.Stop Go.Extern
end Go.Proofs.YtpfgdfpaoldhcaaGreatDoor
namespace Go.Proofs.YtpfgdfpaoldhcaaGreatDoor
end Go.Proofs.YtpfgdfpaoldhcaaGreatDoor
namespace Go.Proofs.YtpfgdfpaoldhcaaGreatDoor
end Go.Proofs.YtpfgdfpaoldhcaaGreatDoor
namespace Go.Proofs.YtpfgdfpaoldhcaaGreatDoor
open Go.RowKit
theorem zBf (n : Int) (b : Bool) (w : World) (h : decide (1 ≤ n ∧ n ≤ 3652059) = b) : Calls Tryz.prog 31 #[n] w fun e w' => e = .returned b ∧ w = w' := by
 subst h
 by_cases h1 : 1 ≤ n
 ·have h2 : decide (1 ≤ n ∧ n ≤ 3652059) = decide (n ≤ 3652059) := by simp [h1]
  rw [h2]
  go_enter Tryz.func31, Tryz.ntmps31
  go_wp2
  go_ret
  exact ⟨rfl, rfl⟩
 ·have h2 : decide (1 ≤ n ∧ n ≤ 3652059) = false := by simp [h1]
  have h3 : decide (1 ≤ n) = false := by simp [h1]
  rw [h2]
  go_enter Tryz.func31, Tryz.ntmps31
  go_wp2
  go_ret
  exact ⟨rfl, rfl⟩
theorem zqc0cg {P : Prop} (h : P := by
 go_enter Tryz.func72, Tryz.ntmps72
 go_wp2
 go_ret
 exact ⟨rfl, Below.refl _ _⟩) : P := h
theorem imr_no (ao : Option Addr) (n cap : Nat) (f : Int) (w : World) (hn : n ≤ 100) (h : n < 2 ∨ f < 1 ∨ 12 < f) :
  Calls Tryz.prog 72 #[.slice ao n cap, f] w fun e w' => e = .returned false ∧ Below w w w' := by
 have h2 : decide ((n : Int) > 1204) = false := zx
 by_cases k1 : n < 2
 ·have t1 : decide ((n : Int) < 2) = true := zx
  exact zqc0cg
 ·have t1 : decide ((n : Int) < 2) = false := zx
  by_cases k2 : f < 1
  ·have t2 : decide (f < 1) = true := zx
   exact zqc0cg
  ·have t2 : decide (f < 1) = false := zx
   have t3 : decide (f > 12) = true := zx
   exact zqc0cg
theorem zLs (X : Nat → Int) : Rising X 0 := ⟨fun i h => absurd h zo, fun i h => absurd h zo⟩
theorem zOs {X : Nat → Int} (h : 1 ≤ X 0 ∧ X 0 ≤ 3652059) : Rising X 1 := ⟨fun i hi => (by omega : i = 0) ▸ h, fun i h => absurd h zo⟩
theorem zLr {X : Nat → Int} {k : Nat} (h : Rising X (k + 1)) (hd : 1 ≤ X (k + 1) ∧ X (k + 1) ≤ 3652059) (hl : X k ≤ X (k + 1)) : Rising X (k + 2) :=
 ⟨fun i hi => by
  by_cases e : i = k + 1
  ·subst e; exact hd
  ·exact h.1 i zo, fun i hi => by
  by_cases e : i = k
  ·subst e; exact hl
  ·exact h.2 i zo⟩
theorem imr_any (b off m cap : Nat) (X : Nat → Int) (f : Int) (c : Bool) (w : World) (hm1 : 1 ≤ m) (hm : m < 100) (hf : 1 ≤ f ∧ f ≤ 12) (hC : Cells w b off X (m + 1)) (hc : c = true ↔ Rising X (m + 1) ∧ X 0 < X m) :
  Calls Tryz.prog 72 #[.slice (some ⟨b, off, none⟩) (m + 1) cap, f] w fun e w' => e = .returned c ∧ Below w w w' := by
 have HC := zh hC
 have HR := zh hc
 have CF : Hid (¬ Rising X (m + 1) → c = false) := zh (fun h => by cases c; rfl; exact absurd (hc.1 rfl).1 h)
 clear hC hc
 go_enter Tryz.func72, Tryz.ntmps72
 go_wp2_with fail
 go_loopw [6, 7] (fun i d wr => ∃ k : Nat, k ≤ m + 1 ∧ i = .int .i64 k ∧ Rising X k ∧ Below w w wr) (fun i _ _ => m + 1 - (intOf i).toNat)
 case atStart => exact ⟨0, zo, rfl, zLs X, Below.refl _ _⟩
 case round =>
  obtain ⟨k, hk, rfl, hR, hB⟩ := hrel
  have KR := zh hR
  have KB := zh hB
  have KC := zh (HC.out.kept hB)
  clear hR hB
  by_cases hlt : k < m + 1
  ·have ck := KC.out k hlt
   by_cases hd : 1 ≤ X k ∧ X k ≤ 3652059
   ·have D := zh (fun v => zBf (X k) true v (by simpa using hd))
    match k, hk, KR, hlt, ck, hd, D with
    | 0, hk, KR, hlt, ck, hd, D =>
     rw [Nat.add_zero] at ck
     go_wp2_with fail
     with_reducible refine (D.out _).mono ?_
     rintro e w1 ⟨rfl, rfl⟩
     go_wp2_with fail
     go_quiet (fail)
     go_wp2
     go_roundw
     case rel => exact ⟨1, zo, by go_num, zOs hd, zA7 KB.out _⟩
     case measure => simp [intOf]
    | j + 1, hk, KR, hlt, ck, hd, D =>
     have cj := KC.out j zo
     go_wp2_with fail
     with_reducible refine (D.out _).mono ?_
     rintro e w1 ⟨rfl, rfl⟩
     by_cases hl : X (j + 1) < X j
     ·have t1 : decide (X (j + 1) < X j) = true := by simpa using hl
      go_wp2_with fail
      go_quiet (fail)
      go_wp2
      go_ret
      exact ⟨by rw [CF.out (fun h => absurd (h.2 j zo) zo)]; rfl, zA7 KB.out _⟩
     ·have t1 : decide (X (j + 1) < X j) = false := by simpa using hl
      go_wp2_with fail
      go_quiet (fail)
      go_wp2
      go_roundw
      case rel => exact ⟨j + 2, zo, by go_num, zLr KR.out hd zo, zA7 KB.out _⟩
      case measure => simp [intOf]; omega
   ·have D := zh (fun v => zBf (X k) false v (by simpa using hd))
    go_wp2_with fail
    with_reducible refine (D.out _).mono ?_
    rintro e w1 ⟨rfl, rfl⟩
    go_wp2_with fail
    go_quiet (fail)
    go_wp2
    go_ret
    exact ⟨by rw [CF.out (fun h => hd (h.1 k hlt))]; rfl, zA7 KB.out _⟩
  ·obtain rfl : k = m + 1 := zo
   have c0 := KC.out 0 zo
   rw [Nat.add_zero] at c0
   have cm := KC.out m zo
   have T : decide (X 0 < X m) = c := by
    cases c
    ·rw [decide_eq_false_iff_not]
     intro k
     exact absurd (HR.out.2 ⟨KR.out, k⟩) zd
    ·rw [decide_eq_true_eq]
     exact (HR.out.1 rfl).2
   go_wp2_with fail
   go_quiet (fail)
   go_wp2
   go_ret
   exact ⟨rfl, zA7 KB.out _⟩
theorem zMw (ao : Option Addr) (n cap : Nat) (X : Nat → Int) (f : Int) (c : Bool) (w : World) (hn : n ≤ 100) (hR : RowAt w ao X n cap) (hc : c = true ↔ MayX X n f) :
  Calls Tryz.prog 72 #[.slice ao n cap, f] w fun e w' => e = .returned c ∧ Below w w w' := by
 by_cases h : 2 ≤ n ∧ 1 ≤ f ∧ f ≤ 12
 ·obtain ⟨b, off, rfl, hC⟩ := hR.2 zo
  obtain ⟨m, rfl⟩ : ∃ m, n = m + 1 := ⟨n - 1, zo⟩
  refine imr_any b off m cap X f c w zo zo h.2 hC (hc.trans ⟨fun k => ⟨k.2.2.2.1, k.2.2.2.2⟩, fun k => ⟨h.1, zo, h.2, k.1, k.2⟩⟩)
 ·have : c = false := by
   cases c
   ·rfl
   ·exact absurd (hc.1 rfl) (fun k => h ⟨k.1, k.2.2.1⟩)
  subst this
  exact imr_no ao n cap f w hn zo
end Go.Proofs.YtpfgdfpaoldhcaaGreatDoor
namespace Go.Proofs.YtpfgdfpaoldhcaaGreatDoor
open Go.RowKit
end Go.Proofs.YtpfgdfpaoldhcaaGreatDoor
namespace Go.Proofs.YtpfgdfpaoldhcaaGreatDoor
open Go.RowKit
end Go.Proofs.YtpfgdfpaoldhcaaGreatDoor
namespace Go.Proofs.YtpfgdfpaoldhcaaGreatDoor
open Go.RowKit
end Go.Proofs.YtpfgdfpaoldhcaaGreatDoor
namespace Go.Proofs.YtpfgdfpaoldhcaaGreatDoor
open Go.RowKit Go.Shelf
attribute [local go_sem] Oper.semAt_some
end Go.Proofs.YtpfgdfpaoldhcaaGreatDoor
namespace Go.Proofs.YtpfgdfpaoldhcaaGreatDoor
open Go.RowKit Go.Shelf
attribute [local go_sem] Oper.semAt_some
end Go.Proofs.YtpfgdfpaoldhcaaGreatDoor
namespace Go.Proofs.YtpfgdfpaoldhcaaGreatDoor
open Go.RowKit Go.Shelf
attribute [local go_sem] Oper.semAt_some
end Go.Proofs.YtpfgdfpaoldhcaaGreatDoor
namespace Go.Proofs.YtpfgdfpaoldhcaaGreatDoor
end Go.Proofs.YtpfgdfpaoldhcaaGreatDoor
namespace Go.Proofs.YtpfgdfpaoldhcaaGreatDoor
open Go.RowKit
end Go.Proofs.YtpfgdfpaoldhcaaGreatDoor
namespace Go.Proofs.YtpfgdfpaoldhcaaGreatDoor
theorem fst1_ext {C D : Nat → Int} {n : Nat} (h : ∀ i, i < n → C i = D i) : fst1 C n = fst1 D n := by
 induction n with
 | zero => rfl
 | succ n ih =>
  unfold fst1
  rw [ih (fun i hi => h i zo), h n (Nat.lt_succ_self n)]
theorem zHm (C : Nat → Int) : ∀ n, fst1 C n = 0 ∨ ∃ j, j < n ∧ fst1 C n = C j ∧ C j ≠ 0
 | 0 => Or.inl rfl
 | n + 1 => by
  unfold fst1
  split
  ·by_cases e : C n = 0
   ·exact Or.inl e
   ·exact Or.inr ⟨n, Nat.lt_succ_self n, rfl, e⟩
  ·next c =>
   rcases zHm C n with h | ⟨j, hj, h⟩
   ·exact absurd h c
   ·exact Or.inr ⟨j, zo, h⟩
end Go.Proofs.YtpfgdfpaoldhcaaGreatDoor
namespace Go.Proofs.YtpfgdfpaoldhcaaGreatDoor
open Go.ChangeShapes Go.WideShapes Go.ChangeAt Go.RowKit
set_option maxRecDepth 100000
theorem u8_bd {n : Int} (h : (Lit.int .u8 n).wf = true) : 0 ≤ n ∧ n < 256 := by
 have hmin : IntKind.u8.min = 0 := rfl
 have hmax : IntKind.u8.max = 255 := rfl
 simp only [Lit.wf, Bool.and_eq_true, decide_eq_true_eq] at h
 omega
section
variable {H : Type} {enc : TypeId × Value → H} {w : World} {base : Nat} {spare : Nat → Bool} {held : Bool} {fuel : Nat} {cs : List Value} {x : DataW H × List MemPlace}
end
section
variable {H : Type} {enc : TypeId × Value → H} {w : World} {base : Nat} {spare : Nat → Bool} {held : Bool} {r : Reach} {b0 : Nat} {v : Value} {d : DataW H} {p : List MemPlace}
theorem open_u8 (hv : Value.okWide Tryz.prog w r b0 5 v) (h : DataW.Trod enc Tryz.prog w base spare held 5 v d p) : ∃ a, v = .int .u8 a ∧ 0 ≤ a ∧ a < 256 := by
 obtain ⟨a, rfl, _, _, wa⟩ := open_int Tryz.underlying5 hv h
 exact ⟨a, rfl, u8_bd wa⟩
end
section
variable {H : Type} {enc : TypeId × Value → H} {w : World} {base : Nat} {spare : Nat → Bool} {held : Bool} {fuel : Nat} {cs : List Value} {x : DataW H × List MemPlace}
end
section
variable {H : Type} {enc : TypeId × Value → H} {w : World} {base : Nat} {spare : Nat → Bool} {held : Bool} {r : Reach} {b0 : Nat} {v : Value} {d : DataW H} {p : List MemPlace}
end
end Go.Proofs.YtpfgdfpaoldhcaaGreatDoor
namespace Go.Proofs.YtpfgdfpaoldhcaaGreatDoor
open Go.RowKit
theorem PlanOut.turn {x : Pl} {s t : Tm} {n0 : Nat} {e : Ending} {W : World} (h : s.Like t) (hc : s.code = t.code) (p : PlanOut x s n0 e W) : PlanOut x t n0 e W := by
 have hx := h.code x hc
 obtain ⟨a0, a1, a2, a3, c0, c1, c2, c3, rfl, h0, h1, h2, h3, h4⟩ := p
 have e1 : x.n s = x.n t := by unfold Pl.n; rw [hx]
 have e2 : x.np s = x.np t := by unfold Pl.np; rw [hx]
 have e3 : x.ng s = x.ng t := by unfold Pl.ng; rw [hx, h.ns]
 have e4 : x.eo s = x.eo t := by unfold Pl.eo; rw [hx, h.eo]
 have e5 : x.en s = x.en t := by unfold Pl.en; rw [hx]
 have e6 : x.f s = x.f t := by unfold Pl.f; rw [hx, h.ms]
 rw [e1] at h0 h1
 rw [e2] at h2
 rw [e3] at h3
 exact ⟨a0, a1, a2, a3, c0, c1, c2, c3, by rw [e1, e2, e3, e4, e5, e6, hx], h0.ext (fun i _ => h.dd _ _ _), h1, h2, h3, h4⟩
theorem PlanIs.turn {x : Pl} {s t : Tm} {c : Ca} (h : s.Like t) (hr : s.ro = t.ro) (hc : t.code = 0) (p : PlanIs t c x) : PlanIs s c x where
 walk _ := h.walk (p.walk hc)
 q _ := by rw [h.q]; exact p.q hc
 roll i hi := by rw [h.dd, hr]; exact p.roll i hi
 grid i hi := by unfold Pl.G; rw [h.grid, hr]; exact p.grid i hi
 part i hi := by rw [h.co, h.eo, h.ms, h.ns]; exact p.part i hi
theorem PlanIs.told {x : Pl} {t : Tm} {c : Ca} (hc : t.code = 0) (p : PlanIs t c x) (hC : ∀ i, i < x.q + 2 → x.C i = 0) (hG : ∀ i, i < x.ns t → x.GC i = 0) (hd : ∀ i, i < x.q + 2 → 1 ≤ x.V i ∧ x.V i ≤ 3652059) (hr : ∀ i, i < x.q + 1 → x.V i ≤ x.V (i + 1)) : x.code t = 0 ∨ (x.code t = 5 ∧ t.co = 6) := by
 have e : x.code t = fst1 x.PC (x.q + 1) := by
  unfold Pl.code
  rw [if_neg zo, if_neg (not_not_intro (zB8.2 hC)), if_neg (not_not_intro (zB8.2 hG))]
 rw [e]
 rcases zHm x.PC (x.q + 1) with h | ⟨j, hj, h, hn⟩
 ·exact Or.inl h
 ·rcases (p.part j hj).code (t.of_zero hc).1.2.1 (hd j zo) (hd (j + 1) zo) (hr j hj) with g | ⟨g1, g2⟩
  ·exact absurd g hn
  ·exact Or.inr ⟨h.trans g2, g1⟩
theorem Tm.code_co {t : Tm} (h : t.code = 0) {k : Int} (hk : 0 ≤ k ∧ k ≤ 6) : (Tm.mk t.mo t.ra t.ki k t.st t.en t.ms t.bk t.lg t.eo t.ro).code = 0 := by
 obtain ⟨⟨h1, h2, h3, h4⟩, hd, ho, hw, hb⟩ := t.of_zero h
 exact Tm.may (t := Tm.mk t.mo t.ra t.ki k t.st t.en t.ms t.bk t.lg t.eo t.ro) ⟨h1, hk, h3, h4⟩ hd ho hw hb
end Go.Proofs.YtpfgdfpaoldhcaaGreatDoor
