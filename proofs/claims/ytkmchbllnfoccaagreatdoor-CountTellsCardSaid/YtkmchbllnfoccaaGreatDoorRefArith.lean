/- The reference: sums, products and order of fractions that are right. -/
import Derived.Test.YtkmchbllnfoccaaGreatDoorRefBig
import Derived.Deep.RegionHeld3
namespace Go.Proofs.YtkmchbllnfoccaaGreatDoor
open Go.RowKit
set_option linter.unusedVariables false

set_option maxHeartbeats 8000000 in
theorem refadd_any (an ad bn bd : Int) (w : World) (ha : rightB an ad = true) (hb : rightB bn bd = true) :
    Calls Tryz.prog 18 #[.agg #[.int .i64 an, .int .i64 ad], .agg #[.int .i64 bn, .int .i64 bd]] w fun e w' => e = .returned (.tuple #[.agg #[.int .i64 (rN (an * bd + bn * ad) (ad * bd)), .int .i64 (rD (an * bd + bn * ad) (ad * bd))], .int .i64 (rE (an * bd + bn * ad) (ad * bd))]) ∧ Below w.heap.size w w' := by
  have H := Held.start w
  obtain ⟨a0, a1, a2, a3, -⟩ := (right_iff an ad).1 ha
  obtain ⟨b0, b1, b2, b3, -⟩ := (right_iff bn bd).1 hb
  have tp : 0 < ad * bd := Int.mul_pos (by omega) (by omega)
  obtain ⟨rn, RN⟩ : ∃ x, Hid (rN (an * bd + bn * ad) (ad * bd) = x) := ⟨_, Lib.hid rfl⟩
  obtain ⟨rd, RD⟩ : ∃ x, Hid (rD (an * bd + bn * ad) (ad * bd) = x) := ⟨_, Lib.hid rfl⟩
  obtain ⟨re, RE⟩ : ∃ x, Hid (rE (an * bd + bn * ad) (ad * bd) = x) := ⟨_, Lib.hid rfl⟩
  rw [RN.out, RD.out, RE.out]
  clear ha hb
  go_enter Tryz.func18, Tryz.ntmps18
  go_wp2_with fail
  replace H := (((H.pair (w.heap.size) (.int .i64 an) (.int .i64 ad) 29 rfl).pair (w.heap.size + 1) (.int .i64 bn) (.int .i64 bd) 29 (by simp)).pair (w.heap.size + 2) (.int .i64 0) (.int .i64 0) 29 (by simp))
  have lz := H.lt (w.heap.size + 2) 0 (.int .i64 0) (by repeat (first | with_reducible exact List.mem_cons_self | with_reducible apply List.mem_cons_of_mem))
  (with_reducible refine (big_n an ad _ (by omega) (by omega) (by omega) (by omega)).mono ?_)
  rintro e w1 ⟨pa, pk, pc, qa, qk, qc, rfl, N1, N2, F1, F2, hb⟩
  replace H := H.below hb
  clear hb
  have Fp := Lib.hid (fun g hg => show w.heap.size + 3 ≤ g from Nat.le_trans lz (F1 g hg))
  have Fq := Lib.hid (fun g hg => show w.heap.size + 3 ≤ g from Nat.le_trans lz (F2 g hg))
  replace H := (H.num N1).num N2
  have z0 := H.lt (w.heap.size + 2) 0 (.int .i64 0) (by repeat (first | with_reducible exact List.mem_cons_self | with_reducible apply List.mem_cons_of_mem))
  clear N1 N2 F1 F2 lz
  have cb0 := H.cell (w.heap.size + 1) 0 (.int .i64 bn) (List.Mem.tail _ (List.Mem.tail _ (List.Mem.tail _ (List.Mem.tail _ (List.Mem.tail _ (List.Mem.tail _ (List.Mem.head _)))))))
  have cb1 := H.cell (w.heap.size + 1) 1 (.int .i64 bd) (List.Mem.tail _ (List.Mem.tail _ (List.Mem.tail _ (List.Mem.tail _ (List.Mem.tail _ (List.Mem.tail _ (List.Mem.tail _ (List.Mem.head _))))))))
  have lb := H.lt (w.heap.size + 1) 0 (.int .i64 bn) (List.Mem.tail _ (List.Mem.tail _ (List.Mem.tail _ (List.Mem.tail _ (List.Mem.tail _ (List.Mem.tail _ (List.Mem.head _)))))))
  have lb_0 := Nat.lt_trans (show w.heap.size < w.heap.size + 1 by omega) lb
  go_wp2_with fail
  clear cb0 cb1 lb lb_0
  replace H := ((H.lone (w1.heap.size) (.slice pa pk pc) 71 rfl).lone (w1.heap.size + 1) (.slice qa qk qc) 71 (by simp))
  have lz := H.lt (w.heap.size + 2) 0 (.int .i64 0) (by repeat (first | with_reducible exact List.mem_cons_self | with_reducible apply List.mem_cons_of_mem))
  (with_reducible refine (big_n bn bd _ (by omega) (by omega) (by omega) (by omega)).mono ?_)
  rintro e w2 ⟨ra, rk, rc, sa, sk, sc, rfl, N1, N2, F1, F2, hb⟩
  replace H := H.below hb
  clear hb
  have Fr := Lib.hid (fun g hg => show w.heap.size + 3 ≤ g from Nat.le_trans lz (F1 g hg))
  have Fs := Lib.hid (fun g hg => show w.heap.size + 3 ≤ g from Nat.le_trans lz (F2 g hg))
  replace H := (H.num N1).num N2
  have z1 := H.lt (w.heap.size + 2) 0 (.int .i64 0) (by repeat (first | with_reducible exact List.mem_cons_self | with_reducible apply List.mem_cons_of_mem))
  clear N1 N2 F1 F2 lz
  go_wp2_with fail
  replace H := ((H.lone (w2.heap.size) (.slice ra rk rc) 71 rfl).lone (w2.heap.size + 1) (.slice sa sk sc) 71 (by simp))
  replace H := H.is (w.heap.size + 2) 1 (.int .i64 0) (by repeat (first | with_reducible exact List.mem_cons_self | with_reducible apply List.mem_cons_of_mem))
  replace H := H.is (w.heap.size + 2) 0 (.int .i64 0) (by repeat (first | with_reducible exact List.mem_cons_self | with_reducible apply List.mem_cons_of_mem))
  replace H : Held w [.is (w.heap.size + 2) 0, .is (w.heap.size + 2) 1, .free (w.heap.size + 2) 0, .free (w.heap.size + 2) 1, .cell (w1.heap.size) 0 (.slice pa pk pc), .cell (w1.heap.size + 1) 0 (.slice qa qk qc), .cell (w2.heap.size) 0 (.slice ra rk rc), .cell (w2.heap.size + 1) 0 (.slice sa sk sc), .num (.slice pa pk pc) (an) 5, .num (.slice qa qk qc) (ad) 5, .num (.slice ra rk rc) (bn) 5, .num (.slice sa sk sc) (bd) 5] _ := H.sub (fun f hf => by
    simp only [List.mem_cons, List.not_mem_nil, or_false] at hf
    rcases hf with rfl | rfl | rfl | rfl | rfl | rfl | rfl | rfl | rfl | rfl | rfl | rfl
    all_goals exact (by repeat (first | with_reducible exact List.mem_cons_self | with_reducible apply List.mem_cons_of_mem)))
  have KS : Hid (∀ w' : World, Held w [.is (w.heap.size + 2) 0, .is (w.heap.size + 2) 1, .free (w.heap.size + 2) 0, .free (w.heap.size + 2) 1, .cell (w1.heap.size) 0 (.slice pa pk pc), .cell (w1.heap.size + 1) 0 (.slice qa qk qc), .cell (w2.heap.size) 0 (.slice ra rk rc), .cell (w2.heap.size + 1) 0 (.slice sa sk sc), .num (.slice pa pk pc) (an) 5, .num (.slice qa qk qc) (ad) 5, .num (.slice ra rk rc) (bn) 5, .num (.slice sa sk sc) (bd) 5] w' → w'.cell? ⟨w1.heap.size, 0, none⟩ = some (.slice pa pk pc) ∧ w'.cell? ⟨w1.heap.size + 1, 0, none⟩ = some (.slice qa qk qc) ∧ w'.cell? ⟨w2.heap.size, 0, none⟩ = some (.slice ra rk rc) ∧ w'.cell? ⟨w2.heap.size + 1, 0, none⟩ = some (.slice sa sk sc) ∧ w'.frozen? ⟨w.heap.size + 2, 0, none⟩ = false ∧ (w'.cell? ⟨w.heap.size + 2, 0, none⟩).isSome = true ∧ w'.frozen? ⟨w.heap.size + 2, 1, none⟩ = false ∧ (w'.cell? ⟨w.heap.size + 2, 1, none⟩).isSome = true ∧ Held w [.is (w.heap.size + 2) 0, .is (w.heap.size + 2) 1, .free (w.heap.size + 2) 0, .free (w.heap.size + 2) 1, .cell (w1.heap.size) 0 (.slice pa pk pc), .cell (w1.heap.size + 1) 0 (.slice qa qk qc), .cell (w2.heap.size) 0 (.slice ra rk rc), .cell (w2.heap.size + 1) 0 (.slice sa sk sc), .num (.slice pa pk pc) (an) 5, .num (.slice qa qk qc) (ad) 5, .num (.slice ra rk rc) (bn) 5, .num (.slice sa sk sc) (bd) 5] w') := Lib.hid (fun _ h => ⟨h.cell (w1.heap.size) 0 (.slice pa pk pc) (List.Mem.tail _ (List.Mem.tail _ (List.Mem.tail _ (List.Mem.tail _ (List.Mem.head _))))), h.cell (w1.heap.size + 1) 0 (.slice qa qk qc) (List.Mem.tail _ (List.Mem.tail _ (List.Mem.tail _ (List.Mem.tail _ (List.Mem.tail _ (List.Mem.head _)))))), h.cell (w2.heap.size) 0 (.slice ra rk rc) (List.Mem.tail _ (List.Mem.tail _ (List.Mem.tail _ (List.Mem.tail _ (List.Mem.tail _ (List.Mem.tail _ (List.Mem.head _))))))), h.cell (w2.heap.size + 1) 0 (.slice sa sk sc) (List.Mem.tail _ (List.Mem.tail _ (List.Mem.tail _ (List.Mem.tail _ (List.Mem.tail _ (List.Mem.tail _ (List.Mem.tail _ (List.Mem.head _)))))))), h.frozen (w.heap.size + 2) 0 (List.Mem.tail _ (List.Mem.tail _ (List.Mem.head _))), h.some (w.heap.size + 2) 0 (List.Mem.head _), h.frozen (w.heap.size + 2) 1 (List.Mem.tail _ (List.Mem.tail _ (List.Mem.tail _ (List.Mem.head _)))), h.some (w.heap.size + 2) 1 (List.Mem.tail _ (List.Mem.head _)), h⟩)
  have KH : Hid (∀ w' : World, w'.cell? ⟨w1.heap.size, 0, none⟩ = some (.slice pa pk pc) ∧ w'.cell? ⟨w1.heap.size + 1, 0, none⟩ = some (.slice qa qk qc) ∧ w'.cell? ⟨w2.heap.size, 0, none⟩ = some (.slice ra rk rc) ∧ w'.cell? ⟨w2.heap.size + 1, 0, none⟩ = some (.slice sa sk sc) ∧ w'.frozen? ⟨w.heap.size + 2, 0, none⟩ = false ∧ (w'.cell? ⟨w.heap.size + 2, 0, none⟩).isSome = true ∧ w'.frozen? ⟨w.heap.size + 2, 1, none⟩ = false ∧ (w'.cell? ⟨w.heap.size + 2, 1, none⟩).isSome = true ∧ Held w [.is (w.heap.size + 2) 0, .is (w.heap.size + 2) 1, .free (w.heap.size + 2) 0, .free (w.heap.size + 2) 1, .cell (w1.heap.size) 0 (.slice pa pk pc), .cell (w1.heap.size + 1) 0 (.slice qa qk qc), .cell (w2.heap.size) 0 (.slice ra rk rc), .cell (w2.heap.size + 1) 0 (.slice sa sk sc), .num (.slice pa pk pc) (an) 5, .num (.slice qa qk qc) (ad) 5, .num (.slice ra rk rc) (bn) 5, .num (.slice sa sk sc) (bd) 5] w' → Held w [.is (w.heap.size + 2) 0, .is (w.heap.size + 2) 1, .free (w.heap.size + 2) 0, .free (w.heap.size + 2) 1, .cell (w1.heap.size) 0 (.slice pa pk pc), .cell (w1.heap.size + 1) 0 (.slice qa qk qc), .cell (w2.heap.size) 0 (.slice ra rk rc), .cell (w2.heap.size + 1) 0 (.slice sa sk sc), .num (.slice pa pk pc) (an) 5, .num (.slice qa qk qc) (ad) 5, .num (.slice ra rk rc) (bn) 5, .num (.slice sa sk sc) (bd) 5] w') := Lib.hid (fun _ h => h.2.2.2.2.2.2.2.2)
  have ST0 : Hid (∀ (W : World) (u : Value) (o : Nat), Held w [.is (w.heap.size + 2) 0, .is (w.heap.size + 2) 1, .free (w.heap.size + 2) 0, .free (w.heap.size + 2) 1, .cell (w1.heap.size) 0 (.slice pa pk pc), .cell (w1.heap.size + 1) 0 (.slice qa qk qc), .cell (w2.heap.size) 0 (.slice ra rk rc), .cell (w2.heap.size + 1) 0 (.slice sa sk sc), .num (.slice pa pk pc) (an) 5, .num (.slice qa qk qc) (ad) 5, .num (.slice ra rk rc) (bn) 5, .num (.slice sa sk sc) (bd) 5] W → Held w [.is (w.heap.size + 2) 0, .is (w.heap.size + 2) 1, .free (w.heap.size + 2) 0, .free (w.heap.size + 2) 1, .cell (w1.heap.size) 0 (.slice pa pk pc), .cell (w1.heap.size + 1) 0 (.slice qa qk qc), .cell (w2.heap.size) 0 (.slice ra rk rc), .cell (w2.heap.size + 1) 0 (.slice sa sk sc), .num (.slice pa pk pc) (an) 5, .num (.slice qa qk qc) (ad) 5, .num (.slice ra rk rc) (bn) 5, .num (.slice sa sk sc) (bd) 5] (W.setCell ⟨w.heap.size + 2, o, none⟩ u)) := Lib.hid (fun W u o h => h.set (w.heap.size + 2) o u (by omega) (fun f hf => by
    simp only [List.mem_cons, List.not_mem_nil, or_false] at hf
    rcases hf with rfl | rfl | rfl | rfl | rfl | rfl | rfl | rfl | rfl | rfl | rfl | rfl
    · trivial
    · trivial
    · trivial
    · trivial
    · exact (show _ ≠ _ by omega)
    · exact (show _ ≠ _ by omega)
    · exact (show _ ≠ _ by omega)
    · exact (show _ ≠ _ by omega)
    · exact fun W o u h => BigN.setCell (p := ⟨w.heap.size + 2, o, none⟩) h (fun e => by have := Fp.out _ e; simp at this) u
    · exact fun W o u h => BigN.setCell (p := ⟨w.heap.size + 2, o, none⟩) h (fun e => by have := Fq.out _ e; simp at this) u
    · exact fun W o u h => BigN.setCell (p := ⟨w.heap.size + 2, o, none⟩) h (fun e => by have := Fr.out _ e; simp at this) u
    · exact fun W o u h => BigN.setCell (p := ⟨w.heap.size + 2, o, none⟩) h (fun e => by have := Fs.out _ e; simp at this) u))
  have HS := Lib.hid (KS.out _ H.drew)
  go_region_held3 (fun w' => w'.cell? ⟨w1.heap.size, 0, none⟩ = some (.slice pa pk pc) ∧ w'.cell? ⟨w1.heap.size + 1, 0, none⟩ = some (.slice qa qk qc) ∧ w'.cell? ⟨w2.heap.size, 0, none⟩ = some (.slice ra rk rc) ∧ w'.cell? ⟨w2.heap.size + 1, 0, none⟩ = some (.slice sa sk sc) ∧ w'.frozen? ⟨w.heap.size + 2, 0, none⟩ = false ∧ (w'.cell? ⟨w.heap.size + 2, 0, none⟩).isSome = true ∧ w'.frozen? ⟨w.heap.size + 2, 1, none⟩ = false ∧ (w'.cell? ⟨w.heap.size + 2, 1, none⟩).isSome = true ∧ Held w [.is (w.heap.size + 2) 0, .is (w.heap.size + 2) 1, .free (w.heap.size + 2) 0, .free (w.heap.size + 2) 1, .cell (w1.heap.size) 0 (.slice pa pk pc), .cell (w1.heap.size + 1) 0 (.slice qa qk qc), .cell (w2.heap.size) 0 (.slice ra rk rc), .cell (w2.heap.size + 1) 0 (.slice sa sk sc), .num (.slice pa pk pc) (an) 5, .num (.slice qa qk qc) (ad) 5, .num (.slice ra rk rc) (bn) 5, .num (.slice sa sk sc) (bd) 5] w')
    (first | exact HS.out | (refine KS.out _ (Held.below (KH.out _ ?_) hb); assumption) | (refine KS.out _ (ST0.out _ _ _ (ST0.out _ _ _ (KH.out _ ?_))); assumption))
    (first
      | (go_at_call 34; (with_reducible refine (prod_n (.slice pa pk pc) (.slice sa sk sc) an bd 5 5 _ (Held.big (KH.out _ (by assumption)) (.slice pa pk pc) (an) 5 (by repeat (first | with_reducible exact List.mem_cons_self | with_reducible apply List.mem_cons_of_mem))) (Held.big (KH.out _ (by assumption)) (.slice sa sk sc) (bd) 5 (by repeat (first | with_reducible exact List.mem_cons_self | with_reducible apply List.mem_cons_of_mem))) (by omega) (by omega)).mono ?_); rintro e w' ⟨xa, xk, xc, rfl, NN, -, hb⟩; (try replace Nx := Nx.below hb); (try replace Ny := Ny.below hb); (try replace Nz := Nz.below hb); (try replace Nt := Nt.below hb); have Nx := NN; clear NN)
      | (go_at_call 34; (with_reducible refine (prod_n (.slice ra rk rc) (.slice qa qk qc) bn ad 5 5 _ (Held.big (KH.out _ (by assumption)) (.slice ra rk rc) (bn) 5 (by repeat (first | with_reducible exact List.mem_cons_self | with_reducible apply List.mem_cons_of_mem))) (Held.big (KH.out _ (by assumption)) (.slice qa qk qc) (ad) 5 (by repeat (first | with_reducible exact List.mem_cons_self | with_reducible apply List.mem_cons_of_mem))) (by omega) (by omega)).mono ?_); rintro e w' ⟨ya, yk, yc, rfl, NN, -, hb⟩; (try replace Nx := Nx.below hb); (try replace Ny := Ny.below hb); (try replace Nz := Nz.below hb); (try replace Nt := Nt.below hb); have Ny := NN; clear NN)
      | (go_at_call 34; (with_reducible refine (prod_n (.slice qa qk qc) (.slice sa sk sc) ad bd 5 5 _ (Held.big (KH.out _ (by assumption)) (.slice qa qk qc) (ad) 5 (by repeat (first | with_reducible exact List.mem_cons_self | with_reducible apply List.mem_cons_of_mem))) (Held.big (KH.out _ (by assumption)) (.slice sa sk sc) (bd) 5 (by repeat (first | with_reducible exact List.mem_cons_self | with_reducible apply List.mem_cons_of_mem))) (by omega) (by omega)).mono ?_); rintro e w' ⟨ta, tk, tc, rfl, NN, -, hb⟩; (try replace Nx := Nx.below hb); (try replace Ny := Ny.below hb); (try replace Nz := Nz.below hb); (try replace Nt := Nt.below hb); have Nt := NN; clear NN)
      | (go_at_call 33; (with_reducible refine (plus_n (.slice xa xk xc) (.slice ya yk yc) (an * bd) (bn * ad) 11 11 _ Nx Ny (by omega) (by omega)).mono ?_); rintro e w' ⟨za, zk, zc, rfl, NN, -, hb⟩; (try replace Nx := Nx.below hb); (try replace Ny := Ny.below hb); (try replace Nz := Nz.below hb); (try replace Nt := Nt.below hb); have Nz := NN; clear NN)
      | (go_at_call 32; (with_reducible refine (made_n za zk zc ta tk tc (an * bd + bn * ad) (ad * bd) 12 _ (Nz.more (by decide)) (Nt.more (by decide)) (by omega) tp).mono ?_); rw [RN.out, RD.out, RE.out]; rintro e w' ⟨rfl, hb⟩; have H2 := (KH.out _ (by assumption)).below hb; obtain ⟨v0, is0⟩ := Option.isSome_iff_exists.1 (H2.some (w.heap.size + 2) 0 (by repeat (first | with_reducible exact List.mem_cons_self | with_reducible apply List.mem_cons_of_mem))); have fr0 := H2.frozen (w.heap.size + 2) 0 (by repeat (first | with_reducible exact List.mem_cons_self | with_reducible apply List.mem_cons_of_mem)); obtain ⟨v1, is1⟩ := Option.isSome_iff_exists.1 (H2.some (w.heap.size + 2) 1 (by repeat (first | with_reducible exact List.mem_cons_self | with_reducible apply List.mem_cons_of_mem))); have fr1 := H2.frozen (w.heap.size + 2) 1 (by repeat (first | with_reducible exact List.mem_cons_self | with_reducible apply List.mem_cons_of_mem)); have OLD := H2.old; clear H2))
  all_goals
    go_wp2_with fail
    exact bodyPost_ret (v := .tuple #[.agg #[.int .i64 rn, .int .i64 rd], .int .i64 re]) (by simp [results, Tryz.results18, go_sem, is0, is1]) rfl ⟨rfl, (OLD.setCell (by simp <;> omega) _).setCell (by simp <;> omega) _⟩

end Go.Proofs.YtkmchbllnfoccaaGreatDoor
