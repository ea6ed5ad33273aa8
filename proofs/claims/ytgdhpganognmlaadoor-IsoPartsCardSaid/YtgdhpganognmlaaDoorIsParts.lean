/- IsoParts: the walk, whole. -/
import Derived.Test.YtgdhpganognmlaaDoorIsParts0
import Derived.Test.YtgdhpganognmlaaDoorIsParts3
namespace Go.Proofs.YtgdhpganognmlaaDoor
open Go.RowKit
set_option linter.unusedVariables false
set_option linter.unusedSimpArgs false

theorem iparts_walk (y m d k c : Int) (w : World) (hL : Tabs w) (by0 : 0 ≤ y ∧ y < 65536) (bm0 : 0 ≤ m ∧ m < 256) (bd0 : 0 ≤ d ∧ d < 256) (bk0 : 0 ≤ k ∧ k < 256) (bc0 : 0 ≤ c ∧ c < 256) : Calls Tryd.prog 6 #[.agg #[.int .u16 y, .int .u8 m, .int .u8 d, .int .u8 k, .int .u8 c]] w fun e w' => e = .returned (.bool true) ∧ Below w.heap.size w w' := by
  obtain ⟨p, hp⟩ : ∃ p, y % 10000 = p := ⟨_, rfl⟩
  obtain ⟨q, hq⟩ : ∃ q, m % 100 = q := ⟨_, rfl⟩
  obtain ⟨r, hr⟩ : ∃ r, d % 100 = r := ⟨_, rfl⟩
  obtain ⟨I, hI⟩ : ∃ I, k % 10 = I := ⟨_, rfl⟩
  obtain ⟨S, hS⟩ : ∃ S, (⟨(txt p q r).toArray⟩ : ByteArray) = S := ⟨_, rfl⟩
  have i0 : 0 ≤ I ∧ I < 10 := by omega
  have hz : S.size = 10 := by rw [← hS]; show (txt p q r).toArray.size = 10; rw [List.size_toArray, txt_len]
  obtain ⟨T1, a1, a2⟩ := put_set (txt p q r) S (txt_len _ _ _) hS I c i0.1 i0.2
  obtain ⟨n, hn⟩ : ∃ n, nN p q r = n := ⟨_, rfl⟩
  obtain ⟨e, he⟩ : ∃ e, nE p q r = e := ⟨_, rfl⟩
  have hr0 : ReadIs (txt p q r) n e := read_at p q r n e _ rfl (by omega) (by omega) (by omega) ⟨hn, he⟩
  obtain ⟨T, hT⟩ : ∃ T, (⟨((txt p q r).set I.toNat (UInt8.ofNat c.toNat)).toArray⟩ : ByteArray) = T := ⟨_, rfl⟩
  obtain ⟨x, f, hr2⟩ := read_is ((txt p q r).set I.toNat (UInt8.ofNat c.toNat))
  have cb : ((UInt8.ofNat c.toNat).toNat : Int) = c := by rw [UInt8.toNat_ofNat']; omega
  rw [hT] at a2
  have R1 : ∀ v, Tabs v → Calls Tryd.prog 11 #[.string S] v fun e' w' => e' = .returned (.tuple #[.int .i64 n, .int .i64 e]) ∧ Below v.heap.size v w' := fun v hv => by
    rw [← hS]; exact read_any _ n e v hv hr0
  have R2 : ∀ v, Tabs v → Calls Tryd.prog 11 #[.string T] v fun e' w' => e' = .returned (.tuple #[.int .i64 x, .int .i64 f]) ∧ Below v.heap.size v w' := fun v hv => by
    rw [← hT]; exact read_any _ x f v hv hr2
  have ht : (T.toList == S.toList) = ((txt p q r).set I.toNat (UInt8.ofNat c.toNat) == txt p q r) := by
    rw [← hT, ← hS, ByteArray.toList_mk, ByteArray.toList_mk]
  have e03 : e = 0 ∨ e = 3 := by rw [← he]; unfold nE; split <;> simp
  have bad := fun h => set_bad p q r x f I.toNat (UInt8.ofNat c.toNat) (by omega) hr2 h
  have good := fun h => set_good p q r n e x f I.toNat (UInt8.ofNat c.toNat) (by omega) hr0 ⟨hn.symm, he.symm⟩ hr2 h
  have j4 : I.toNat = 4 ↔ I = 4 := by omega
  have j7 : I.toNat = 7 ↔ I = 7 := by omega
  rw [cb] at bad good
  have key : (f = 10 ∧ x = 0 ∧ ¬ (if I = 4 ∨ I = 7 then c = 45 else 48 ≤ c ∧ c ≤ 57)) ∨ ((if I = 4 ∨ I = 7 then c = 45 else 48 ≤ c ∧ c ≤ 57) ∧ (f = 0 ∨ f = 3) ∧ ((T.toList == S.toList) = false → f = 0 → (x != n) = true)) := by
    by_cases hg : if I = 4 ∨ I = 7 then c = 45 else 48 ≤ c ∧ c ≤ 57
    · right
      have hg2 : if I.toNat = 4 ∨ I.toNat = 7 then c = 45 else 48 ≤ c ∧ c ≤ 57 := by simpa only [j4, j7] using hg
      obtain ⟨g1, g2⟩ := good hg2
      refine ⟨hg, g1, fun h1 h2 => ?_⟩
      rw [ht, beq_eq_false_iff_ne] at h1
      simpa using g2 h1 h2
    · left
      have hg2 : ¬ (if I.toNat = 4 ∨ I.toNat = 7 then c = 45 else 48 ≤ c ∧ c ≤ 57) := by simpa only [j4, j7] using hg
      obtain ⟨g1, g2⟩ := bad hg2
      exact ⟨g2, g1, hg⟩
  clear bad good ht hr2 hr0 hT
  rcases e03 with rfl | rfl
  · rcases key with ⟨rfl, rfl, hb⟩ | ⟨hg, hf, hx⟩
    · by_cases h4 : I = 4
      · exact iparts_04bx y m d k c p q r n I _ _ _ S T T1 w hL by0 bm0 bd0 bk0 bc0 hp hq hr hI rfl rfl rfl hS hz ⟨hn, he⟩ R1 R2 a1 a2 i0 h4 (by rw [if_pos (Or.inl h4)] at hb; simpa using hb)
      · by_cases h7 : I = 7
        · exact iparts_07bx y m d k c p q r n I _ _ _ S T T1 w hL by0 bm0 bd0 bk0 bc0 hp hq hr hI rfl rfl rfl hS hz ⟨hn, he⟩ R1 R2 a1 a2 i0 h7 (by rw [if_pos (Or.inr h7)] at hb; simpa using hb)
        · rw [if_neg (by omega)] at hb
          by_cases hc : c < 48
          · exact iparts_0oblo y m d k c p q r n I _ _ _ S T T1 w hL by0 bm0 bd0 bk0 bc0 hp hq hr hI rfl rfl rfl hS hz ⟨hn, he⟩ R1 R2 a1 a2 i0 h4 h7 hc
          · exact iparts_0obhi y m d k c p q r n I _ _ _ S T T1 w hL by0 bm0 bd0 bk0 bc0 hp hq hr hI rfl rfl rfl hS hz ⟨hn, he⟩ R1 R2 a1 a2 i0 h4 h7 (by omega)
    · by_cases h4 : I = 4
      · cases hts : (T.toList == S.toList)
        · rcases hf with rfl | rfl
          · exact iparts_04gother y m d k c p q r n I x _ _ _ S T T1 w hL by0 bm0 bd0 bk0 bc0 hp hq hr hI rfl rfl rfl hS hz ⟨hn, he⟩ R1 R2 a1 a2 i0 h4 (by rw [if_pos (Or.inl h4)] at hg; exact hg) hts (hx hts rfl)
          · exact iparts_04gno y m d k c p q r n I x _ _ _ S T T1 w hL by0 bm0 bd0 bk0 bc0 hp hq hr hI rfl rfl rfl hS hz ⟨hn, he⟩ R1 R2 a1 a2 i0 h4 (by rw [if_pos (Or.inl h4)] at hg; exact hg) hts
        · exact iparts_04gsame y m d k c p q r n I x f _ _ _ S T T1 w hL by0 bm0 bd0 bk0 bc0 hp hq hr hI rfl rfl rfl hS hz ⟨hn, he⟩ R1 R2 a1 a2 i0 h4 (by rw [if_pos (Or.inl h4)] at hg; exact hg) hts hf
      · by_cases h7 : I = 7
        · cases hts : (T.toList == S.toList)
          · rcases hf with rfl | rfl
            · exact iparts_07gother y m d k c p q r n I x _ _ _ S T T1 w hL by0 bm0 bd0 bk0 bc0 hp hq hr hI rfl rfl rfl hS hz ⟨hn, he⟩ R1 R2 a1 a2 i0 h7 (by rw [if_pos (Or.inr h7)] at hg; exact hg) hts (hx hts rfl)
            · exact iparts_07gno y m d k c p q r n I x _ _ _ S T T1 w hL by0 bm0 bd0 bk0 bc0 hp hq hr hI rfl rfl rfl hS hz ⟨hn, he⟩ R1 R2 a1 a2 i0 h7 (by rw [if_pos (Or.inr h7)] at hg; exact hg) hts
          · exact iparts_07gsame y m d k c p q r n I x f _ _ _ S T T1 w hL by0 bm0 bd0 bk0 bc0 hp hq hr hI rfl rfl rfl hS hz ⟨hn, he⟩ R1 R2 a1 a2 i0 h7 (by rw [if_pos (Or.inr h7)] at hg; exact hg) hts hf
        · cases hts : (T.toList == S.toList)
          · rcases hf with rfl | rfl
            · exact iparts_0ogother y m d k c p q r n I x _ _ _ S T T1 w hL by0 bm0 bd0 bk0 bc0 hp hq hr hI rfl rfl rfl hS hz ⟨hn, he⟩ R1 R2 a1 a2 i0 h4 h7 (by rw [if_neg (by omega)] at hg; exact hg) hts (hx hts rfl)
            · exact iparts_0ogno y m d k c p q r n I x _ _ _ S T T1 w hL by0 bm0 bd0 bk0 bc0 hp hq hr hI rfl rfl rfl hS hz ⟨hn, he⟩ R1 R2 a1 a2 i0 h4 h7 (by rw [if_neg (by omega)] at hg; exact hg) hts
          · exact iparts_0ogsame y m d k c p q r n I x f _ _ _ S T T1 w hL by0 bm0 bd0 bk0 bc0 hp hq hr hI rfl rfl rfl hS hz ⟨hn, he⟩ R1 R2 a1 a2 i0 h4 h7 (by rw [if_neg (by omega)] at hg; exact hg) hts hf
  · rcases key with ⟨rfl, rfl, hb⟩ | ⟨hg, hf, hx⟩
    · by_cases h4 : I = 4
      · exact iparts_34bx y m d k c p q r n I _ _ _ S T T1 w hL by0 bm0 bd0 bk0 bc0 hp hq hr hI rfl rfl rfl hS hz ⟨hn, he⟩ R1 R2 a1 a2 i0 h4 (by rw [if_pos (Or.inl h4)] at hb; simpa using hb)
      · by_cases h7 : I = 7
        · exact iparts_37bx y m d k c p q r n I _ _ _ S T T1 w hL by0 bm0 bd0 bk0 bc0 hp hq hr hI rfl rfl rfl hS hz ⟨hn, he⟩ R1 R2 a1 a2 i0 h7 (by rw [if_pos (Or.inr h7)] at hb; simpa using hb)
        · rw [if_neg (by omega)] at hb
          by_cases hc : c < 48
          · exact iparts_3oblo y m d k c p q r n I _ _ _ S T T1 w hL by0 bm0 bd0 bk0 bc0 hp hq hr hI rfl rfl rfl hS hz ⟨hn, he⟩ R1 R2 a1 a2 i0 h4 h7 hc
          · exact iparts_3obhi y m d k c p q r n I _ _ _ S T T1 w hL by0 bm0 bd0 bk0 bc0 hp hq hr hI rfl rfl rfl hS hz ⟨hn, he⟩ R1 R2 a1 a2 i0 h4 h7 (by omega)
    · by_cases h4 : I = 4
      · cases hts : (T.toList == S.toList)
        · rcases hf with rfl | rfl
          · exact iparts_34gother y m d k c p q r n I x _ _ _ S T T1 w hL by0 bm0 bd0 bk0 bc0 hp hq hr hI rfl rfl rfl hS hz ⟨hn, he⟩ R1 R2 a1 a2 i0 h4 (by rw [if_pos (Or.inl h4)] at hg; exact hg) hts (hx hts rfl)
          · exact iparts_34gno y m d k c p q r n I x _ _ _ S T T1 w hL by0 bm0 bd0 bk0 bc0 hp hq hr hI rfl rfl rfl hS hz ⟨hn, he⟩ R1 R2 a1 a2 i0 h4 (by rw [if_pos (Or.inl h4)] at hg; exact hg) hts
        · exact iparts_34gsame y m d k c p q r n I x f _ _ _ S T T1 w hL by0 bm0 bd0 bk0 bc0 hp hq hr hI rfl rfl rfl hS hz ⟨hn, he⟩ R1 R2 a1 a2 i0 h4 (by rw [if_pos (Or.inl h4)] at hg; exact hg) hts hf
      · by_cases h7 : I = 7
        · cases hts : (T.toList == S.toList)
          · rcases hf with rfl | rfl
            · exact iparts_37gother y m d k c p q r n I x _ _ _ S T T1 w hL by0 bm0 bd0 bk0 bc0 hp hq hr hI rfl rfl rfl hS hz ⟨hn, he⟩ R1 R2 a1 a2 i0 h7 (by rw [if_pos (Or.inr h7)] at hg; exact hg) hts (hx hts rfl)
            · exact iparts_37gno y m d k c p q r n I x _ _ _ S T T1 w hL by0 bm0 bd0 bk0 bc0 hp hq hr hI rfl rfl rfl hS hz ⟨hn, he⟩ R1 R2 a1 a2 i0 h7 (by rw [if_pos (Or.inr h7)] at hg; exact hg) hts
          · exact iparts_37gsame y m d k c p q r n I x f _ _ _ S T T1 w hL by0 bm0 bd0 bk0 bc0 hp hq hr hI rfl rfl rfl hS hz ⟨hn, he⟩ R1 R2 a1 a2 i0 h7 (by rw [if_pos (Or.inr h7)] at hg; exact hg) hts hf
        · cases hts : (T.toList == S.toList)
          · rcases hf with rfl | rfl
            · exact iparts_3ogother y m d k c p q r n I x _ _ _ S T T1 w hL by0 bm0 bd0 bk0 bc0 hp hq hr hI rfl rfl rfl hS hz ⟨hn, he⟩ R1 R2 a1 a2 i0 h4 h7 (by rw [if_neg (by omega)] at hg; exact hg) hts (hx hts rfl)
            · exact iparts_3ogno y m d k c p q r n I x _ _ _ S T T1 w hL by0 bm0 bd0 bk0 bc0 hp hq hr hI rfl rfl rfl hS hz ⟨hn, he⟩ R1 R2 a1 a2 i0 h4 h7 (by rw [if_neg (by omega)] at hg; exact hg) hts
          · exact iparts_3ogsame y m d k c p q r n I x f _ _ _ S T T1 w hL by0 bm0 bd0 bk0 bc0 hp hq hr hI rfl rfl rfl hS hz ⟨hn, he⟩ R1 R2 a1 a2 i0 h4 h7 (by rw [if_neg (by omega)] at hg; exact hg) hts hf
end Go.Proofs.YtgdhpganognmlaaDoor
