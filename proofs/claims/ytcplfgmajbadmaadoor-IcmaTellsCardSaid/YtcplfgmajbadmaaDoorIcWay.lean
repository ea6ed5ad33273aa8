/- What package icma's Part tells. -/
import Derived.Test.YtcplfgmajbadmaaDoorIcPartB
namespace Go.Proofs.YtcplfgmajbadmaaDoor
open Go.RowKit
set_option linter.unusedVariables false

theorem ipart_is (a b : Int) (ao : Option Addr) (n cap : Nat) (X : Nat → Int) (f p q c : Int) (w : World) (hF : Facts w) (hn : n ≤ 100) (hR : RowAt w ao X n cap) (hI : IcIs X n f a b p q c) :
    Calls Tryd.prog 9 #[.int .i64 a, .int .i64 b, .slice ao n cap, .int .i64 f] w fun e w' => e = .returned (.tuple #[.agg #[.int .i64 p, .int .i64 q], .int .i64 c]) ∧ Below w.heap.size w w' := by
  have hI0 := hI
  rcases hI with ⟨h1, rfl, rfl, rfl⟩ | ⟨h1, h2, rfl, rfl, rfl⟩ | ⟨h1, h2, h3, rfl, rfl, rfl⟩ | ⟨h1, h2, ⟨hm, h4, h5⟩, hp, hq, rfl⟩
  · exact part_no a b ao n cap X f 0 0 3 w hF hn hR hI0 (by decide)
  · exact part_no a b ao n cap X f 0 0 4 w hF hn hR hI0 (by decide)
  · exact part_no a b ao n cap X f 0 0 5 w hF hn hR hI0 (by decide)
  · have h6 := hm.1
    obtain ⟨B, off, rfl, hC⟩ := hR.2 (by omega)
    obtain ⟨m, rfl⟩ : ∃ m, n = m + 1 := ⟨n - 1, by omega⟩
    rw [Nat.add_sub_cancel] at hp hq
    refine part_yes a b B off m cap X f p q w hF (by omega) (by omega) hR.1 hC hI0 hm.2.2.2.1 h1.1 h1.2 h2 hm.2.2.1 ?_
    rw [sum_is X f a b hm.2.2.1 h2 m hm.2.2.2.1 (by omega), hp, hq]
end Go.Proofs.YtcplfgmajbadmaaDoor
