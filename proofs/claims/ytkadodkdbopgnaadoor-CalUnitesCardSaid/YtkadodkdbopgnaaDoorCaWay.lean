/- Package cal: what its four calls answer, as the walks of layer 13 ask it. -/
import Derived.Test.YtkadodkdbopgnaaDoorCaWayE
namespace Go.Proofs.YtkadodkdbopgnaaDoor

theorem calway : CalWay := ⟨cmay_is, cis_is, cun_is, cmany_is⟩
end Go.Proofs.YtkadodkdbopgnaaDoor
