/- TermsOrder: the walk. -/
import Derived.Test.YtmaioofcmgaakaaGreatDoorTeOrd0
import Derived.Test.YtmaioofcmgaakaaGreatDoorTeOrd1
import Derived.Test.YtmaioofcmgaakaaGreatDoorTeOrd2
import Derived.Test.YtmaioofcmgaakaaGreatDoorTeOrd3
namespace Go.Proofs.YtmaioofcmgaakaaGreatDoor
open Go.RowKit
set_option linter.unusedVariables false
set_option linter.unusedSimpArgs false

theorem teorder_walk (f n d b : Bool) (x : Int) (w : World) (hL : FactsT w) (hx : 0 ≤ x ∧ x < 256) :
    Calls Tryz.prog 5 #[.agg #[.bool f, .bool n, .bool d, .bool b, .int .u8 x]] w fun e w' => e = .returned (.bool true) ∧ Below w.heap.size w w' := by
  obtain hq | hq | hq | hq : x % 4 = 0 ∨ x % 4 = 1 ∨ x % 4 = 2 ∨ x % 4 = 3 := by omega
  · cases f <;> cases n <;> cases d <;> cases b
    · exact teorder_0____ x _ w hL hx hq (by omega) rfl
    · exact teorder_0___b x _ w hL hx hq (by omega) rfl
    · exact teorder_0__t_ x _ w hL hx hq (by omega) rfl
    · exact teorder_0__tb x _ w hL hx hq (by omega) rfl
    · exact teorder_0_n__ x _ w hL hx hq (by omega) rfl
    · exact teorder_0_n_b x _ w hL hx hq (by omega) rfl
    · exact teorder_0_nt_ x _ w hL hx hq (by omega) rfl
    · exact teorder_0_ntb x _ w hL hx hq (by omega) rfl
    · exact teorder_0f___ x _ w hL hx hq (by omega) rfl
    · exact teorder_0f__b x _ w hL hx hq (by omega) rfl
    · exact teorder_0f_t_ x _ w hL hx hq (by omega) rfl
    · exact teorder_0f_tb x _ w hL hx hq (by omega) rfl
    · exact teorder_0fn__ x _ w hL hx hq (by omega) rfl
    · exact teorder_0fn_b x _ w hL hx hq (by omega) rfl
    · exact teorder_0fnt_ x _ w hL hx hq (by omega) rfl
    · exact teorder_0fntb x _ w hL hx hq (by omega) rfl
  · cases f <;> cases n <;> cases d <;> cases b
    · exact teorder_1____ x _ w hL hx hq (by omega) rfl
    · exact teorder_1___b x _ w hL hx hq (by omega) rfl
    · exact teorder_1__t_ x _ w hL hx hq (by omega) rfl
    · exact teorder_1__tb x _ w hL hx hq (by omega) rfl
    · exact teorder_1_n__ x _ w hL hx hq (by omega) rfl
    · exact teorder_1_n_b x _ w hL hx hq (by omega) rfl
    · exact teorder_1_nt_ x _ w hL hx hq (by omega) rfl
    · exact teorder_1_ntb x _ w hL hx hq (by omega) rfl
    · exact teorder_1f___ x _ w hL hx hq (by omega) rfl
    · exact teorder_1f__b x _ w hL hx hq (by omega) rfl
    · exact teorder_1f_t_ x _ w hL hx hq (by omega) rfl
    · exact teorder_1f_tb x _ w hL hx hq (by omega) rfl
    · exact teorder_1fn__ x _ w hL hx hq (by omega) rfl
    · exact teorder_1fn_b x _ w hL hx hq (by omega) rfl
    · exact teorder_1fnt_ x _ w hL hx hq (by omega) rfl
    · exact teorder_1fntb x _ w hL hx hq (by omega) rfl
  · cases f <;> cases n <;> cases d <;> cases b
    · exact teorder_2____ x _ w hL hx hq (by omega) rfl
    · exact teorder_2___b x _ w hL hx hq (by omega) rfl
    · exact teorder_2__t_ x _ w hL hx hq (by omega) rfl
    · exact teorder_2__tb x _ w hL hx hq (by omega) rfl
    · exact teorder_2_n__ x _ w hL hx hq (by omega) rfl
    · exact teorder_2_n_b x _ w hL hx hq (by omega) rfl
    · exact teorder_2_nt_ x _ w hL hx hq (by omega) rfl
    · exact teorder_2_ntb x _ w hL hx hq (by omega) rfl
    · exact teorder_2f___ x _ w hL hx hq (by omega) rfl
    · exact teorder_2f__b x _ w hL hx hq (by omega) rfl
    · exact teorder_2f_t_ x _ w hL hx hq (by omega) rfl
    · exact teorder_2f_tb x _ w hL hx hq (by omega) rfl
    · exact teorder_2fn__ x _ w hL hx hq (by omega) rfl
    · exact teorder_2fn_b x _ w hL hx hq (by omega) rfl
    · exact teorder_2fnt_ x _ w hL hx hq (by omega) rfl
    · exact teorder_2fntb x _ w hL hx hq (by omega) rfl
  · cases f <;> cases n <;> cases d <;> cases b
    · exact teorder_3____ x _ w hL hx hq (by omega) rfl
    · exact teorder_3___b x _ w hL hx hq (by omega) rfl
    · exact teorder_3__t_ x _ w hL hx hq (by omega) rfl
    · exact teorder_3__tb x _ w hL hx hq (by omega) rfl
    · exact teorder_3_n__ x _ w hL hx hq (by omega) rfl
    · exact teorder_3_n_b x _ w hL hx hq (by omega) rfl
    · exact teorder_3_nt_ x _ w hL hx hq (by omega) rfl
    · exact teorder_3_ntb x _ w hL hx hq (by omega) rfl
    · exact teorder_3f___ x _ w hL hx hq (by omega) rfl
    · exact teorder_3f__b x _ w hL hx hq (by omega) rfl
    · exact teorder_3f_t_ x _ w hL hx hq (by omega) rfl
    · exact teorder_3f_tb x _ w hL hx hq (by omega) rfl
    · exact teorder_3fn__ x _ w hL hx hq (by omega) rfl
    · exact teorder_3fn_b x _ w hL hx hq (by omega) rfl
    · exact teorder_3fnt_ x _ w hL hx hq (by omega) rfl
    · exact teorder_3fntb x _ w hL hx hq (by omega) rfl
end Go.Proofs.YtmaioofcmgaakaaGreatDoor
