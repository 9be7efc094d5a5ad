/- VoteAll, of whatever three numbers. -/
import Derived.Test.YtblcihpojnfhfaaAll
namespace Go.Proofs.Ytblcihpojnfhfaa
set_option linter.unusedVariables false
open Go.ChangeShapes Go.WideShapes Go.ChangeAt Go.RowKit

theorem all_all (a0 a1 a2 : Int) (w0 : (Lit.int .u8 a0).wf = true) (w1 : (Lit.int .u8 a1).wf = true) (w2 : (Lit.int .u8 a2).wf = true) (w : World) :
    Calls Try.prog 6 #[.int .u8 a0, .int .u8 a1, .int .u8 a2] w fun e w' => e = .returned (.bool true) ∧ Below w.heap.size w w' := by
  have x0 := bd_u8 w0
  have x1 := bd_u8 w1
  have x2 := bd_u8 w2
  obtain ⟨n, rfl⟩ := Int.eq_ofNat_of_zero_le x0.1
  obtain ⟨ys, rfl⟩ := Int.eq_ofNat_of_zero_le x1.1
  obtain ⟨ns, rfl⟩ := Int.eq_ofNat_of_zero_le x2.1
  exact all_walk n ys ns w (by omega) (by omega) (by omega)

end Go.Proofs.Ytblcihpojnfhfaa
