/- CrcBits, of whatever bytes, and whatever bit. -/
import Derived.Test.YtkkhkcjgpefjiaaBitsA
import Derived.Test.YtkkhkcjgpefjiaaBitsB
import Derived.Test.YtkkhkcjgpefjiaaBitsC
import Derived.Test.YtkkhkcjgpefjiaaBitsD
namespace Go.Proofs.Ytkkhkcjgpefjiaa
set_option linter.unusedVariables false
open Go.ChangeShapes Go.WideShapes Go.ChangeAt Go.RowKit

theorem bits_big (a : Option Addr) (len cap : Nat) (at' : Int) (tw : Bool) (w : World) (hm : len ≤ maxLen) (hlen : 4000 < len) :
    Calls Try.prog 5 #[.slice a len cap, .int .u16 at', .bool tw] w fun e w' => e = .returned (.bool true) ∧ Below w.heap.size w w' := by
  unfold maxLen at hm
  have hd : decide (4000 < (len : Int)) = true := by simp; omega
  go_enter Try.func5, Try.ntmps5
  go_wp2_with fail
  refine (head_any w).mono ?_
  rintro e w0 ⟨rfl, b0⟩
  go_wp2_with fail
  go_ret
  exact ⟨rfl, b0⟩

theorem bits_all (a : Option Addr) (len cap : Nat) (f : Nat → Nat) (at' : Int) (tw : Bool) (w : World) (h : Arg w a len cap f) (ht : (Lit.int .u16 at').wf = true) :
    Calls Try.prog 5 #[.slice a len cap, .int .u16 at', .bool tw] w fun e w' => e = .returned (.bool true) ∧ Below w.heap.size w w' := by
  by_cases hl : 4000 < len
  · exact bits_big a len cap at' tw w h.row.le hl
  · have x0 := bd_u16 ht
    obtain ⟨n, rfl⟩ := Int.eq_ofNat_of_zero_le x0.1
    obtain ⟨q, j, hj, hm⟩ : ∃ q j, j < 8 ∧ n % (8 * (len + 2) - 1) = 8 * q + j := ⟨n % (8 * (len + 2) - 1) / 8, n % (8 * (len + 2) - 1) % 8, by omega, by omega⟩
    have h8 : j = 0 ∨ j = 1 ∨ j = 2 ∨ j = 3 ∨ j = 4 ∨ j = 5 ∨ j = 6 ∨ j = 7 := by omega
    rcases h8 with rfl | rfl | rfl | rfl | rfl | rfl | rfl | rfl
    · exact bits_walk0 a len cap f n q tw w h (by omega) (by omega) hm
    · exact bits_walk1 a len cap f n q tw w h (by omega) (by omega) hm
    · exact bits_walk2 a len cap f n q tw w h (by omega) (by omega) hm
    · exact bits_walk3 a len cap f n q tw w h (by omega) (by omega) hm
    · exact bits_walk4 a len cap f n q tw w h (by omega) (by omega) hm
    · exact bits_walk5 a len cap f n q tw w h (by omega) (by omega) hm
    · exact bits_walk6 a len cap f n q tw w h (by omega) (by omega) hm
    · exact bits_walk7 a len cap f n q tw w h (by omega) (by omega) hm

end Go.Proofs.Ytkkhkcjgpefjiaa
