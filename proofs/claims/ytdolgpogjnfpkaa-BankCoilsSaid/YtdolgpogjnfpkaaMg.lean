/- get of any kind. -/
import Derived.Test.YtdolgpogjnfpkaaLa
import Derived.Test.YtdolgpogjnfpkaaLb
import Derived.Test.YtdolgpogjnfpkaaLc
import Derived.Test.YtdolgpogjnfpkaaLe
import Derived.Test.YtdolgpogjnfpkaaLf
import Derived.Test.YtdolgpogjnfpkaaLg
import Derived.Test.YtdolgpogjnfpkaaLh
namespace Go.Proofs.Ytdolgpogjnfpkaa
set_option linter.unusedVariables false
set_option linter.unusedSimpArgs false
open Go.ChangeShapes Go.WideShapes Go.ChangeAt Go.RowKit

theorem get_of {k : Int} {f : Fo} (hk : formOf k = some f) (a : Option Addr) (n cp : Nat) (L : List Nat) (w : World) (h : ArgB w a n cp L) (hn : 0 < n) (hl : n ≤ 100000) :
    Calls Try.prog 52 #[fv f, .slice a n cp] w (GetFP w f L) := by
  unfold formOf at hk
  repeat' split at hk
  all_goals first | (cases hk; done) | (injection hk with hk; subst hk)
  · exact get_s6 true true 125 1 121 a n cp L w h hn hl (by omega) (by omega)
  · exact get_s3 false true 0 2 2 a n cp L w h hn hl rfl (by omega)
  · exact get_s5 false true 123 1 123 a n cp L w h hn hl (by omega) (by omega)
  · exact get_s4 false true 1968 1 1968 a n cp L w h hn hl (by omega) (by omega)
  · exact get_s3 false true 0 1 1 a n cp L w h hn hl rfl (by omega)
  · exact get_s2 false true 0 1 1 a n cp L w h hn hl rfl (by omega)
  · exact get_s1b true false 125 0 0 a n cp L w h hn hl (by omega) rfl
  · exact get_s1b true false 125 0 0 a n cp L w h hn hl (by omega) rfl
  · exact get_s1a true false 2000 0 0 a n cp L w h hn hl (by omega) rfl
  · exact get_s1a true false 2000 0 0 a n cp L w h hn hl (by omega) rfl
end Go.Proofs.Ytdolgpogjnfpkaa
