/- New makes one new block. -/
import Derived.Test.YtckmgknngpjklaaB
namespace Go.Proofs.Ytckmgknngpjklaa
set_option linter.unusedVariables false
open Go.ChangeShapes Go.WideShapes Go.ChangeAt Go.RowKit

theorem new_any (on off : Int) (w : World) :
    Calls Try.prog 9 #[.int .i64 on, .int .i64 off] w fun e w' => e = .returned (.pointer (some ⟨w.heap.size, 0, none⟩)) ∧ Below w.heap.size w w' ∧ w'.heap[w.heap.size]? = some (D.mk false (wi off 0) (wi on 0) false 0 0).obj := by
  go_enter Try.func9, Try.ntmps9
  go_wp2_with fail
  go_region_with (first
    | (go_at_call 18; refine (place_any _ _).mono ?_; rintro e w' ⟨rfl, rfl⟩)
    | (go_at_call 17; refine (within_any _ _ _).mono ?_; rintro e w' ⟨rfl, rfl⟩))
  go_wp2_with fail
  go_region_with (first
    | (go_at_call 18; refine (place_any _ _).mono ?_; rintro e w' ⟨rfl, rfl⟩)
    | (go_at_call 17; refine (within_any _ _ _).mono ?_; rintro e w' ⟨rfl, rfl⟩))
  go_wp2_with fail
  go_ret
  refine ⟨rfl, ?_, ?_⟩
  · go_grown
  · exact heap_alloc_new w _

end Go.Proofs.Ytckmgknngpjklaa
