/- The document's Right, called. -/
import Derived.Test.YthcfmfkdglmkmaaRd
namespace Go.Proofs.Ythcfmfkdglmkmaa
set_option linter.unusedVariables false
set_option linter.unusedSimpArgs false
open Go.ChangeShapes Go.WideShapes Go.ChangeAt Go.RowKit

set_option maxRecDepth 100000 in
set_option maxHeartbeats 8000000 in
theorem right14_any (r : Rq) (w : World) (hr : r.ok w) : Calls Try.prog 13 #[rv r] w (BoolB w (rightR r)) := by
  rw [← right14 hr]
  obtain ⟨P, hP⟩ : ∃ P, P = (BoolB w (shapeB r && endsB r) : Ending → World → Prop) := ⟨_, rfl⟩
  rw [← hP]
  have HP := Lib.hid hP
  have SHP := Lib.hid (fun W (h : Below w.heap.size w W) => shape_any r W (hr.below h))
  have ENP := Lib.hid (fun W (h : Below w.heap.size w W) (hs : shapeB r = true) => ends_any r W (hr.below h) (shape_facts hs))
  generalize shapeB r = sb at HP SHP ENP
  generalize endsB r = eb at HP ENP
  obtain ⟨fc, ad, q, vs, vn, vc, V, rto⟩ := r
  simp only [rv] at SHP ENP ⊢
  have B0 := Lib.hid (alloc_bq w (.cells #[.int .i64 fc, .int .i64 ad, .int .i64 q, .slice vs vn vc, .int .i64 rto] 24 (0, 0)))
  have X0 := Lib.hid (heap_alloc_new w (.cells #[.int .i64 fc, .int .i64 ad, .int .i64 q, .slice vs vn vc, .int .i64 rto] 24 (0, 0)))
  have S0 := SHP.out _ B0.out
  clear hP hr
  go_enter Try.func13, Try.ntmps13
  go_wp2_with fail
  refine S0.mono ?_
  rintro e w1 ⟨rfl, z1⟩
  have B1 := Lib.hid (B0.out.trans (Below.mono z1 B0.out.size))
  obtain ⟨c0, c1, c2, c3, c4⟩ := cells5 (low_of z1 X0.out)
  clear z1 S0
  cases sb with
  | false =>
    go_wp2_with fail
    rw [HP.out]
    exact ⟨rfl, B1.out⟩
  | true =>
    have E1 := ENP.out w1 B1.out (by trivial)
    go_wp2_with fail
    refine E1.mono ?_
    rintro e w2 ⟨rfl, z2⟩
    have B2 := Lib.hid (B1.out.trans (Below.mono z2 B1.out.size))
    clear z2 E1
    go_wp2_with fail
    rw [HP.out]
    exact ⟨rfl, B2.out⟩
end Go.Proofs.Ythcfmfkdglmkmaa
