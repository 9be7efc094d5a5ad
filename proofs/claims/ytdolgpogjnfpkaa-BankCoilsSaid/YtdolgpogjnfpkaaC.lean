/- has, fits. -/
import Derived.Test.YtdolgpogjnfpkaaB
namespace Go.Proofs.Ytdolgpogjnfpkaa
set_option linter.unusedVariables false
open Go.ChangeShapes Go.WideShapes Go.ChangeAt Go.RowKit

def rv (r : Rq) : Value := .agg #[.int .i64 r.fc, .int .i64 r.ad, .int .i64 r.q, .slice r.vs r.vn r.vc, .int .i64 r.to]
theorem len_lt {r : Rq} {w : World} (h : r.ok w) : r.V.length = r.vn ∧ r.vn ≤ 9223372036854775807 := by
  have h1 := h.arg.row.ln
  have h2 := h.arg.row.le
  unfold maxLen at h2
  exact ⟨h1, h2⟩
set_option maxRecDepth 100000 in
set_option maxHeartbeats 4000000 in
theorem fits_any (f : Fo) (r : Rq) (w : World) (hf : f.small) (hr : r.ok w) (ha : isPl r.ad = true) (ht : isPl r.to = true) (hq : r.q ≤ 2000) (hv : r.V.length ≤ 2000) :
    Calls Try.prog 56 #[fv f, rv r] w fun e w' => e = .returned (.bool (fits f r)) ∧ Below w.heap.size w w' := by
  obtain ⟨rd, wr, bi, q, le, mo, co, to⟩ := f
  obtain ⟨hl, hl2⟩ := len_lt hr
  unfold isPl at ha ht
  simp only [Bool.and_eq_true, decide_eq_true_eq] at ha ht
  have y1 := bd_i64 hr.q
  clear hr
  obtain ⟨fc, ad, rq, vs, vn, vc, V, rto⟩ := r
  unfold fits
  simp only at hl ha ht hq hv hl2 y1 ⊢
  rw [hl] at hv ⊢
  clear hl
  obtain ⟨ha1, ha2⟩ := ha
  obtain ⟨ht1, ht2⟩ := ht
  unfold fv rv
  have b0 : Below w.heap.size w ((w.alloc (.cells #[.bool rd, .bool wr, .bool bi, .int .i64 (q : Int), .int .i64 (le : Int), .int .i64 (mo : Int), .bool co, .bool to] 81 (0, 0))).alloc (.cells #[.int .i64 fc, .int .i64 ad, .int .i64 rq, .slice vs vn vc, .int .i64 rto] 32 (0, 0))) := ((Below.refl _ _).alloc (Nat.le_refl _) _).alloc (by simp) _
  have B0 := Lib.hid b0
  clear b0
  have hmx : max rq 1 = if rq < 1 then 1 else rq := by omega
  rw [hmx]
  clear hmx
  by_cases hq1 : rq < 1
  · rw [if_pos hq1]
    cases h1 : decide (ad + 1 ≤ 65536) <;> cases to
    all_goals
      go_enter Try.func56, Try.ntmps56
      go_wp2_with fail
      go_ret
      exact ⟨by simp, B0.out⟩
  · rw [if_neg hq1]
    cases h1 : decide (ad + rq ≤ 65536) <;> cases to
    all_goals
      go_enter Try.func56, Try.ntmps56
      go_wp2_with fail
      go_ret
      exact ⟨by simp, B0.out⟩
end Go.Proofs.Ytdolgpogjnfpkaa
