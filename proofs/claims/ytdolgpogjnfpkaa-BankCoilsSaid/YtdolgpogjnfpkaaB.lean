/- isPlace, sized, allBits. -/
import Derived.Test.YtdolgpogjnfpkaaA
namespace Go.Proofs.Ytdolgpogjnfpkaa
set_option linter.unusedVariables false
open Go.ChangeShapes Go.WideShapes Go.ChangeAt Go.RowKit

theorem isplace_any (n : Int) (w : World) : Calls Try.prog 71 #[.int .i64 n] w fun e w' => e = .returned (.bool (isPl n)) ∧ w' = w := by
  unfold isPl
  by_cases h0 : 0 ≤ n
  · have d0 : decide (0 ≤ n) = true := by simpa using h0
    rw [d0]
    go_enter Try.func71, Try.ntmps71
    go_wp2_with fail
    go_ret
    exact ⟨rfl, rfl⟩
  · have d0 : decide (0 ≤ n) = false := by simpa using h0
    rw [d0]
    go_enter Try.func71, Try.ntmps71
    go_wp2_with fail
    go_ret
    exact ⟨rfl, rfl⟩
set_option maxRecDepth 100000 in
set_option maxHeartbeats 2000000 in
theorem sized_any (f : Fo) (w : World) : Calls Try.prog 72 #[fv f] w fun e w' => e = .returned (.bool (sizedF f)) ∧ Below w.heap.size w w' := by
  obtain ⟨rd, wr, bi, q, le, mo, co, to⟩ := f
  unfold fv sizedF
  have b0 : Below w.heap.size w (w.alloc (.cells #[.bool rd, .bool wr, .bool bi, .int .i64 (q : Int), .int .i64 (le : Int), .int .i64 (mo : Int), .bool co, .bool to] 81 (0, 0))) := (Below.refl _ _).alloc (Nat.le_refl _) _
  have B0 := Lib.hid b0
  clear b0
  cases co with
  | false =>
    go_enter Try.func72, Try.ntmps72
    go_wp2_with fail
    go_ret
    exact ⟨rfl, B0.out⟩
  | true =>
    go_enter Try.func72, Try.ntmps72
    go_wp2_with fail
    go_ret
    exact ⟨rfl, B0.out⟩
theorem allB_take (V : List Nat) (k : Nat) (hk : k < V.length) : allB (V.take (k + 1)) = (allB (V.take k) && decide (V.getD k 0 ≤ 1)) := by
  rw [List.take_succ_eq_append_getElem hk]
  unfold allB
  rw [List.all_append]
  simp [List.getD, List.getElem?_eq_getElem hk]
theorem allB_false {V : List Nat} {k : Nat} (hk : k < V.length) (h : ¬ V.getD k 0 ≤ 1) : allB V = false := by
  unfold allB
  rw [List.all_eq_false]
  refine ⟨V[k], List.getElem_mem hk, ?_⟩
  simpa [List.getD, List.getElem?_eq_getElem hk] using h
theorem Wds.row {W : World} {a : Option Addr} {len : Nat} {L : List Nat} (h : Wds W a len L) : ∀ k, k < len → ∃ b off, a = some ⟨b, off, none⟩ ∧ W.cell? ⟨b, off + k, none⟩ = some (.int .u16 ((L.getD k 0 : Nat) : Int)) := by
  intro k hk
  obtain ⟨b, off, ha, _, hc⟩ := h.pos (by omega)
  exact ⟨b, off, ha, hc k hk⟩
set_option maxRecDepth 100000 in
set_option maxHeartbeats 2000000 in
theorem allbits_any (a : Option Addr) (n c : Nat) (V : List Nat) (w : World) (h : Wds w a n V) : Calls Try.prog 73 #[.slice a n c] w fun e w' => e = .returned (.bool (allB V)) ∧ w' = w := by
  have H := Lib.hid h
  have hln := h.ln
  have hle := h.le
  unfold maxLen at hle
  clear h
  go_enter Try.func73, Try.ntmps73
  go_wp2_with fail
  go_loop [7] (fun i => ∃ k : Nat, k ≤ n ∧ i = .int .i64 k ∧ allB (V.take k) = true) (fun i => n - (intOf i).toNat)
  case atStart => exact ⟨0, Nat.zero_le _, rfl, rfl⟩
  case round =>
    obtain ⟨k, hk, rfl, hz⟩ := hrel
    by_cases hkn : k < n
    · obtain ⟨b, off, rfl, hc⟩ := H.out.row k hkn
      have ht := allB_take V k (by omega)
      have hF := allB_false (V := V) (k := k) (by omega)
      rw [hz, Bool.true_and] at ht
      generalize V.getD k 0 = v at hc ht hF
      have HT := Lib.hid ht
      have HF := Lib.hid hF
      clear hz ht hF
      have d0 : (k : Int) < (n : Int) := by omega
      by_cases hv : v ≤ 1
      · have d1 : decide ((1 : Int) < (v : Int)) = false := by simp; omega
        go_wp2_with fail
        go_round
        case rel => exact ⟨k + 1, by omega, by go_num, by rw [HT.out]; simpa using hv⟩
        case measure => simp [intOf]; omega
      · have d1 : decide ((1 : Int) < (v : Int)) = true := by simp; omega
        go_wp2_with fail
        go_ret
        exact ⟨by rw [HF.out hv]; rfl, rfl⟩
    · have hk' : k = n := by omega
      subst hk'
      rw [List.take_of_length_le (by omega)] at hz
      have HZ := Lib.hid hz
      clear hz
      go_wp2_with fail
      go_ret
      exact ⟨by rw [HZ.out]; rfl, rfl⟩
end Go.Proofs.Ytdolgpogjnfpkaa
