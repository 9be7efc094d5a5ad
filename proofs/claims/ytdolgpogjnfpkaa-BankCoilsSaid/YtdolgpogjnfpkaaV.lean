/- SameVals, Same. -/
import Derived.Test.YtdolgpogjnfpkaaO
namespace Go.Proofs.Ytdolgpogjnfpkaa
set_option linter.unusedVariables false
open Go.ChangeShapes Go.WideShapes Go.ChangeAt Go.RowKit

set_option maxRecDepth 100000 in
set_option maxHeartbeats 4000000 in
theorem samevals_any (a : Option Addr) (n c : Nat) (V : List Nat) (b : Option Addr) (m d : Nat) (U : List Nat) (w : World) (h : Wds w a n V) (h2 : Wds w b m U) :
    Calls Try.prog 25 #[.slice a n c, .slice b m d] w fun e w' => e = .returned (.bool (decide (V = U))) ∧ Below w.heap.size w w' := by
  have hln := h.ln
  have hln2 := h2.ln
  have hle := h.le
  unfold maxLen at hle
  by_cases hnm : n = m
  · subst hnm
    have H := Lib.hid h
    have H2 := Lib.hid h2
    have t1 : ((n : Int) != (n : Int)) = false := by simp
    clear h h2
    go_enter Try.func25, Try.ntmps25
    go_wp2_with fail
    go_loopw [5] (fun i wr => ∃ k : Nat, k ≤ n ∧ i = .int .i64 k ∧ V.take k = U.take k ∧ Below w.heap.size w wr) (fun i _ => n - (intOf i).toNat)
    case atStart => exact ⟨0, Nat.zero_le _, rfl, rfl, Below.refl _ _⟩
    case round =>
      obtain ⟨wo, rfl⟩ : ∃ wo : World, wo = wr := ⟨_, rfl⟩
      obtain ⟨k, hk, rfl, hz, hb⟩ := hrel
      by_cases hkn : k < n
      · obtain ⟨b1, o1, rfl, e1⟩ := (H.out.below hb).row k hkn
        obtain ⟨b2, o2, rfl, e2⟩ := (H2.out.below hb).row k hkn
        have t1' := take_snoc' V k (by omega)
        have t2' := take_snoc' U k (by omega)
        rw [hz] at t1'
        have d0 : (k : Int) < (n : Int) := by omega
        generalize hv : V.getD k 0 = v at e1 t1'
        generalize hu : U.getD k 0 = u at e2 t2'
        have HV := Lib.hid hv
        have HU := Lib.hid hu
        have T1 := Lib.hid t1'
        have T2 := Lib.hid t2'
        have HB := Lib.hid hb
        clear hv hu t1' t2' hz hb
        by_cases hvu : v = u
        · subst hvu
          have tt : ((v : Int) != (v : Int)) = false := by simp
          go_wp2_with fail
          go_region
          all_goals
            go_wp2_with fail
            go_roundw
            case rel => exact ⟨k + 1, by omega, by go_num, by rw [T1.out, T2.out], HB.out.drew⟩
            case measure => simp [intOf]; omega
        · have tt : ((v : Int) != (u : Int)) = true := by simp; omega
          have hne : decide (V = U) = false := decide_eq_false (fun e => hvu (by rw [← HV.out, ← HU.out, e]))
          have HN := Lib.hid hne
          clear hne
          go_wp2_with fail
          go_region
          all_goals
            go_wp2_with fail
            go_ret
            exact ⟨by rw [HN.out]; rfl, HB.out.drew⟩
      · have hk' : k = n := by omega
        subst hk'
        rw [List.take_of_length_le (by omega), List.take_of_length_le (by omega)] at hz
        have HE : Hid (decide (V = U) = true) := Lib.hid (decide_eq_true hz)
        have HB := Lib.hid hb
        clear hz hb
        go_wp2_with fail
        go_ret
        exact ⟨by rw [HE.out]; rfl, HB.out⟩
  · have t1 : ((n : Int) != (m : Int)) = true := by simp; omega
    have hne : decide (V = U) = false := decide_eq_false (fun e => hnm (by rw [← hln, ← hln2, e]))
    have HN := Lib.hid hne
    clear h h2 hne
    go_enter Try.func25, Try.ntmps25
    go_wp2_with fail
    go_ret
    exact ⟨by rw [HN.out]; rfl, Below.refl _ _⟩
end Go.Proofs.Ytdolgpogjnfpkaa
