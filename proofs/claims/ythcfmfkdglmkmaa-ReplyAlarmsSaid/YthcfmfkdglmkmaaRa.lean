/- The document's Right: its small parts. -/
import Derived.Test.YthcfmfkdglmkmaaRb
namespace Go.Proofs.Ythcfmfkdglmkmaa
set_option linter.unusedVariables false
set_option linter.unusedSimpArgs false
open Go.ChangeShapes Go.WideShapes Go.ChangeAt Go.RowKit

def most (n : Int) : Int := if n = 1 ∨ n = 2 then 2000 else if n = 3 ∨ n = 4 ∨ n = 23 then 125 else if n = 15 then 1968 else if n = 16 then 123 else if n = 5 ∨ n = 6 ∨ n = 22 then 1 else 0
def single (n : Int) : Bool := decide (n = 5) || decide (n = 6) || decide (n = 22)
set_option maxRecDepth 100000 in
set_option maxHeartbeats 4000000 in
theorem most_any (n : Int) (w : World) : Calls Try.prog 37 #[.int .i64 n] w fun e w' => e = .returned (.int .i64 (most n)) ∧ w' = w := by
  by_cases h1 : n = 1
  · subst h1; go_enter Try.func37, Try.ntmps37; go_wp2_with fail; go_ret; exact ⟨rfl, rfl⟩
  by_cases h2 : n = 2
  · subst h2; go_enter Try.func37, Try.ntmps37; go_wp2_with fail; go_ret; exact ⟨rfl, rfl⟩
  by_cases h3 : n = 3
  · subst h3; go_enter Try.func37, Try.ntmps37; go_wp2_with fail; go_ret; exact ⟨rfl, rfl⟩
  by_cases h4 : n = 4
  · subst h4; go_enter Try.func37, Try.ntmps37; go_wp2_with fail; go_ret; exact ⟨rfl, rfl⟩
  by_cases h23 : n = 23
  · subst h23; go_enter Try.func37, Try.ntmps37; go_wp2_with fail; go_ret; exact ⟨rfl, rfl⟩
  by_cases h15 : n = 15
  · subst h15; go_enter Try.func37, Try.ntmps37; go_wp2_with fail; go_ret; exact ⟨rfl, rfl⟩
  by_cases h16 : n = 16
  · subst h16; go_enter Try.func37, Try.ntmps37; go_wp2_with fail; go_ret; exact ⟨rfl, rfl⟩
  by_cases h5 : n = 5
  · subst h5; go_enter Try.func37, Try.ntmps37; go_wp2_with fail; go_ret; exact ⟨rfl, rfl⟩
  by_cases h6 : n = 6
  · subst h6; go_enter Try.func37, Try.ntmps37; go_wp2_with fail; go_ret; exact ⟨rfl, rfl⟩
  by_cases h22 : n = 22
  · subst h22; go_enter Try.func37, Try.ntmps37; go_wp2_with fail; go_ret; exact ⟨rfl, rfl⟩
  have e : most n = 0 := by unfold most; simp [h1, h2, h3, h4, h23, h15, h16, h5, h6, h22]
  rw [e]
  have b1 : (n == 1) = false := by simp [h1]
  have b2 : (n == 2) = false := by simp [h2]
  have b3 : (n == 3) = false := by simp [h3]
  have b4 : (n == 4) = false := by simp [h4]
  have b23 : (n == 23) = false := by simp [h23]
  have b15 : (n == 15) = false := by simp [h15]
  have b16 : (n == 16) = false := by simp [h16]
  have b5 : (n == 5) = false := by simp [h5]
  have b6 : (n == 6) = false := by simp [h6]
  have b22 : (n == 22) = false := by simp [h22]
  clear e h1 h2 h3 h4 h23 h15 h16 h5 h6 h22
  go_enter Try.func37, Try.ntmps37; go_wp2_with fail; go_ret; exact ⟨rfl, rfl⟩
theorem place_any (n : Int) (w : World) : Calls Try.prog 38 #[.int .i64 n] w fun e w' => e = .returned (.bool (isPl n)) ∧ w' = w := by
  by_cases h1 : 0 ≤ n
  · by_cases h2 : n ≤ 65535
    · have e : isPl n = true := by unfold isPl; simp; omega
      have t1 : decide (0 ≤ n) = true := by simp [h1]
      have t2 : decide (n ≤ 65535) = true := by simp [h2]
      rw [e]
      clear e
      go_enter Try.func38, Try.ntmps38; go_wp2_with fail; go_ret; exact ⟨rfl, rfl⟩
    · have e : isPl n = false := by unfold isPl; simp; omega
      have t1 : decide (0 ≤ n) = true := by simp [h1]
      have t2 : decide (n ≤ 65535) = false := by simp [h2]
      rw [e]
      clear e
      go_enter Try.func38, Try.ntmps38; go_wp2_with fail; go_ret; exact ⟨rfl, rfl⟩
  · have e : isPl n = false := by unfold isPl; simp; omega
    have t1 : decide (0 ≤ n) = false := by simp [h1]
    rw [e]
    clear e
    go_enter Try.func38, Try.ntmps38; go_wp2_with fail; go_ret; exact ⟨rfl, rfl⟩
set_option maxRecDepth 100000 in
theorem single_any (n : Int) (w : World) : Calls Try.prog 39 #[.int .i64 n] w fun e w' => e = .returned (.bool (single n)) ∧ w' = w := by
  by_cases h5 : n = 5
  · subst h5; go_enter Try.func39, Try.ntmps39; go_wp2_with fail; go_ret; exact ⟨rfl, rfl⟩
  by_cases h6 : n = 6
  · subst h6; go_enter Try.func39, Try.ntmps39; go_wp2_with fail; go_ret; exact ⟨rfl, rfl⟩
  by_cases h22 : n = 22
  · subst h22; go_enter Try.func39, Try.ntmps39; go_wp2_with fail; go_ret; exact ⟨rfl, rfl⟩
  have e : single n = false := by unfold single; simp [h5, h6, h22]
  rw [e]
  have b5 : (n == 5) = false := by simp [h5]
  have b6 : (n == 6) = false := by simp [h6]
  have b22 : (n == 22) = false := by simp [h22]
  clear e h5 h6 h22
  go_enter Try.func39, Try.ntmps39; go_wp2_with fail; go_ret; exact ⟨rfl, rfl⟩
set_option maxRecDepth 100000 in
set_option maxHeartbeats 4000000 in
theorem bits14_any (a : Option Addr) (n c : Nat) (V : List Nat) (w : World) (h : Wds w a n V) : Calls Try.prog 40 #[.slice a n c] w fun e w' => e = .returned (.bool (allB V)) ∧ w' = w := by
  have H := Lib.hid h
  have hln := h.ln
  have hle := h.le
  unfold maxLen at hle
  clear h
  go_enter Try.func40, Try.ntmps40
  go_wp2_with fail
  go_loop [3] (fun i => ∃ k : Nat, k ≤ n ∧ i = .int .i64 k ∧ allB (V.take k) = true) (fun i => n - (intOf i).toNat)
  case atStart => exact ⟨0, Nat.zero_le _, rfl, rfl⟩
  case round =>
    obtain ⟨k, hk, rfl, hz⟩ := hrel
    by_cases hkn : k < n
    · obtain ⟨b, off, rfl, hc⟩ := H.out.row k hkn
      have ht := allB_take V k (by omega)
      have hF := allB_false (V := V) (k := k) (by omega)
      rw [hz, Bool.true_and] at ht
      generalize V.getD k 0 = v at hc ht hF
      have HT := Lib.hid ht
      have HF := Lib.hid hF
      clear hz ht hF
      have d0 : (k : Int) < (n : Int) := by omega
      by_cases hv : v ≤ 1
      · have d1 : decide ((1 : Int) < (v : Int)) = false := by simp; omega
        go_wp2_with fail
        go_round
        case rel => exact ⟨k + 1, by omega, by go_num, by rw [HT.out]; simpa using hv⟩
        case measure => simp [intOf]; omega
      · have d1 : decide ((1 : Int) < (v : Int)) = true := by simp; omega
        go_wp2_with fail
        go_ret
        exact ⟨by rw [HF.out hv]; rfl, rfl⟩
    · have hk' : k = n := by omega
      subst hk'
      rw [List.take_of_length_le (by omega)] at hz
      have HZ := Lib.hid hz
      clear hz
      go_wp2_with fail
      go_ret
      exact ⟨by rw [HZ.out]; rfl, rfl⟩
end Go.Proofs.Ythcfmfkdglmkmaa
