/- The document's own lamps. -/
import Derived.Test.YtedakoihlnokfaaC
namespace Go.Proofs.Ytedakoihlnokfaa
set_option linter.unusedVariables false
set_option linter.unusedSimpArgs false
open Go.ChangeShapes Go.WideShapes Go.ChangeAt Go.RowKit

def keepZ (k : Int) : Bool := (k == 2) || (k == 5)
def ringZ (k : Int) : Bool := (k == 3)
theorem rhush_any (k : Int) (w : World) : Calls Try.prog 41 #[.int .i64 k] w (BoolP w (hushZ k)) := by
  unfold hushZ
  cases h0 : (k == 5) with
  | true =>
    go_enter Try.func41, Try.ntmps41
    go_wp2_with fail
    go_ret
    exact ⟨rfl, rfl⟩
  | false =>
    cases h1 : (k == 6) with
    | true =>
      go_enter Try.func41, Try.ntmps41
      go_wp2_with fail
      go_ret
      exact ⟨rfl, rfl⟩
    | false =>
      go_enter Try.func41, Try.ntmps41
      go_wp2_with fail
      go_ret
      exact ⟨rfl, rfl⟩
theorem rkeep_any (k : Int) (w : World) : Calls Try.prog 42 #[.int .i64 k] w (BoolP w (keepZ k)) := by
  unfold keepZ
  cases h0 : (k == 2) with
  | true =>
    go_enter Try.func42, Try.ntmps42
    go_wp2_with fail
    go_ret
    exact ⟨rfl, rfl⟩
  | false =>
    cases h1 : (k == 5) with
    | true =>
      go_enter Try.func42, Try.ntmps42
      go_wp2_with fail
      go_ret
      exact ⟨rfl, rfl⟩
    | false =>
      go_enter Try.func42, Try.ntmps42
      go_wp2_with fail
      go_ret
      exact ⟨rfl, rfl⟩
theorem rring_any (k : Int) (w : World) : Calls Try.prog 43 #[.int .i64 k] w (BoolP w (ringZ k)) := by
  unfold ringZ
  cases h0 : (k == 3) with
  | true =>
    go_enter Try.func43, Try.ntmps43
    go_wp2_with fail
    go_ret
    exact ⟨rfl, rfl⟩
  | false =>
    go_enter Try.func43, Try.ntmps43
    go_wp2_with fail
    go_ret
    exact ⟨rfl, rfl⟩
theorem rmark_any (k : Int) (w : World) : Calls Try.prog 30 #[.int .i64 k] w (BoolP w (decide (4 ≤ k))) := by
  go_enter Try.func30, Try.ntmps30
  go_wp2_with fail
  go_ret
  exact ⟨rfl, rfl⟩
theorem mark_eq {k : Int} (h1 : 1 ≤ k) (h6 : k ≤ 6) : decide (4 ≤ k) = markZ k := by
  rcases (by omega : k = 1 ∨ k = 2 ∨ k = 3 ∨ k = 4 ∨ k = 5 ∨ k = 6) with rfl | rfl | rfl | rfl | rfl | rfl <;> decide
theorem rwell_any (k : Int) (w : World) : Calls Try.prog 31 #[.int .i64 k] w (IntP w (restZ k)) := by
  cases h0 : keepZ k with
  | true =>
    have hz : restZ k = 4 := by
      unfold keepZ at h0
      simp only [Bool.or_eq_true, beq_iff_eq] at h0
      unfold restZ
      rcases h0 with rfl | rfl <;> rfl
    have HZ := Lib.hid hz
    have H0 := Lib.hid h0
    clear hz h0
    go_enter Try.func31, Try.ntmps31
    go_wp2_with fail
    refine (rkeep_any k _).mono ?_
    rintro e y ⟨rfl, rfl⟩
    rw [H0.out]
    go_wp2_with fail
    go_ret
    exact ⟨by rw [HZ.out]; rfl, rfl⟩
  | false =>
    have hk : ¬ k = 2 ∧ ¬ k = 5 := by unfold keepZ at h0; simpa using h0
    cases h1 : ringZ k with
    | true =>
      have hz : restZ k = 5 := by
        unfold ringZ at h1
        simp only [beq_iff_eq] at h1
        subst h1
        rfl
      have HZ := Lib.hid hz
      have H0 := Lib.hid h0
      have H1 := Lib.hid h1
      clear hz h0 h1 hk
      go_enter Try.func31, Try.ntmps31
      go_wp2_with fail
      refine (rkeep_any k _).mono ?_
      rintro e y ⟨rfl, rfl⟩
      rw [H0.out]
      go_wp2_with fail
      refine (rring_any k _).mono ?_
      rintro e y ⟨rfl, rfl⟩
      rw [H1.out]
      go_wp2_with fail
      go_ret
      exact ⟨by rw [HZ.out]; rfl, rfl⟩
    | false =>
      have hz : restZ k = 0 := by
        unfold ringZ at h1
        have h1 : ¬ k = 3 := by simpa using h1
        unfold restZ
        rw [if_neg hk.1, if_neg hk.2, if_neg h1]
      have HZ := Lib.hid hz
      have H0 := Lib.hid h0
      have H1 := Lib.hid h1
      clear hz h0 h1 hk
      go_enter Try.func31, Try.ntmps31
      go_wp2_with fail
      refine (rkeep_any k _).mono ?_
      rintro e y ⟨rfl, rfl⟩
      rw [H0.out]
      go_wp2_with fail
      refine (rring_any k _).mono ?_
      rintro e y ⟨rfl, rfl⟩
      rw [H1.out]
      go_wp2_with fail
      go_ret
      exact ⟨by rw [HZ.out]; rfl, rfl⟩
set_option maxRecDepth 100000 in
set_option maxHeartbeats 4000000 in
theorem rbad_any (k s : Int) (hs : 0 ≤ s ∧ s < 9) (w : World) : Calls Try.prog 29 #[.int .i64 k, .int .i64 s] w (IntP w ((badZ k).getD s.toNat 0)) := by
  cases hh : hushZ k
  all_goals
    have hz : badZ k = _ := congrArg badL hh
    have HZ := Lib.hid hz
    have HH := Lib.hid hh
    clear hz hh
    rcases of9 hs with rfl | rfl | rfl | rfl | rfl | rfl | rfl | rfl | rfl
    all_goals
      go_enter Try.func29, Try.ntmps29
      go_wp2_with fail
      first
        | (refine (rhush_any k _).mono ?_
           rintro e y ⟨rfl, rfl⟩
           rw [HH.out]
           go_wp2_with fail
           go_ret
           exact ⟨by rw [HZ.out]; rfl, rfl⟩)
        | (go_ret
           exact ⟨by rw [HZ.out]; rfl, rfl⟩)
set_option maxRecDepth 100000 in
set_option maxHeartbeats 8000000 in
theorem rnext_any (k s h : Int) (w : World) : Calls Try.prog 14 #[.int .i64 k, .int .i64 s, .int .i64 h] w (IntP w (nextZ k s h)) := by
  by_cases hk1 : k < 1
  · have hz : nextZ k s h = 0 := by unfold nextZ; rw [if_neg (by omega)]
    have HZ := Lib.hid hz
    have d1 : decide (k < 1) = true := by simpa using hk1
    clear hz hk1
    go_enter Try.func14, Try.ntmps14
    go_wp2_with fail
    go_ret
    exact ⟨by rw [HZ.out]; rfl, rfl⟩
  have d1 : decide (k < 1) = false := by simpa using hk1
  by_cases hk6 : 6 < k
  · have hz : nextZ k s h = 0 := by unfold nextZ; rw [if_neg (by omega)]
    have HZ := Lib.hid hz
    have d2 : decide (6 < k) = true := by simpa using hk6
    clear hz hk6 hk1
    go_enter Try.func14, Try.ntmps14
    go_wp2_with fail
    go_ret
    exact ⟨by rw [HZ.out]; rfl, rfl⟩
  have d2 : decide (6 < k) = false := by simpa using hk6
  by_cases hs1 : s < 0
  · have hz : nextZ k s h = 0 := by unfold nextZ; rw [if_neg (by omega)]
    have HZ := Lib.hid hz
    have d3 : decide (s < 0) = true := by simpa using hs1
    clear hz hk6 hk1 hs1
    go_enter Try.func14, Try.ntmps14
    go_wp2_with fail
    go_ret
    exact ⟨by rw [HZ.out]; rfl, rfl⟩
  by_cases hs2 : 9 ≤ s
  · have hz : nextZ k s h = 0 := by unfold nextZ; rw [if_neg (by omega)]
    have HZ := Lib.hid hz
    have d3 : decide (s < 0) = false := by simpa using hs1
    have d4 : decide (9 ≤ s) = true := by simpa using hs2
    clear hz hk6 hk1 hs1 hs2
    go_enter Try.func14, Try.ntmps14
    go_wp2_with fail
    go_ret
    exact ⟨by rw [HZ.out]; rfl, rfl⟩
  have hs : 0 ≤ s ∧ s < 9 := by omega
  have hz0 : ∀ h, nextZ k s h = (tabZ k h).getD s.toNat 0 := fun h => by unfold nextZ; rw [if_pos (by omega)]
  have HK := Lib.hid (show 1 ≤ k ∧ k ≤ 6 by omega)
  have HZ := Lib.hid hz0
  have HS := Lib.hid hs
  clear hz0 hk1 hk6 hs1 hs2
  by_cases h1 : h = 1
  · subst h1
    have RB := Lib.hid (rbad_any k s hs)
    rw [HZ.out, show tabZ k 1 = badZ k by simp [tabZ]]
    clear HZ
    rcases of9 hs with rfl | rfl | rfl | rfl | rfl | rfl | rfl | rfl | rfl
    all_goals
      clear hs
      go_enter Try.func14, Try.ntmps14
      go_wp2_with fail
      refine (RB.out _).mono ?_
      rintro e y ⟨rfl, rfl⟩
      go_wp2_with fail
      go_ret
      exact ⟨rfl, rfl⟩
  by_cases h2 : h = 2
  · subst h2
    have RB := Lib.hid (rbad_any k s hs)
    cases hm : markZ k with
    | false =>
      rw [HZ.out, show tabZ k 2 = badZ k by simp [tabZ, firstZ, hm]]
      have HM := Lib.hid ((mark_eq HK.out.1 HK.out.2).trans hm)
      clear HZ hm h1
      rcases of9 hs with rfl | rfl | rfl | rfl | rfl | rfl | rfl | rfl | rfl
      all_goals
        clear hs
        go_enter Try.func14, Try.ntmps14
        go_wp2_with fail
        refine (rmark_any k _).mono ?_
        rintro e y ⟨rfl, rfl⟩
        rw [HM.out]
        go_wp2_with fail
        refine (RB.out _).mono ?_
        rintro e y ⟨rfl, rfl⟩
        go_wp2_with fail
        go_ret
        exact ⟨rfl, rfl⟩
    | true =>
      have ht : tabZ k 2 = [6, 6, 2, 6, 6, 6, 6, 7, 6] := by simp [tabZ, firstZ, hm]
      have HT := Lib.hid ht
      have HM := Lib.hid ((mark_eq HK.out.1 HK.out.2).trans hm)
      clear hm ht h1
      rcases of9 hs with rfl | rfl | rfl | rfl | rfl | rfl | rfl | rfl | rfl
      all_goals
        clear hs
        go_enter Try.func14, Try.ntmps14
        go_wp2_with fail
        refine (rmark_any k _).mono ?_
        rintro e y ⟨rfl, rfl⟩
        rw [HM.out]
        go_wp2_with fail
        go_ret
        exact ⟨by rw [HZ.out, HT.out]; rfl, rfl⟩
  by_cases h3 : h = 3
  · subst h3
    have ht : tabZ k 3 = wellZ k := by simp [tabZ]
    have HT := Lib.hid ht
    clear ht h1 h2
    rcases of9 hs with rfl | rfl | rfl | rfl | rfl | rfl | rfl | rfl | rfl
    all_goals
      clear hs
      go_enter Try.func14, Try.ntmps14
      go_wp2_with fail
      first
        | (refine (rwell_any k _).mono ?_
           rintro e y ⟨rfl, rfl⟩
           go_wp2_with fail
           go_ret
           exact ⟨by rw [HZ.out, HT.out]; rfl, rfl⟩)
        | (go_ret
           exact ⟨by rw [HZ.out, HT.out]; rfl, rfl⟩)
  by_cases h4 : h = 4
  · subst h4
    have ht : tabZ k 4 = ackZ k := by simp [tabZ]
    have HT := Lib.hid ht
    clear ht h1 h2 h3
    rcases of9 hs with rfl | rfl | rfl | rfl | rfl | rfl | rfl | rfl | rfl
    all_goals
      clear hs
      go_enter Try.func14, Try.ntmps14
      go_wp2_with fail
      first
        | (refine (rwell_any k _).mono ?_
           rintro e y ⟨rfl, rfl⟩
           go_wp2_with fail
           go_ret
           exact ⟨by rw [HZ.out, HT.out]; rfl, rfl⟩)
        | (go_ret
           exact ⟨by rw [HZ.out, HT.out]; rfl, rfl⟩)
  by_cases h5 : h = 5
  · subst h5
    have ht : tabZ k 5 = resL := by simp [tabZ]
    have HT := Lib.hid ht
    clear ht h1 h2 h3 h4
    rcases of9 hs with rfl | rfl | rfl | rfl | rfl | rfl | rfl | rfl | rfl
    all_goals
      clear hs
      go_enter Try.func14, Try.ntmps14
      go_wp2_with fail
      go_ret
      exact ⟨by rw [HZ.out, HT.out]; rfl, rfl⟩
  have ht : tabZ k h = stayL := by simp [tabZ, h1, h2, h3, h4, h5]
  have HT := Lib.hid ht
  have t0 : (h == 1) = false := by simpa using h1
  have t1 : (h == 2) = false := by simpa using h2
  have t2 : (h == 3) = false := by simpa using h3
  have t3 : (h == 4) = false := by simpa using h4
  have t4 : (h == 5) = false := by simpa using h5
  clear ht h1 h2 h3 h4 h5
  rcases of9 hs with rfl | rfl | rfl | rfl | rfl | rfl | rfl | rfl | rfl
  all_goals
    clear hs
    go_enter Try.func14, Try.ntmps14
    go_wp2_with fail
    go_ret
    exact ⟨by rw [HZ.out, HT.out]; rfl, rfl⟩
set_option maxRecDepth 100000 in
set_option maxHeartbeats 4000000 in
theorem rhorn_any (s : Int) (w : World) : Calls Try.prog 19 #[.int .i64 s] w (IntP w (hornZ s)) := by
  by_cases hs : 0 ≤ s ∧ s < 9
  · have hz : hornZ s = hornL.getD s.toNat 0 := by unfold hornZ; rw [if_pos hs]
    have HZ := Lib.hid hz
    clear hz
    rcases of9 hs with rfl | rfl | rfl | rfl | rfl | rfl | rfl | rfl | rfl
    all_goals
      clear hs
      go_enter Try.func19, Try.ntmps19
      go_wp2_with fail
      go_ret
      exact ⟨by rw [HZ.out]; rfl, rfl⟩
  · have hz : hornZ s = 0 := by unfold hornZ; rw [if_neg hs]
    have HZ := Lib.hid hz
    have t0 : (s == 1) = false := by rw [beq_eq_false_iff_ne]; omega
    have t1 : (s == 3) = false := by rw [beq_eq_false_iff_ne]; omega
    have t2 : (s == 6) = false := by rw [beq_eq_false_iff_ne]; omega
    have t3 : (s == 8) = false := by rw [beq_eq_false_iff_ne]; omega
    have t4 : (s == 5) = false := by rw [beq_eq_false_iff_ne]; omega
    clear hz hs
    go_enter Try.func19, Try.ntmps19
    go_wp2_with fail
    go_ret
    exact ⟨by rw [HZ.out]; rfl, rfl⟩
end Go.Proofs.Ytedakoihlnokfaa
