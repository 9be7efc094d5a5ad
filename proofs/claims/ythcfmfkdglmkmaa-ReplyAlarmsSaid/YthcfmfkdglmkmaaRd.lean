/- The document's Right. -/
import Derived.Test.YthcfmfkdglmkmaaRc
namespace Go.Proofs.Ythcfmfkdglmkmaa
set_option linter.unusedVariables false
set_option linter.unusedSimpArgs false
open Go.ChangeShapes Go.WideShapes Go.ChangeAt Go.RowKit

def endsB (r : Rq) : Bool := decide (r.ad + (if single r.fc = true then 1 else r.q) ≤ 65536) && (decide (r.fc ≠ 23) || decide (r.to + (r.vn : Int) ≤ 65536))
theorem shape_facts {r : Rq} (h : shapeB r = true) : 0 ≤ r.ad ∧ r.ad < 65536 ∧ 0 ≤ r.to ∧ r.to < 65536 ∧ 0 ≤ r.q ∧ r.q ≤ 2000 ∧ r.vn ≤ 2000 := by
  unfold shapeB at h
  by_cases h0 : most r.fc = 0
  · rw [if_pos h0] at h; cases h
  rw [if_neg h0] at h
  by_cases h1 : isPl r.ad = false
  · rw [if_pos h1] at h; cases h
  rw [if_neg h1] at h
  by_cases h2 : isPl r.to = false
  · rw [if_pos h2] at h; cases h
  rw [if_neg h2] at h
  by_cases h3 : r.fc ≠ 23 ∧ r.to ≠ 0
  · rw [if_pos h3] at h; cases h
  rw [if_neg h3] at h
  by_cases h4 : single r.fc = true ∧ r.q ≠ 0
  · rw [if_pos h4] at h; cases h
  rw [if_neg h4] at h
  by_cases h5 : single r.fc = false ∧ (r.q < 1 ∨ most r.fc < r.q)
  · rw [if_pos h5] at h; cases h
  rw [if_neg h5] at h
  have e1 : isPl r.ad = true := by simpa using h1
  have e2 : isPl r.to = true := by simpa using h2
  simp only [isPl, Bool.and_eq_true, decide_eq_true_eq] at e1 e2
  have hm : most r.fc ≤ 2000 := by unfold most; repeat' split
                                   all_goals omega
  have hq : 0 ≤ r.q ∧ r.q ≤ 2000 := by
    cases hs : single r.fc with
    | true => rw [hs] at h4; simp at h4; omega
    | false => rw [hs] at h5; simp at h5; omega
  have hv : r.vn ≤ 2000 := by
    by_cases f5 : r.fc = 5
    · rw [if_pos f5] at h; simp at h; omega
    rw [if_neg f5] at h
    by_cases f6 : r.fc = 6
    · rw [if_pos f6] at h; simp at h; omega
    rw [if_neg f6] at h
    by_cases f15 : r.fc = 15
    · rw [if_pos f15] at h; simp at h; omega
    rw [if_neg f15] at h
    by_cases f16 : r.fc = 16
    · rw [if_pos f16] at h; simp at h; omega
    rw [if_neg f16] at h
    by_cases f22 : r.fc = 22
    · rw [if_pos f22] at h; simp at h; omega
    rw [if_neg f22] at h
    by_cases f23 : r.fc = 23
    · rw [if_pos f23] at h; simp at h; omega
    rw [if_neg f23] at h
    simp at h; omega
  exact ⟨e1.1, e1.2, e2.1, e2.2, hq.1, hq.2, hv⟩
set_option maxRecDepth 100000 in
set_option maxHeartbeats 8000000 in
theorem ends_any (r : Rq) (w : World) (hr : r.ok w) (hf : 0 ≤ r.ad ∧ r.ad < 65536 ∧ 0 ≤ r.to ∧ r.to < 65536 ∧ 0 ≤ r.q ∧ r.q ≤ 2000 ∧ r.vn ≤ 2000) : Calls Try.prog 24 #[rv r] w (BoolB w (endsB r)) := by
  obtain ⟨P, hP⟩ : ∃ P, P = (BoolB w (endsB r) : Ending → World → Prop) := ⟨_, rfl⟩
  rw [← hP]
  obtain ⟨sh, hsh⟩ : ∃ b, b = endsB r := ⟨_, rfl⟩
  have FIN : Hid (∀ W' b, b = sh → Below w.heap.size w W' → P (.returned (.bool b)) W') := Lib.hid (fun W' b e h => by rw [hP, e, hsh]; exact ⟨rfl, h⟩)
  obtain ⟨fc, ad, q, vs, vn, vc, V, rto⟩ := r
  have hmx := hr.arg.row.le
  unfold maxLen at hmx
  unfold endsB at hsh
  simp only at hsh hf hmx
  have SH := Lib.hid hsh
  have SG := Lib.hid (fun W => single_any fc W)
  generalize single fc = sg at SG SH
  have b1 := alloc_bq w (.cells #[.int .i64 fc, .int .i64 ad, .int .i64 q, .slice vs vn vc, .int .i64 rto] 24 (0, 0))
  have B1 := Lib.hid b1
  simp only [rv]
  have s1 : wrap64 (ad + 1) = ad + 1 := by unfold wrap64; omega
  have s2 : wrap64 (ad + q) = ad + q := by unfold wrap64; omega
  have s3 : wrap64 (rto + (vn : Int)) = rto + (vn : Int) := by unfold wrap64; omega
  clear hP hr hsh b1 hf hmx
  go_enter Try.func24, Try.ntmps24
  go_wp2_with fail
  refine (SG.out _).mono ?_
  rintro e w1 ⟨rfl, e1⟩
  rw [e1]
  clear e1 w1
  cases sg with
  | true =>
    rw [if_pos rfl] at SH
    by_cases h1 : ad + 1 ≤ 65536
    · have SH := Lib.hid (SH.out.trans (by rw [decide_eq_true h1, Bool.true_and]))
      have t1 : decide (ad + 1 ≤ 65536) = true := by simp [h1]
      clear h1
      by_cases h2 : fc = 23
      · have SH := Lib.hid (SH.out.trans (by rw [decide_eq_false (by simp [h2]), Bool.false_or]))
        have t2 : (fc != 23) = false := by simp [h2]
        clear h2
        by_cases h3 : rto + (vn : Int) ≤ 65536
        · have SH := Lib.hid (SH.out.trans (decide_eq_true h3))
          have t3 : decide (rto + (vn : Int) ≤ 65536) = true := by simp [h3]
          clear h3
          go_wp2_with fail
          exact FIN.out _ _ SH.out.symm B1.out
        · have SH := Lib.hid (SH.out.trans (decide_eq_false h3))
          have t3 : decide (rto + (vn : Int) ≤ 65536) = false := by simp [h3]
          clear h3
          go_wp2_with fail
          exact FIN.out _ _ SH.out.symm B1.out
      · have SH : Hid (sh = true) := Lib.hid (SH.out.trans (by rw [decide_eq_true h2, Bool.true_or]))
        have t2 : (fc != 23) = true := by simp [h2]
        clear h2
        go_wp2_with fail
        exact FIN.out _ _ SH.out.symm B1.out
    · have SH : Hid (sh = false) := Lib.hid (SH.out.trans (by rw [decide_eq_false h1, Bool.false_and]))
      have t1 : decide (ad + 1 ≤ 65536) = false := by simp [h1]
      clear h1
      go_wp2_with fail
      exact FIN.out _ _ SH.out.symm B1.out
  | false =>
    rw [if_neg (by simp)] at SH
    by_cases h1 : ad + q ≤ 65536
    · have SH := Lib.hid (SH.out.trans (by rw [decide_eq_true h1, Bool.true_and]))
      have t1 : decide (ad + q ≤ 65536) = true := by simp [h1]
      clear h1
      by_cases h2 : fc = 23
      · have SH := Lib.hid (SH.out.trans (by rw [decide_eq_false (by simp [h2]), Bool.false_or]))
        have t2 : (fc != 23) = false := by simp [h2]
        clear h2
        by_cases h3 : rto + (vn : Int) ≤ 65536
        · have SH := Lib.hid (SH.out.trans (decide_eq_true h3))
          have t3 : decide (rto + (vn : Int) ≤ 65536) = true := by simp [h3]
          clear h3
          go_wp2_with fail
          exact FIN.out _ _ SH.out.symm B1.out
        · have SH := Lib.hid (SH.out.trans (decide_eq_false h3))
          have t3 : decide (rto + (vn : Int) ≤ 65536) = false := by simp [h3]
          clear h3
          go_wp2_with fail
          exact FIN.out _ _ SH.out.symm B1.out
      · have SH : Hid (sh = true) := Lib.hid (SH.out.trans (by rw [decide_eq_true h2, Bool.true_or]))
        have t2 : (fc != 23) = true := by simp [h2]
        clear h2
        go_wp2_with fail
        exact FIN.out _ _ SH.out.symm B1.out
    · have SH : Hid (sh = false) := Lib.hid (SH.out.trans (by rw [decide_eq_false h1, Bool.false_and]))
      have t1 : decide (ad + q ≤ 65536) = false := by simp [h1]
      clear h1
      go_wp2_with fail
      exact FIN.out _ _ SH.out.symm B1.out
theorem right14 {r : Rq} {w : World} (hr : r.ok w) : (shapeB r && endsB r) = rightR r := by
  have hln := hr.arg.row.ln
  obtain ⟨fc, ad, q, vs, vn, vc, V, rto⟩ := r
  simp only at hln
  subst hln
  rw [Bool.eq_iff_iff]
  have hN : V.length = 0 → allB V = true := by intro h; rw [List.eq_nil_of_length_eq_zero h]; rfl
  have key : ∀ f, formOf fc = some f → ((shapeB ⟨fc, ad, q, vs, V.length, vc, V, rto⟩ && endsB ⟨fc, ad, q, vs, V.length, vc, V, rto⟩) = true ↔ rightR ⟨fc, ad, q, vs, V.length, vc, V, rto⟩ = true) := by
    intro f hf
    have hfo : fo fc = f := by unfold fo; rw [hf]; rfl
    unfold shapeB endsB rightR has fits
    simp only
    rw [hfo, hf]
    generalize V.length = n at hN ⊢
    generalize allB V = A at hN ⊢
    clear hfo
    unfold formOf at hf
    repeat' split at hf
    all_goals first | (cases hf; done) | (injection hf with hf; subst hf)
    all_goals
      subst fc
      simp [most, single, isPl, sizedF]
      cases A <;> simp at hN ⊢ <;> omega
  by_cases h1 : fc = 1
  · subst h1
    exact key _ rfl
  by_cases h2 : fc = 2
  · subst h2
    exact key _ rfl
  by_cases h3 : fc = 3
  · subst h3
    exact key _ rfl
  by_cases h4 : fc = 4
  · subst h4
    exact key _ rfl
  by_cases h5 : fc = 5
  · subst h5
    exact key _ rfl
  by_cases h6 : fc = 6
  · subst h6
    exact key _ rfl
  by_cases h15 : fc = 15
  · subst h15
    exact key _ rfl
  by_cases h16 : fc = 16
  · subst h16
    exact key _ rfl
  by_cases h22 : fc = 22
  · subst h22
    exact key _ rfl
  by_cases h23 : fc = 23
  · subst h23
    exact key _ rfl
  have e1 : shapeB ⟨fc, ad, q, vs, V.length, vc, V, rto⟩ = false := by
    unfold shapeB
    rw [if_pos (by unfold most; simp [h1, h2, h3, h4, h5, h6, h15, h16, h22, h23])]
  have e2 : rightR ⟨fc, ad, q, vs, V.length, vc, V, rto⟩ = false := by
    unfold rightR formOf
    simp [h1, h2, h3, h4, h5, h6, h15, h16, h22, h23]
  rw [e1, e2]
  simp
end Go.Proofs.Ythcfmfkdglmkmaa
