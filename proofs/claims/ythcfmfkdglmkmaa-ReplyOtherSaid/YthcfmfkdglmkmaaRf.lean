/- One answer's bytes and another request, plainly. -/
import Derived.Test.YthcfmfkdglmkmaaRe
namespace Go.Proofs.Ythcfmfkdglmkmaa
set_option linter.unusedVariables false
set_option linter.unusedSimpArgs false

theorem err_of {r q : Rq} {V : List Nat} (hq : okR q 0 V = true) : (getF r (repN q 0 V) = ((0, []), 51)) ∨ (∃ U, okR r 0 U = true ∧ repN r 0 U = repN q 0 V ∧ getF r (repN q 0 V) = ((0, U), 0)) := by
  rcases getF_cases r (repN q 0 V) with h | ⟨c, U, h1, h2, h3⟩
  · exact .inl h
  · have hz := repN_zero hq
    have rq := right_facts (ok_right hq).1
    have rr := right_facts (ok_right h1).1
    by_cases hc : c = 0
    · subst hc
      exact .inr ⟨U, h1, h2, by rw [h3]; simp⟩
    · have h4 := (repN_code h1 hc).1
      rw [h4] at h2
      rw [← h2] at hz
      have h5 : r.fc.toNat + 128 = q.fc.toNat := hz.2
      omega
theorem err_fc {r q : Rq} {V : List Nat} (hq : okR q 0 V = true) (hf : q.fc ≠ r.fc) : (getF r (repN q 0 V)).2 = 51 := by
  rcases err_of (r := r) hq with h | ⟨U, h1, h2, h3⟩
  · rw [h]
  · have a := (repN_zero hq).2
    have b := (repN_zero h1).2
    rw [h2, a] at b
    have rq := right_facts (ok_right hq).1
    have rr := right_facts (ok_right h1).1
    omega
theorem err_len {r q : Rq} {V : List Nat} (hq : okR q 0 V = true) (hf : nOf q ≠ nOf r) : (getF r (repN q 0 V)).2 = 51 := by
  rcases err_of (r := r) hq with h | ⟨U, h1, h2, h3⟩
  · rw [h]
  · have a := (repN_zero hq).1
    have b := (repN_zero h1).1
    rw [h2] at b
    omega
theorem err_same {r q : Rq} {V : List Nat} (hq : okR q 0 V = true) (hr : rightR r = true) (hf : q.fc = r.fc) (hrd : rdF q = true) (hn : q.q = r.q) : (getF r (repN q 0 V)).2 = 0 := by
  have e1 : rdF r = rdF q := by unfold rdF; rw [hf]
  have e2 : biF r = biF q := by unfold biF; rw [hf]
  have h1 : okR r 0 V = true := by
    have := (ok_right hq).2
    unfold okR
    rw [hr, e1, e2, ← hn, this]
    rfl
  have h2 : repN r 0 V = repN q 0 V := by
    unfold repN
    rw [e1, e2, hf]
    simp only [hrd, if_true]
  rw [← h2, getF_put h1]
  simp
theorem wb1_inj {x y : Nat} (h : x / 256 = y / 256) (h2 : x % 256 = y % 256) : x = y := by omega
theorem repW {r : Rq} (h : rdF r = false) : repN r 0 [] = if 0 < r.q then (putR (fo r.fc) r).take 5 else putR (fo r.fc) r := by
  unfold repN
  rw [if_neg (by simp), if_neg (by simp [h])]
theorem wb_inj {V U : List Nat} (hl : V.length = U.length) (h : wb V = wb U) : V = U := by
  rw [← wds_wb V, ← wds_wb U, h, hl]
theorem wr_core {k : Int} {f : Fo} (hk : formOf k = some f) (hrd : f.rd = false) {qa qq ra rq qt rt : Nat} {qV rV : List Nat} (fq : Fit f qq qt qV) (fr : Fit f rq rt rV) (kn : Nat) :
    (if 0 < rq then (putN f kn ra rq rt rV).take 5 else putN f kn ra rq rt rV) = (if 0 < qq then (putN f kn qa qq qt qV).take 5 else putN f kn qa qq qt qV) ↔ (qa = ra ∧ qq = rq ∧ (k = 15 ∨ k = 16 ∨ qV = rV)) := by
  obtain ⟨q1, q2, q3, q4, q5, q6, q7⟩ := fq
  obtain ⟨r1, r2, r3, r4, r5, r6, r7⟩ := fr
  unfold formOf at hk
  repeat' split at hk
  all_goals first | (cases hk; done) | (injection hk with hk; subst hk)
  all_goals first | (cases hrd; done) | skip
  all_goals (simp only at q2 q3 q4 q5 q6 q7 r2 r3 r4 r5 r6 r7)
  · have z1 : qq = 0 := by omega
    have z2 : rq = 0 := by omega
    subst z1 z2
    have hl : rV.length = qV.length := by omega
    simp [putN, wb_one]
    constructor
    · rintro ⟨h1, h2, h3⟩
      exact ⟨by omega, .inr (.inr (wb_inj hl.symm h3.symm))⟩
    · rintro ⟨h1, h2⟩
      rcases h2 with h2 | h2 | h2
      · omega
      · omega
      · subst h1 h2; simp
  · rw [if_pos (by omega), if_pos (by omega)]
    simp [putN, wb_one]
    omega
  · rw [if_pos (by omega), if_pos (by omega)]
    simp [putN, wb_one]
    omega
  · have z1 : qq = 0 := by omega
    have z2 : rq = 0 := by omega
    subst z1 z2
    have hl : rV.length = qV.length := by omega
    simp [putN, wb_one]
    constructor
    · rintro ⟨h1, h2, h3⟩
      exact ⟨by omega, .inr (.inr (wb_inj hl.symm h3.symm))⟩
    · rintro ⟨h1, h2⟩
      rcases h2 with h2 | h2 | h2
      · omega
      · omega
      · subst h1 h2; simp
  · have z1 : qq = 0 := by omega
    have z2 : rq = 0 := by omega
    subst z1 z2
    match qV, rV, q4, q5, r4, r5 with
    | [x], [y], _, _, _, _ =>
      have b1 := allB_getD (q7 trivial) 0
      have b2 := allB_getD (r7 trivial) 0
      simp at b1 b2
      simp [putN, wb_one]
      omega
theorem err_wr {r q : Rq} {V : List Nat} (hq : okR q 0 V = true) (hr : rightR r = true) (hf : q.fc = r.fc) (hrd : rdF q = false) :
    (getF r (repN q 0 V)).2 = if q.ad = r.ad ∧ q.q = r.q ∧ (q.fc = 15 ∨ q.fc = 16 ∨ q.V = r.V) then 0 else 51 := by
  have e1 : rdF r = false := by unfold rdF at hrd ⊢; rw [← hf]; exact hrd
  have hV : V = [] := by
    have := (ok_right hq).2
    unfold mayB at this
    rw [if_pos (.inr hrd)] at this
    simp at this
    exact this
  subst hV
  have h1 : okR r 0 [] = true := by
    unfold okR mayB
    rw [hr, if_pos (.inr e1)]
    simp
  have key : repN r 0 [] = repN q 0 [] ↔ (q.ad = r.ad ∧ q.q = r.q ∧ (q.fc = 15 ∨ q.fc = 16 ∨ q.V = r.V)) := by
    have rq := right_facts (ok_right hq).1
    have rr := right_facts hr
    have fq := fit_of (rt_of (ok_right hq).1).hh
    have fr := fit_of (rt_of hr).hh
    rw [repW e1, repW hrd, ← hf]
    have hk := rq.1
    rw [← hf] at fr
    have hc := wr_core hk (by unfold rdF at hrd; exact hrd) (qa := q.ad.toNat) (ra := r.ad.toNat) fq.1 fr.1 q.fc.toNat
    have e3 : (0 < r.q) = (0 < r.q.toNat) := by simp
    have e4 : (0 < q.q) = (0 < q.q.toNat) := by simp
    unfold putR
    rw [← hf]
    simp only [e3, e4]
    rw [hc]
    have := fq.2
    have := fr.2
    constructor
    · rintro ⟨h1, h2, h3⟩; exact ⟨by omega, by omega, h3⟩
    · rintro ⟨h1, h2, h3⟩; exact ⟨by omega, by omega, h3⟩
  by_cases hc : q.ad = r.ad ∧ q.q = r.q ∧ (q.fc = 15 ∨ q.fc = 16 ∨ q.V = r.V)
  · rw [if_pos hc, ← key.2 hc, getF_put h1]
    simp
  · rw [if_neg hc]
    rcases err_of (r := r) hq with h | ⟨U, g1, g2, g3⟩
    · rw [h]
    · have hU : U = [] := by
        have := (ok_right g1).2
        unfold mayB at this
        rw [if_pos (.inr e1)] at this
        simp at this
        exact this
      subst hU
      exact absurd (key.1 g2) hc
end Go.Proofs.Ythcfmfkdglmkmaa
