/- There and back, plainly. -/
import Derived.Test.YthcfmfkdglmkmaaSz
namespace Go.Proofs.Ythcfmfkdglmkmaa
set_option linter.unusedVariables false
set_option linter.unusedSimpArgs false

theorem wb_get : ∀ (V : List Nat) (i : Nat), i < V.length → (wb V).getD (2 * i) 0 = V.getD i 0 / 256 ∧ (wb V).getD (2 * i + 1) 0 = V.getD i 0 % 256
  | x :: V, 0, _ => ⟨rfl, rfl⟩
  | x :: V, i + 1, h => by
    have ih := wb_get V i (by simpa using h)
    have e : wb (x :: V) = x / 256 :: x % 256 :: wb V := rfl
    have e1 : 2 * (i + 1) = 2 * i + 2 := by omega
    rw [e, e1]
    exact ih
theorem wds_wb (V : List Nat) : wds (wb V) V.length = V := by
  apply List.ext_getElem
  · rw [wds_len]
  · intro i h1 h2
    have := wb_get V i h2
    simp only [wds, List.getElem_map, List.getElem_range, wat]
    rw [this.1, this.2]
    have e : V.getD i 0 = V[i] := by simp [List.getD, List.getElem?_eq_getElem h2]
    rw [e]
    omega
theorem get_put {r : Rq} {c : Int} {V : List Nat} (h : okR r c V = true) : getG r (repN r c V) = (c, V) := by
  obtain ⟨hr, hm⟩ := ok_right h
  by_cases hc : c = 0
  · subst hc
    obtain ⟨hk, hf1, hf2, hq1, hq2⟩ := right_facts hr
    obtain ⟨hl, hd⟩ := repN_zero h
    have hft := (fit_of (rt_of hr).hh).1
    unfold mayB at hm
    unfold getG getN
    rw [if_neg (by rw [hd]; omega)]
    by_cases hrd : rdF r = true
    · have h2 : 2 ≤ (repN r 0 V).length := by rw [hl]; unfold nOf; rw [if_pos hrd]; split <;> omega
      rw [if_neg (by simp [hrd]; omega)]
      rw [if_neg (by simp [hrd])] at hm
      simp at hm
      by_cases hbi : biF r = true
      · have e : repN r 0 V = r.fc.toNat :: (bits V).length :: bits V := by unfold repN; rw [if_neg (by simp), if_pos hrd, if_pos hbi]
        rw [if_pos hbi, e]
        have hb : allB V = true := by rcases hm.2 with h | h
                                      · rw [hbi] at h; cases h
                                      · exact h
        have e2 : r.q.toNat = V.length := by omega
        rw [e2]
        show ((0 : Int), unb (bits V) V.length) = (0, V)
        rw [unb_bits V hb]
      · have e : repN r 0 V = r.fc.toNat :: (wb V).length :: wb V := by unfold repN; rw [if_neg (by simp), if_pos hrd, if_neg hbi]
        rw [if_neg hbi, e]
        have hl2 := wb_len V
        have e2 : min r.q.toNat (((r.fc.toNat :: (wb V).length :: wb V).length - 2) / 2) = V.length := by simp only [List.length_cons]; omega
        rw [e2]
        show ((0 : Int), wds (wb V) V.length) = (0, V)
        rw [wds_wb]
    · rw [if_pos (.inl (by simpa using hrd))]
      rw [if_pos (.inr (by simpa using hrd))] at hm
      simp at hm
      rw [hm]
  · obtain ⟨hl, h1, h2⟩ := repN_code h hc
    unfold mayB at hm
    rw [if_pos (.inl hc)] at hm
    simp at hm
    rw [hl, hm.1]
    unfold getG getN
    rw [if_pos ⟨rfl, rfl⟩]
    show (((c.toNat : Nat) : Int), ([] : List Nat)) = (c, [])
    rw [show ((c.toNat : Nat) : Int) = c by omega]
theorem getF_put {r : Rq} {c : Int} {V : List Nat} (h : okR r c V = true) : getF r (repN r c V) = ((c, V), if c ≠ 0 then 52 else 0) := by
  unfold getF
  rw [get_put h]
  rw [if_pos ⟨h, rfl⟩]
theorem repN_len {r : Rq} {c : Int} {V : List Nat} (h : okR r c V = true) : 1 ≤ (repN r c V).length ∧ (repN r c V).length ≤ 253 := by
  by_cases hc : c = 0
  · subst hc
    obtain ⟨hr, hm⟩ := ok_right h
    obtain ⟨hk, hf1, hf2, hq1, hq2⟩ := right_facts hr
    rw [(repN_zero h).1]
    unfold nOf
    have hft := (fit_of (rt_of hr).hh).1.qle
    by_cases hrd : rdF r = true
    · rw [if_pos hrd]
      by_cases hbi : biF r = true
      · rw [if_pos hbi]; omega
      · rw [if_neg hbi]
        have hq125 : (fo r.fc).q ≤ 125 := by
          unfold rdF at hrd
          unfold biF at hbi
          generalize fo r.fc = f at hk hrd hbi
          unfold formOf at hk
          repeat' split at hk
          all_goals first | (cases hk; done) | (injection hk with hk; subst hk; simp at hrd hbi ⊢)
        omega
    · rw [if_neg hrd]; split <;> omega
  · rw [(repN_code h hc).1]; simp
theorem getF_cases (r : Rq) (D : List Nat) : getF r D = ((0, []), 51) ∨ ∃ c V, okR r c V = true ∧ repN r c V = D ∧ getF r D = ((c, V), if c ≠ 0 then 52 else 0) := by
  unfold getF
  by_cases h : okR r (getG r D).1 (getG r D).2 = true ∧ repN r (getG r D).1 (getG r D).2 = D
  · rw [if_pos h]
    exact .inr ⟨_, _, h.1, h.2, rfl⟩
  · rw [if_neg h]
    exact .inl rfl
end Go.Proofs.Ythcfmfkdglmkmaa
