/- There and back: plain data. -/
import Derived.Test.YtcmolkhaajcmpaaX
namespace Go.Proofs.Ytcmolkhaajcmpaa
set_option linter.unusedVariables false
set_option linter.unusedSimpArgs false
open Go.ChangeShapes Go.WideShapes Go.ChangeAt Go.RowKit

theorem W1_wb {x : Nat} (R : List Nat) (h : x < 65536) : W1 (wb [x] ++ R) = x := by
  unfold W1 wordL
  rw [wb_one, if_neg (by simp)]
  simp [List.getD]
  omega
theorem W2_wb (x : Nat) (R : List Nat) : W2 (wb [x] ++ R) = R := by
  unfold W2 wordL
  rw [wb_one, if_neg (by simp)]
  simp
theorem wb_cons (x : Nat) (V : List Nat) : wb (x :: V) = wb [x] ++ wb V := by simp [wb]
theorem readW_wb (V : List Nat) (R : List Nat) (h : ∀ v ∈ V, v < 65536) : readW V.length (wb V ++ R) = V := by
  induction V with
  | nil => rfl
  | cons v V ih =>
    rw [wb_cons, List.append_assoc, List.length_cons, readW, W1_wb _ (h v (by simp)), W2_wb, ih (fun u hu => h u (by simp [hu]))]
theorem unb_bits (V : List Nat) (h : allB V = true) : unb (bits V) V.length = V := by
  unfold allB at h
  rw [List.all_eq_true] at h
  apply List.ext_getElem
  · rw [unb_len]
  · intro i h1 h2
    have hb := bt_bits V i h2
    have hv := h V[i] (List.getElem_mem h2)
    have hv : V[i] ≤ 1 := by simpa using hv
    have e : (unb (bits V) V.length)[i] = bt (bits V) i := by simp [unb]
    rw [e, hb]
    simp only [List.getD, List.getElem?_eq_getElem h2, Option.getD_some, bit]
    split <;> omega
/-- The parts of what is put. -/
theorem put_head (f : Fo) (fc ad q tt : Nat) (V : List Nat) : (putN f fc ad q tt V).getD 0 0 = fc ∧ putN f fc ad q tt V ≠ [] := by
  unfold putN
  constructor
  · simp
  · simp
structure Fit (f : Fo) (q tt : Nat) (V : List Nat) : Prop where
  to0 : f.to = true ∨ tt = 0
  qle : q ≤ f.q
  qge : min f.q 1 ≤ q
  vle : f.le ≤ V.length
  vmo : V.length ≤ f.mo
  siz : sizedF f = true → V.length = q
  bi : f.bi = true → allB V = true
theorem fit_of {f : Fo} {r : Rq} (hh : has f r = true) : Fit f r.q.toNat r.to.toNat r.V ∧ 0 ≤ r.ad ∧ r.ad < 65536 ∧ 0 ≤ r.to ∧ r.to < 65536 ∧ 0 ≤ r.q := by
  obtain ⟨h1, h2, h3, h4, h5, h6, h7, h8, h9⟩ := (has_iff f r).1 hh
  rw [isPl_iff] at h1 h2
  refine ⟨⟨?_, by omega, by omega, h6, h7, fun e => by have := h8 e; omega, h9⟩, h1.1, h1.2, h2.1, h2.2, by omega⟩
  rcases h3 with h3 | h3
  · exact .inl h3
  · exact .inr (by omega)
theorem allB_getD {V : List Nat} (h : allB V = true) (i : Nat) : V.getD i 0 ≤ 1 := by
  unfold allB at h
  rw [List.all_eq_true] at h
  by_cases hi : i < V.length
  · have := h V[i] (List.getElem_mem hi)
    simpa [List.getD, List.getElem?_eq_getElem hi] using this
  · simp [List.getD, List.getElem?_eq_none (Nat.not_lt.1 hi)]
theorem drop1 (x : Nat) (R : List Nat) : List.drop 1 ([x] ++ R) = R := rfl
theorem get_put {k : Int} {f : Fo} (hk : formOf k = some f) {fc ad q tt : Nat} {V : List Nat} (hf : Fit f q tt V) (had : ad < 65536) (hto : tt < 65536) (hV : ∀ v ∈ V, v < 65536) : getN f (putN f fc ad q tt V) = ⟨ad, q, tt, V⟩ := by
  have hsm := formOf_small hk
  have hq := hsm.q
  have hmo := hsm.mo
  obtain ⟨h3, h4, h5, h6, h7, h8, h9⟩ := hf
  have hqq : q < 65536 := by omega
  have hvl : V.length < 65536 := by omega
  have e1 := fun R => W1_wb (x := ad) R had
  have e2 := fun R => W1_wb (x := q) R hqq
  have e3 := fun R => W1_wb (x := tt) R hto
  have e4 := fun R => W1_wb (x := V.length) R hvl
  have r0 := readW_wb V [] hV
  rw [List.append_nil] at r0
  unfold formOf at hk
  repeat' split at hk
  all_goals first | (cases hk; done) | (injection hk with hk; subst hk; simp only at h3 h4 h5 h6 h7 h8 h9 hq hmo)
  · have : min V.length 121 = V.length := by omega
    simp [putN, getN, -List.drop_one, drop1, e1, e2, e3, e4, W2_wb, wb_cons tt [V.length], this, r0]
  · have hl : V.length = 2 := by omega
    have hq0 : q = 0 := by omega
    have ht0 : tt = 0 := by rcases h3 with h | h; · cases h
                            · exact h
    rw [hl] at r0
    simp [putN, getN, -List.drop_one, drop1, e1, W2_wb, r0, hq0, ht0]
  · have hl := h8 rfl
    have ht0 : tt = 0 := by rcases h3 with h | h; · cases h
                            · exact h
    have : min q 123 = V.length := by omega
    simp [putN, getN, -List.drop_one, drop1, e1, e2, W2_wb, this, r0, ht0]
  · have hl := h8 rfl
    have ht0 : tt = 0 := by rcases h3 with h | h; · cases h
                            · exact h
    have hu := unb_bits V (h9 trivial)
    rw [hl] at hu
    simp [putN, getN, -List.drop_one, drop1, e1, e2, W2_wb, hu, ht0]
  · have hl : V.length = 1 := by omega
    have hq0 : q = 0 := by omega
    have ht0 : tt = 0 := by rcases h3 with h | h; · cases h
                            · exact h
    rw [hl] at r0
    simp [putN, getN, -List.drop_one, drop1, e1, W2_wb, r0, hq0, ht0]
  · have hl : V.length = 1 := by omega
    have hq0 : q = 0 := by omega
    have ht0 : tt = 0 := by rcases h3 with h | h; · cases h
                            · exact h
    have hv := allB_getD (h9 trivial) 0
    obtain ⟨v, rfl⟩ := List.length_eq_one_iff.1 hl
    simp only [List.getD_cons_zero] at hv
    have e5 := fun R => W1_wb (x := 65280 * v) R (by omega)
    have e6 := e5 []
    rw [List.append_nil] at e6
    have : min (65280 * v) 1 = v := by omega
    simp [putN, getN, -List.drop_one, drop1, e1, W2_wb, e6, this, hq0, ht0]
  all_goals
    have hl : V = [] := List.eq_nil_of_length_eq_zero (by omega)
    have ht0 : tt = 0 := by rcases h3 with h | h; · cases h
                            · exact h
    subst hl
    simp [putN, getN, -List.drop_one, drop1, e1, e2, W2_wb, ht0, readW]
/-- How long what is put is, by its own bytes. -/
def lenF (f : Fo) (L : List Nat) : Nat :=
  if f.co = true then (if f.to = true then 10 + L.getD 9 0 else 6 + L.getD 5 0) else 3 + (if 0 < f.q then 2 else 0) + 2 * f.mo
theorem put_lenF {k : Int} {f : Fo} (hk : formOf k = some f) {fc ad q tt : Nat} {V : List Nat} (hf : Fit f q tt V) : (putN f fc ad q tt V).length = lenF f (putN f fc ad q tt V) ∧ (putN f fc ad q tt V).length ≤ 253 ∧ (f.co = true → 6 ≤ (putN f fc ad q tt V).length) ∧ (f.to = true → 10 ≤ (putN f fc ad q tt V).length) := by
  obtain ⟨h3, h4, h5, h6, h7, h8, h9⟩ := hf
  unfold formOf at hk
  repeat' split at hk
  all_goals first | (cases hk; done) | (injection hk with hk; subst hk; simp only at h3 h4 h5 h6 h7 h8 h9)
  · simp [putN, lenF, wb_one, wb_cons tt [V.length], wb_len]; omega
  · have hl : V.length = 2 := by omega
    simp [putN, lenF, wb_one, wb_len, hl]
  · simp [putN, lenF, wb_one, wb_len]; omega
  · simp [putN, lenF, wb_one, bits_len]; omega
  · have hl : V.length = 1 := by omega
    simp [putN, lenF, wb_one, wb_len, hl]
  · simp [putN, lenF, wb_one]
  all_goals
    have hl : V = [] := List.eq_nil_of_length_eq_zero (by omega)
    subst hl
    simp [putN, lenF, wb_one]
    try (simp [wb])
theorem lenF_pre {f : Fo} {L T : List Nat} (k : Nat) (hk : ∀ i, i < k → T.getD i 0 = L.getD i 0) (h1 : f.co = true → 6 ≤ k) (h2 : f.to = true → 10 ≤ k) : lenF f T = lenF f L := by
  unfold lenF
  split
  · rename_i hc
    split
    · rename_i ht
      rw [hk 9 (by have := h2 ht; omega)]
    · rw [hk 5 (by have := h1 hc; omega)]
  · rfl
theorem dq_fit {f : Fo} {L : List Nat} (h : has f (dq f L) = true) : Fit f (getN f L).q (getN f L).to (getN f L).V := by
  have := (fit_of h).1
  simpa [dq] using this
theorem dq_put {k : Int} {f : Fo} (hk : formOf k = some f) {L : List Nat} (h : has f (dq f L) = true) (he : putR f (dq f L) = L) : L.length = lenF f L ∧ (f.co = true → 6 ≤ L.length) ∧ (f.to = true → 10 ≤ L.length) := by
  have hl := put_lenF hk (fc := (L.getD 0 0)) (ad := (getN f L).ad) (dq_fit h)
  have e : putN f (L.getD 0 0) (getN f L).ad (getN f L).q (getN f L).to (getN f L).V = L := by
    have := he
    simpa [putR, dq] using this
  rw [e] at hl
  exact ⟨hl.1, hl.2.2.1, hl.2.2.2⟩
theorem getC_le (L : List Nat) : getC L ≤ 3 := by
  unfold getC
  split
  · omega
  · split
    · omega
    · split
      · split <;> omega
      · omega
theorem getC_nil : getC [] = 1 := rfl
theorem getC_bad {L : List Nat} {f : Fo} (hL : L ≠ []) (hk : formOf ((L.getD 0 0 : Nat) : Int) = some f) (h : has f (dq f L) = true → putR f (dq f L) ≠ L) : getC L = 3 := by
  unfold getC
  rw [if_neg hL, hk]
  show (if (has f (dq f L) && decide (putR f (dq f L) = L)) = true then _ else 3) = 3
  rw [if_neg]
  intro e
  simp only [Bool.and_eq_true, decide_eq_true_eq] at e
  exact h e.1 e.2
/-- Right requests and their bytes. -/
structure Rt (r : Rq) (f : Fo) (L : List Nat) : Prop where
  k : formOf r.fc = some f
  hh : has f r = true
  hf : fits f r = true
  e : L = putR f r
theorem rt_of {r : Rq} (h : rightR r = true) : Rt r (fo r.fc) (putR (fo r.fc) r) := by
  unfold rightR at h
  simp only [Bool.and_eq_true] at h
  exact ⟨fo_some h.1.symm, h.2.1, h.2.2, rfl⟩
theorem fc_of {r : Rq} {f : Fo} (h : formOf r.fc = some f) : 0 ≤ r.fc ∧ r.fc < 256 ∧ ((r.fc.toNat : Nat) : Int) = r.fc := by
  have := formOf_range h
  omega
theorem Rt.head {r : Rq} {f : Fo} {L : List Nat} (h : Rt r f L) : L ≠ [] ∧ ((L.getD 0 0 : Nat) : Int) = r.fc := by
  have := put_head f r.fc.toNat r.ad.toNat r.q.toNat r.to.toNat r.V
  have h1 := fc_of h.k
  rw [h.e]
  unfold putR
  rw [this.1]
  exact ⟨this.2, h1.2.2⟩
theorem Rt.len {r : Rq} {f : Fo} {L : List Nat} (h : Rt r f L) : L.length = lenF f L ∧ L.length ≤ 253 ∧ (f.co = true → 6 ≤ L.length) ∧ (f.to = true → 10 ≤ L.length) := by
  have := put_lenF h.k (fc := r.fc.toNat) (ad := r.ad.toNat) (fit_of h.hh).1
  rw [h.e]
  exact this
theorem Rt.cut {r : Rq} {f : Fo} {L : List Nat} (h : Rt r f L) (k : Nat) (h0 : 0 < k) (hk : k < L.length) : getC (L.take k) = 3 := by
  have hd := h.head
  have hl := h.len
  have hg : ∀ i, i < k → (L.take k).getD i 0 = L.getD i 0 := by
    intro i hi
    simp only [List.getD]
    rw [List.getElem?_take_of_lt hi]
  have hlt : (L.take k).length = k := by rw [List.length_take]; omega
  refine getC_bad (f := f) (fun e => by have := congrArg List.length e; rw [hlt] at this; simp at this; omega) (by rw [hg 0 h0, hd.2]; exact h.k) ?_
  intro hh he
  have h1 := dq_put (k := r.fc) h.k hh he
  rw [hlt] at h1
  have h2 := lenF_pre (f := f) k hg h1.2.1 h1.2.2
  omega
theorem Rt.more {r : Rq} {f : Fo} {L : List Nat} (h : Rt r f L) (x : Nat) : getC (L ++ [x]) = 3 := by
  have hd := h.head
  have hl := h.len
  have hp : 0 < L.length := List.length_pos_iff.2 hd.1
  have hg : ∀ i, i < L.length → (L ++ [x]).getD i 0 = L.getD i 0 := by
    intro i hi
    simp only [List.getD]
    rw [List.getElem?_append_left hi]
  refine getC_bad (f := f) (by simp) (by rw [hg 0 hp, hd.2]; exact h.k) ?_
  intro hh he
  have h1 := dq_put (k := r.fc) h.k hh he
  have h2 := lenF_pre (f := f) L.length hg hl.2.2.1 hl.2.2.2
  have h3 : (L ++ [x]).length = L.length + 1 := by simp
  omega
theorem Rt.back {r : Rq} {f : Fo} {L : List Nat} (h : Rt r f L) (hV : ∀ v ∈ r.V, v < 65536) : getC L = 0 ∧ sameR (getQ L) r = true := by
  have hd := h.head
  have hft := fit_of h.hh
  have hg : getN f L = ⟨r.ad.toNat, r.q.toNat, r.to.toNat, r.V⟩ := by
    rw [h.e]
    exact get_put h.k hft.1 (by omega) (by omega) hV
  have hdq : dq f L = ⟨r.fc, r.ad, r.q, none, 0, 0, r.V, r.to⟩ := by
    unfold dq
    rw [hg, hd.2]
    simp only [Rq.mk.injEq, and_self, and_true, true_and]
    omega
  have h1 : has f (dq f L) = true := by rw [hdq]; exact h.hh
  have h2 : fits f (dq f L) = true := by rw [hdq]; exact h.hf
  have h3 : putR f (dq f L) = L := by rw [hdq, h.e]; rfl
  have hk : formOf ((L.getD 0 0 : Nat) : Int) = some f := by rw [hd.2]; exact h.k
  have hc : getC L = 0 := by
    unfold getC
    rw [if_neg hd.1, hk]
    simp [h1, h2, h3]
  refine ⟨hc, ?_⟩
  unfold getQ
  rw [if_pos hc]
  have hfo : fo ((L.getD 0 0 : Nat) : Int) = f := by unfold fo; rw [hk]; rfl
  rw [hfo, hdq]
  simp [sameR]
theorem got {L : List Nat} (h : getC L = 0) : rightR (getQ L) = true ∧ putR (fo (getQ L).fc) (getQ L) = L := by
  have hq : getQ L = dq (fo ((L.getD 0 0 : Nat) : Int)) L := by unfold getQ; rw [if_pos h]
  unfold getC at h
  split at h
  · cases h
  · split at h
    · cases h
    · rename_i f hk
      have hfo : fo ((L.getD 0 0 : Nat) : Int) = f := by unfold fo; rw [hk]; rfl
      rw [hfo] at hq
      split at h
      · rename_i hc
        simp only [Bool.and_eq_true, decide_eq_true_eq] at hc
        split at h
        · rename_i hfi
          have hfc : (dq f L).fc = ((L.getD 0 0 : Nat) : Int) := rfl
          rw [hq]
          unfold rightR
          rw [hfc, hfo, hk]
          exact ⟨by simp [hc.1, hfi], hc.2⟩
        · cases h
      · cases h
theorem sameR_z : sameR zq zq = true := by decide
end Go.Proofs.Ytcmolkhaajcmpaa
