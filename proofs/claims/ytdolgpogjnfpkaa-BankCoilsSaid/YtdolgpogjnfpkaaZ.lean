/- What a request's bytes are: plain data. -/
import Derived.Test.YtdolgpogjnfpkaaV
namespace Go.Proofs.Ytdolgpogjnfpkaa
set_option linter.unusedVariables false
set_option linter.unusedSimpArgs false
open Go.ChangeShapes Go.WideShapes Go.ChangeAt Go.RowKit

theorem wb_by1 {x : Nat} (h : x < 65536) : ∀ b ∈ wb [x], b < 256 := wb_by (by simpa using h)
theorem putN_by {f : Fo} {fc ad q tt : Nat} {V : List Nat} (hfc : fc < 256) (had : ad < 65536) (hq : q < 65536) (hto : tt < 65536) (hV : ∀ v ∈ V, v < 65536) (hl : V.length < 65536) (h1 : f.co = true → f.bi = true → (bits V).length < 256) (h2 : f.co = true → ¬ f.bi = true → (wb V).length < 256) (h3 : f.co = false → f.bi = true → 0 < f.mo → V.getD 0 0 ≤ 1) : ∀ b ∈ putN f fc ad q tt V, b < 256 := by
  have ha : ∀ (A B : List Nat), (∀ b ∈ A, b < 256) → (∀ b ∈ B, b < 256) → ∀ b ∈ A ++ B, b < 256 := fun A B hA hB b hb => (List.mem_append.1 hb).elim (hA b) (hB b)
  unfold putN
  refine ha _ _ (ha _ _ (ha _ _ (ha _ _ (by simpa using hfc) (wb_by1 had)) ?_) ?_) ?_
  · split
    · exact wb_by1 hq
    · simp
  · split
    · exact wb_by (by simp; omega)
    · simp
  · split
    · rename_i h
      intro b hb
      rcases List.mem_cons.1 hb with rfl | hb
      · exact h1 h.1 h.2
      · exact bits_by V b hb
    · rename_i h
      split
      · rename_i hc
        intro b hb
        rcases List.mem_cons.1 hb with rfl | hb
        · exact h2 hc (fun e => h ⟨hc, e⟩)
        · exact wb_by hV b hb
      · rename_i hc
        split
        · rename_i hb
          exact wb_by1 (by have := h3 (by simpa using hc) hb.1 hb.2; omega)
        · exact wb_by hV
theorem formOf_co {k : Int} {f : Fo} (hk : formOf k = some f) : f.co = true → ¬ f.bi = true → f.mo ≤ 123 := by
  unfold formOf at hk
  repeat' split at hk
  all_goals first | (cases hk; done) | (injection hk with hk; subst hk; decide)
theorem formOf_coil {k : Int} {f : Fo} (hk : formOf k = some f) : f.co = false → f.bi = true → 0 < f.mo → 1 ≤ f.le := by
  unfold formOf at hk
  repeat' split at hk
  all_goals first | (cases hk; done) | (injection hk with hk; subst hk; decide)
theorem put_by {k : Int} {f : Fo} (hk : formOf k = some f) {r : Rq} {w : World} (hr : r.ok w) (hh : has f r = true) (hf0 : 0 ≤ r.fc) (hf1 : r.fc < 256) : ∀ b ∈ putR f r, b < 256 := by
  obtain ⟨h1, h2, h3, h4, h5, h6, h7, h8, h9⟩ := (has_iff f r).1 hh
  rw [isPl_iff] at h1 h2
  have hsm := formOf_small hk
  have hq := hsm.q
  have hmo := hsm.mo
  have hV := hr.arg.row.by'
  refine putN_by (by omega) (by omega) (by omega) (by omega) hV (by omega) (fun ha hb => ?_) (fun ha hb => ?_) (fun ha hb hc => ?_)
  · rw [bits_len]
    omega
  · rw [wb_len]
    have : f.mo ≤ 123 := formOf_co hk ha hb
    omega
  · have h := h9 hb
    have hle : 1 ≤ f.le := formOf_coil hk ha hb hc
    unfold allB at h
    rw [List.all_eq_true] at h
    have hl : 0 < r.V.length := by omega
    have := h r.V[0] (List.getElem_mem hl)
    simpa [List.getD, List.getElem?_eq_getElem hl] using this
theorem wb_cons (x : Nat) (V : List Nat) : wb (x :: V) = wb [x] ++ wb V := by simp [wb]
theorem unb_bits (V : List Nat) (h : allB V = true) : unb (bits V) V.length = V := by
  unfold allB at h
  rw [List.all_eq_true] at h
  apply List.ext_getElem
  · rw [unb_len]
  · intro i h1 h2
    have hb := bt_bits V i h2
    have hv := h V[i] (List.getElem_mem h2)
    have hv : V[i] ≤ 1 := by simpa using hv
    have e : (unb (bits V) V.length)[i] = bt (bits V) i := by simp [unb]
    rw [e, hb]
    simp only [List.getD, List.getElem?_eq_getElem h2, Option.getD_some, bit]
    split <;> omega
/-- The parts of what is put. -/
theorem put_head (f : Fo) (fc ad q tt : Nat) (V : List Nat) : (putN f fc ad q tt V).getD 0 0 = fc ∧ putN f fc ad q tt V ≠ [] := by
  unfold putN
  constructor
  · simp
  · simp
structure Fit (f : Fo) (q tt : Nat) (V : List Nat) : Prop where
  to0 : f.to = true ∨ tt = 0
  qle : q ≤ f.q
  qge : min f.q 1 ≤ q
  vle : f.le ≤ V.length
  vmo : V.length ≤ f.mo
  siz : sizedF f = true → V.length = q
  bi : f.bi = true → allB V = true
theorem fit_of {f : Fo} {r : Rq} (hh : has f r = true) : Fit f r.q.toNat r.to.toNat r.V ∧ 0 ≤ r.ad ∧ r.ad < 65536 ∧ 0 ≤ r.to ∧ r.to < 65536 ∧ 0 ≤ r.q := by
  obtain ⟨h1, h2, h3, h4, h5, h6, h7, h8, h9⟩ := (has_iff f r).1 hh
  rw [isPl_iff] at h1 h2
  refine ⟨⟨?_, by omega, by omega, h6, h7, fun e => by have := h8 e; omega, h9⟩, h1.1, h1.2, h2.1, h2.2, by omega⟩
  rcases h3 with h3 | h3
  · exact .inl h3
  · exact .inr (by omega)
theorem allB_getD {V : List Nat} (h : allB V = true) (i : Nat) : V.getD i 0 ≤ 1 := by
  unfold allB at h
  rw [List.all_eq_true] at h
  by_cases hi : i < V.length
  · have := h V[i] (List.getElem_mem hi)
    simpa [List.getD, List.getElem?_eq_getElem hi] using this
  · simp [List.getD, List.getElem?_eq_none (Nat.not_lt.1 hi)]
/-- How long what is put is, by its own bytes. -/
def lenF (f : Fo) (L : List Nat) : Nat :=
  if f.co = true then (if f.to = true then 10 + L.getD 9 0 else 6 + L.getD 5 0) else 3 + (if 0 < f.q then 2 else 0) + 2 * f.mo
theorem put_lenF {k : Int} {f : Fo} (hk : formOf k = some f) {fc ad q tt : Nat} {V : List Nat} (hf : Fit f q tt V) : (putN f fc ad q tt V).length = lenF f (putN f fc ad q tt V) ∧ (putN f fc ad q tt V).length ≤ 253 ∧ (f.co = true → 6 ≤ (putN f fc ad q tt V).length) ∧ (f.to = true → 10 ≤ (putN f fc ad q tt V).length) := by
  obtain ⟨h3, h4, h5, h6, h7, h8, h9⟩ := hf
  unfold formOf at hk
  repeat' split at hk
  all_goals first | (cases hk; done) | (injection hk with hk; subst hk; simp only at h3 h4 h5 h6 h7 h8 h9)
  · simp [putN, lenF, wb_one, wb_cons tt [V.length], wb_len]; omega
  · have hl : V.length = 2 := by omega
    simp [putN, lenF, wb_one, wb_len, hl]
  · simp [putN, lenF, wb_one, wb_len]; omega
  · simp [putN, lenF, wb_one, bits_len]; omega
  · have hl : V.length = 1 := by omega
    simp [putN, lenF, wb_one, wb_len, hl]
  · simp [putN, lenF, wb_one]
  all_goals
    have hl : V = [] := List.eq_nil_of_length_eq_zero (by omega)
    subst hl
    simp [putN, lenF, wb_one]
    try (simp [wb])
/-- Right requests and their bytes. -/
structure Rt (r : Rq) (f : Fo) (L : List Nat) : Prop where
  k : formOf r.fc = some f
  hh : has f r = true
  hf : fits f r = true
  e : L = putR f r
theorem rt_of {r : Rq} (h : rightR r = true) : Rt r (fo r.fc) (putR (fo r.fc) r) := by
  unfold rightR at h
  simp only [Bool.and_eq_true] at h
  exact ⟨fo_some h.1.symm, h.2.1, h.2.2, rfl⟩
theorem fc_of {r : Rq} {f : Fo} (h : formOf r.fc = some f) : 0 ≤ r.fc ∧ r.fc < 256 ∧ ((r.fc.toNat : Nat) : Int) = r.fc := by
  have := formOf_range h
  omega
theorem Rt.head {r : Rq} {f : Fo} {L : List Nat} (h : Rt r f L) : L ≠ [] ∧ ((L.getD 0 0 : Nat) : Int) = r.fc := by
  have := put_head f r.fc.toNat r.ad.toNat r.q.toNat r.to.toNat r.V
  have h1 := fc_of h.k
  rw [h.e]
  unfold putR
  rw [this.1]
  exact ⟨this.2, h1.2.2⟩
theorem Rt.len {r : Rq} {f : Fo} {L : List Nat} (h : Rt r f L) : L.length = lenF f L ∧ L.length ≤ 253 ∧ (f.co = true → 6 ≤ L.length) ∧ (f.to = true → 10 ≤ L.length) := by
  have := put_lenF h.k (fc := r.fc.toNat) (ad := r.ad.toNat) (fit_of h.hh).1
  rw [h.e]
  exact this
end Go.Proofs.Ytdolgpogjnfpkaa
