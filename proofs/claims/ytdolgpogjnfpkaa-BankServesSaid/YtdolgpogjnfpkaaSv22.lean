/- The document's bytes of a request that has its shape; what it is to have one. -/
import Derived.Test.YtdolgpogjnfpkaaSv16
import Derived.Test.YtdolgpogjnfpkaaSv21
namespace Go.Proofs.Ytdolgpogjnfpkaa
set_option linter.unusedVariables false
set_option linter.unusedSimpArgs false
open Go.ChangeShapes Go.WideShapes Go.ChangeAt Go.RowKit

theorem shape_has {r : Rq} {w : World} (hr : r.ok w) : shapeB r = ((formOf r.fc).isSome && has (fo r.fc) r) := by
  have hln := hr.arg.row.ln
  obtain ⟨fc, ad, q, vs, vn, vc, V, rto⟩ := r
  simp only at hln
  subst hln
  rw [Bool.eq_iff_iff]
  have hN : V.length = 0 → allB V = true := by intro h; rw [List.eq_nil_of_length_eq_zero h]; rfl
  have key : ∀ f, formOf fc = some f → (shapeB ⟨fc, ad, q, vs, V.length, vc, V, rto⟩ = true ↔ ((formOf fc).isSome && has (fo fc) ⟨fc, ad, q, vs, V.length, vc, V, rto⟩) = true) := by
    intro f hf
    have hfo : fo fc = f := by unfold fo; rw [hf]; rfl
    unfold shapeB has
    simp only
    rw [hfo, hf]
    generalize V.length = n at hN ⊢
    generalize allB V = A at hN ⊢
    clear hfo
    unfold formOf at hf
    repeat' split at hf
    all_goals first | (cases hf; done) | (injection hf with hf; subst hf)
    all_goals
      subst fc
      simp [most, single, isPl, sizedF]
      cases A <;> simp at hN ⊢ <;> omega
  by_cases h1 : fc = 1
  · subst h1
    exact key _ rfl
  by_cases h2 : fc = 2
  · subst h2
    exact key _ rfl
  by_cases h3 : fc = 3
  · subst h3
    exact key _ rfl
  by_cases h4 : fc = 4
  · subst h4
    exact key _ rfl
  by_cases h5 : fc = 5
  · subst h5
    exact key _ rfl
  by_cases h6 : fc = 6
  · subst h6
    exact key _ rfl
  by_cases h15 : fc = 15
  · subst h15
    exact key _ rfl
  by_cases h16 : fc = 16
  · subst h16
    exact key _ rfl
  by_cases h22 : fc = 22
  · subst h22
    exact key _ rfl
  by_cases h23 : fc = 23
  · subst h23
    exact key _ rfl
  have e1 : shapeB ⟨fc, ad, q, vs, V.length, vc, V, rto⟩ = false := by
    unfold shapeB
    rw [if_pos (by unfold most; simp [h1, h2, h3, h4, h5, h6, h15, h16, h22, h23])]
  have e2 : (formOf fc).isSome = false := by
    unfold formOf
    simp [h1, h2, h3, h4, h5, h6, h15, h16, h22, h23]
  simp only
  rw [e1, e2]
  simp
theorem bytesD_any (r : Rq) (w : World) (hr : r.ok w) (hk : formOf r.fc = some (fo r.fc)) (hh : has (fo r.fc) r = true) : Calls Try.prog 46 #[rv r] w (OutP w (putR (fo r.fc) r)) := by
  have hc : r.fc = 23 ∨ r.fc = 22 ∨ r.fc = 16 ∨ r.fc = 15 ∨ r.fc = 6 ∨ r.fc = 5 ∨ r.fc = 4 ∨ r.fc = 3 ∨ r.fc = 2 ∨ r.fc = 1 := by
    have hk2 := hk
    generalize fo r.fc = f at hk2
    unfold formOf at hk2
    repeat' split at hk2
    all_goals first | (cases hk2; done) | omega
  rcases hc with h | h | h | h | h | h | h | h | h | h
  · exact bytes23_any r w hr hk hh h
  · exact bytes6_any r w hr hk hh (.inr h)
  · exact bytes16_any r w hr hk hh h
  · exact bytes15_any r w hr hk hh h
  · exact bytes6_any r w hr hk hh (.inl h)
  · exact bytes5_any r w hr hk hh h
  · exact bytesA_any r w hr hk hh (by omega)
  · exact bytesA_any r w hr hk hh (by omega)
  · exact bytesA_any r w hr hk hh (by omega)
  · exact bytesA_any r w hr hk hh (by omega)
/-- What the document's read makes of bytes. -/
def rq4 (L : List Nat) : Rq := ⟨((L.getD 0 0 : Nat) : Int), ((atN L 1 : Nat) : Int), ((rdQn L : Nat) : Int), none, (rdV L).length, 0, rdV L, ((rdT L : Nat) : Int)⟩
end Go.Proofs.Ytdolgpogjnfpkaa
/- What the document reads of bytes that were put, and the program too. -/
namespace Go.Proofs.Ytdolgpogjnfpkaa
set_option linter.unusedVariables false
set_option linter.unusedSimpArgs false
open Go.ChangeShapes Go.WideShapes Go.ChangeAt Go.RowKit

theorem W1_wb {x : Nat} (R : List Nat) (h : x < 65536) : W1 (wb [x] ++ R) = x := by
  unfold W1 wordL
  rw [wb_one, if_neg (by simp)]
  simp [List.getD]
  omega
theorem W2_wb (x : Nat) (R : List Nat) : W2 (wb [x] ++ R) = R := by
  unfold W2 wordL
  rw [wb_one, if_neg (by simp)]
  simp
theorem readW_wb (V : List Nat) (R : List Nat) (h : ∀ v ∈ V, v < 65536) : readW V.length (wb V ++ R) = V := by
  induction V with
  | nil => rfl
  | cons v V ih =>
    rw [wb_cons, List.append_assoc, List.length_cons, readW, W1_wb _ (h v (by simp)), W2_wb, ih (fun u hu => h u (by simp [hu]))]
theorem drop1 (x : Nat) (R : List Nat) : List.drop 1 ([x] ++ R) = R := rfl
theorem get_put {k : Int} {f : Fo} (hk : formOf k = some f) {fc ad q tt : Nat} {V : List Nat} (hf : Fit f q tt V) (had : ad < 65536) (hto : tt < 65536) (hV : ∀ v ∈ V, v < 65536) : getN f (putN f fc ad q tt V) = ⟨ad, q, tt, V⟩ := by
  have hsm := formOf_small hk
  have hq := hsm.q
  have hmo := hsm.mo
  obtain ⟨h3, h4, h5, h6, h7, h8, h9⟩ := hf
  have hqq : q < 65536 := by omega
  have hvl : V.length < 65536 := by omega
  have e1 := fun R => W1_wb (x := ad) R had
  have e2 := fun R => W1_wb (x := q) R hqq
  have e3 := fun R => W1_wb (x := tt) R hto
  have e4 := fun R => W1_wb (x := V.length) R hvl
  have r0 := readW_wb V [] hV
  rw [List.append_nil] at r0
  unfold formOf at hk
  repeat' split at hk
  all_goals first | (cases hk; done) | (injection hk with hk; subst hk; simp only at h3 h4 h5 h6 h7 h8 h9 hq hmo)
  · have : min V.length 121 = V.length := by omega
    simp [putN, getN, -List.drop_one, drop1, e1, e2, e3, e4, W2_wb, wb_cons tt [V.length], this, r0]
  · have hl : V.length = 2 := by omega
    have hq0 : q = 0 := by omega
    have ht0 : tt = 0 := by rcases h3 with h | h; · cases h
                            · exact h
    rw [hl] at r0
    simp [putN, getN, -List.drop_one, drop1, e1, W2_wb, r0, hq0, ht0]
  · have hl := h8 rfl
    have ht0 : tt = 0 := by rcases h3 with h | h; · cases h
                            · exact h
    have : min q 123 = V.length := by omega
    simp [putN, getN, -List.drop_one, drop1, e1, e2, W2_wb, this, r0, ht0]
  · have hl := h8 rfl
    have ht0 : tt = 0 := by rcases h3 with h | h; · cases h
                            · exact h
    have hu := unb_bits V (h9 trivial)
    rw [hl] at hu
    simp [putN, getN, -List.drop_one, drop1, e1, e2, W2_wb, hu, ht0]
  · have hl : V.length = 1 := by omega
    have hq0 : q = 0 := by omega
    have ht0 : tt = 0 := by rcases h3 with h | h; · cases h
                            · exact h
    rw [hl] at r0
    simp [putN, getN, -List.drop_one, drop1, e1, W2_wb, r0, hq0, ht0]
  · have hl : V.length = 1 := by omega
    have hq0 : q = 0 := by omega
    have ht0 : tt = 0 := by rcases h3 with h | h; · cases h
                            · exact h
    have hv := allB_getD (h9 trivial) 0
    obtain ⟨v, rfl⟩ := List.length_eq_one_iff.1 hl
    simp only [List.getD_cons_zero] at hv
    have e5 := fun R => W1_wb (x := 65280 * v) R (by omega)
    have e6 := e5 []
    rw [List.append_nil] at e6
    have : min (65280 * v) 1 = v := by omega
    simp [putN, getN, -List.drop_one, drop1, e1, W2_wb, e6, this, hq0, ht0]
  all_goals
    have hl : V = [] := List.eq_nil_of_length_eq_zero (by omega)
    have ht0 : tt = 0 := by rcases h3 with h | h; · cases h
                            · exact h
    subst hl
    simp [putN, getN, -List.drop_one, drop1, e1, e2, W2_wb, ht0, readW]
theorem atN_zero (x y : Nat) (L : List Nat) : atN (x :: y :: L) 0 = 256 * x + y := by simp [atN, List.getD]
theorem atN_two (x y : Nat) (L : List Nat) (i : Nat) : atN (x :: y :: L) (i + 2) = atN L i := by
  unfold atN
  simp only [List.length_cons, List.getD, List.getElem?_cons_succ]
  by_cases h : L.length ≤ i + 1
  · rw [if_pos h, if_pos (by omega)]
  · rw [if_neg h, if_neg (by omega)]
theorem atN_one (x : Nat) (L : List Nat) (i : Nat) : atN (x :: L) (i + 1) = atN L i := by
  unfold atN
  simp only [List.length_cons, List.getD, List.getElem?_cons_succ]
  by_cases h : L.length ≤ i + 1
  · rw [if_pos h, if_pos (by omega)]
  · rw [if_neg h, if_neg (by omega)]
theorem unwK_two (x y : Nat) (L : List Nat) (n : Nat) : unwK (x :: y :: L) (n + 1) = (256 * x + y) :: unwK L n := by
  unfold unwK
  rw [List.range_succ_eq_map, List.map_cons, List.map_map, Nat.mul_zero, atN_zero]
  congr 1
  apply List.map_congr_left
  intro j _
  show atN (x :: y :: L) (2 * (j + 1)) = _
  rw [show 2 * (j + 1) = 2 * j + 2 by omega, atN_two]
theorem unw_wb (V : List Nat) (h : ∀ v ∈ V, v < 65536) : unw (wb V) = V := by
  unfold unw
  rw [wb_len, show 2 * V.length / 2 = V.length by omega]
  induction V with
  | nil => rfl
  | cons v V ih =>
    have hv := h v (by simp)
    rw [wb_cons, wb_one, List.length_cons]
    show unwK ((v / 256) :: (v % 256) :: wb V) (V.length + 1) = _
    rw [unwK_two, ih (fun u hu => h u (by simp [hu]))]
    congr 1
    omega
theorem rd_put {k : Int} {f : Fo} (hk : formOf k = some f) {fc ad q tt : Nat} {V : List Nat} (hfc : (fc : Int) = k) (hf : Fit f q tt V) (had : ad < 65536) (hto : tt < 65536) (hV : ∀ v ∈ V, v < 65536) :
    atN (putN f fc ad q tt V) 1 = ad ∧ rdQn (putN f fc ad q tt V) = q ∧ rdV (putN f fc ad q tt V) = V ∧ rdT (putN f fc ad q tt V) = tt := by
  have hsm := formOf_small hk
  have hq := hsm.q
  have hmo := hsm.mo
  obtain ⟨h3, h4, h5, h6, h7, h8, h9⟩ := hf
  have hu := unw_wb V hV
  have a1 : 256 * (ad / 256) + ad % 256 = ad := by omega
  have a2 : 256 * (q / 256) + q % 256 = q := by omega
  have a3 : 256 * (tt / 256) + tt % 256 = tt := by omega
  unfold formOf at hk
  repeat' split at hk
  all_goals first | (cases hk; done) | (injection hk with hk; subst hk; simp only at h3 h4 h5 h6 h7 h8 h9 hq hmo)
  all_goals
    obtain rfl : fc = _ := Int.ofNat_inj.1 (hfc.trans ‹_›)
  · simp [putN, rdQn, rdV, rdT, wb_one, wb_cons tt [V.length], atN_one, atN_zero, atN_two, a1, a2, a3, hu, wb_len]
    intro e
    subst e
    simp at h6
  · have hl : V.length = 2 := by omega
    have ht0 : tt = 0 := by rcases h3 with h | h; · cases h
                            · exact h
    have hq0 : q = 0 := by omega
    obtain ⟨x, y, rfl⟩ : ∃ x y, V = [x, y] := by
      match V, hl with
      | [x, y], _ => exact ⟨x, y, rfl⟩
    have b1 : 256 * (x / 256) + x % 256 = x := by omega
    have b2 : 256 * (y / 256) + y % 256 = y := by omega
    simp [putN, rdQn, rdV, rdT, wb_one, wb_cons x [y], atN_one, atN_zero, atN_two, a1, b1, b2, ht0, hq0]
  · have hl := h8 rfl
    have ht0 : tt = 0 := by rcases h3 with h | h; · cases h
                            · exact h
    simp [putN, rdQn, rdV, rdT, wb_one, wb_cons tt [V.length], atN_one, atN_zero, atN_two, a1, a2, a3, hu, wb_len, bits_len, ht0]
  · have hl := h8 rfl
    have ht0 : tt = 0 := by rcases h3 with h | h; · cases h
                            · exact h
    have hb := unb_bits V (h9 trivial)
    rw [hl] at hb
    simp [putN, rdQn, rdV, rdT, wb_one, wb_cons tt [V.length], atN_one, atN_zero, atN_two, a1, a2, a3, hu, wb_len, bits_len, ht0, hb]
  · have hl : V.length = 1 := by omega
    have ht0 : tt = 0 := by rcases h3 with h | h; · cases h
                            · exact h
    have hq0 : q = 0 := by omega
    obtain ⟨x, rfl⟩ : ∃ x, V = [x] := by
      match V, hl with
      | [x], _ => exact ⟨x, rfl⟩
    have b1 : 256 * (x / 256) + x % 256 = x := by omega
    simp [putN, rdQn, rdV, rdT, wb_one, atN_one, atN_zero, atN_two, a1, b1, ht0, hq0]
  · have hl : V.length = 1 := by omega
    have ht0 : tt = 0 := by rcases h3 with h | h; · cases h
                            · exact h
    have hq0 : q = 0 := by omega
    have hv := allB_getD (h9 trivial) 0
    obtain ⟨x, rfl⟩ : ∃ x, V = [x] := by
      match V, hl with
      | [x], _ => exact ⟨x, rfl⟩
    have hx : x = 0 ∨ x = 1 := by simp at hv; omega
    rcases hx with rfl | rfl <;> simp [putN, rdQn, rdV, rdT, wb_one, atN_one, atN_zero, atN_two, a1, ht0, hq0]
  · have hl : V = [] := List.eq_nil_of_length_eq_zero (by omega)
    have ht0 : tt = 0 := by rcases h3 with h | h; · cases h
                            · exact h
    subst hl
    simp [putN, rdQn, rdV, rdT, wb_one, atN_one, atN_zero, atN_two, a1, a2, ht0, wb]
  · have hl : V = [] := List.eq_nil_of_length_eq_zero (by omega)
    have ht0 : tt = 0 := by rcases h3 with h | h; · cases h
                            · exact h
    subst hl
    simp [putN, rdQn, rdV, rdT, wb_one, atN_one, atN_zero, atN_two, a1, a2, ht0, wb]
  · have hl : V = [] := List.eq_nil_of_length_eq_zero (by omega)
    have ht0 : tt = 0 := by rcases h3 with h | h; · cases h
                            · exact h
    subst hl
    simp [putN, rdQn, rdV, rdT, wb_one, atN_one, atN_zero, atN_two, a1, a2, ht0, wb]
  · have hl : V = [] := List.eq_nil_of_length_eq_zero (by omega)
    have ht0 : tt = 0 := by rcases h3 with h | h; · cases h
                            · exact h
    subst hl
    simp [putN, rdQn, rdV, rdT, wb_one, atN_one, atN_zero, atN_two, a1, a2, ht0, wb]
/-- The document's code of bytes: as it finds it. -/
def ref4 (L : List Nat) : Nat :=
  if L = [] then 1 else if (formOf ((L.getD 0 0 : Nat) : Int)).isSome = false then 1 else
  if has (fo ((L.getD 0 0 : Nat) : Int)) (rq4 L) && decide (putR (fo ((L.getD 0 0 : Nat) : Int)) (rq4 L) = L) then (if fits (fo ((L.getD 0 0 : Nat) : Int)) (rq4 L) then 0 else 2) else 3
theorem rq_same {L : List Nat} (hL : ∀ b ∈ L, b < 256) (hk : formOf ((L.getD 0 0 : Nat) : Int) = some (fo ((L.getD 0 0 : Nat) : Int))) {r : Rq} (hr : r.fc = ((L.getD 0 0 : Nat) : Int)) (hh : has (fo ((L.getD 0 0 : Nat) : Int)) r = true) (hV : ∀ v ∈ r.V, v < 65536) (hp : putR (fo ((L.getD 0 0 : Nat) : Int)) r = L) :
    (rq4 L).fc = r.fc ∧ (rq4 L).ad = r.ad ∧ (rq4 L).q = r.q ∧ (rq4 L).to = r.to ∧ (rq4 L).V = r.V ∧ (dq (fo ((L.getD 0 0 : Nat) : Int)) L).ad = r.ad ∧ (dq (fo ((L.getD 0 0 : Nat) : Int)) L).q = r.q ∧ (dq (fo ((L.getD 0 0 : Nat) : Int)) L).to = r.to ∧ (dq (fo ((L.getD 0 0 : Nat) : Int)) L).V = r.V := by
  have hf := fit_of hh
  have h1 := rd_put hk (fc := r.fc.toNat) (by rw [hr]; simp) hf.1 (ad := r.ad.toNat) (by omega) (by omega) hV
  have h2 := get_put hk (fc := r.fc.toNat) hf.1 (ad := r.ad.toNat) (by omega) (by omega) hV
  unfold putR at hp
  rw [hp] at h1 h2
  obtain ⟨e1, e2, e3, e4⟩ := h1
  refine ⟨hr.symm, ?_, ?_, ?_, e3, ?_, ?_, ?_, ?_⟩
  · show ((atN L 1 : Nat) : Int) = r.ad
    rw [e1]; omega
  · show ((rdQn L : Nat) : Int) = r.q
    rw [e2]; omega
  · show ((rdT L : Nat) : Int) = r.to
    rw [e4]; omega
  · show ((getN _ L).ad : Int) = r.ad
    rw [h2]; show ((r.ad.toNat : Nat) : Int) = r.ad; omega
  · show ((getN _ L).q : Int) = r.q
    rw [h2]; show ((r.q.toNat : Nat) : Int) = r.q; omega
  · show ((getN _ L).to : Int) = r.to
    rw [h2]; show ((r.to.toNat : Nat) : Int) = r.to; omega
  · show (getN _ L).V = r.V
    rw [h2]
end Go.Proofs.Ytdolgpogjnfpkaa
/- The document's code of bytes, and its request, are the program's. -/
namespace Go.Proofs.Ytdolgpogjnfpkaa
set_option linter.unusedVariables false
set_option linter.unusedSimpArgs false
open Go.ChangeShapes Go.WideShapes Go.ChangeAt Go.RowKit

theorem getN_wd (f : Fo) {L : List Nat} (h : ∀ b ∈ L, b < 256) : ∀ v ∈ (getN f L).V, v < 65536 := by
  have h0 : ∀ b ∈ L.drop 1, b < 256 := fun b hb => h b (List.mem_of_mem_drop hb)
  have h1 := W2_by h0
  have h2 : ∀ b ∈ (if 0 < f.q then W2 (W2 (L.drop 1)) else W2 (L.drop 1)), b < 256 := by
    split
    · exact W2_by h1
    · exact h1
  have h3 : ∀ b ∈ (if f.to = true then W2 (W2 (if 0 < f.q then W2 (W2 (L.drop 1)) else W2 (L.drop 1))) else (if 0 < f.q then W2 (W2 (L.drop 1)) else W2 (L.drop 1))), b < 256 := by
    split
    · exact W2_by (W2_by h2)
    · exact h2
  have h4 : ∀ b ∈ (if f.co = true then (if f.to = true then W2 (W2 (if 0 < f.q then W2 (W2 (L.drop 1)) else W2 (L.drop 1))) else (if 0 < f.q then W2 (W2 (L.drop 1)) else W2 (L.drop 1))).drop 1 else (if f.to = true then W2 (W2 (if 0 < f.q then W2 (W2 (L.drop 1)) else W2 (L.drop 1))) else (if 0 < f.q then W2 (W2 (L.drop 1)) else W2 (L.drop 1)))), b < 256 := by
    split
    · exact fun b hb => h3 b (List.mem_of_mem_drop hb)
    · exact h3
  intro v hv
  unfold getN at hv
  simp only at hv
  split at hv
  · have := unb_by _ _ v hv; omega
  · split at hv
    · simp at hv; omega
    · exact readW_by _ _ h4 v hv
theorem fld (f : Fo) {r s : Rq} (h : r.fc = s.fc ∧ r.ad = s.ad ∧ r.q = s.q ∧ r.to = s.to ∧ r.V = s.V) : has f r = has f s ∧ putR f r = putR f s ∧ fits f r = fits f s := by
  obtain ⟨h1, h2, h3, h4, h5⟩ := h
  unfold has putR fits
  rw [h1, h2, h3, h4, h5]
  exact ⟨rfl, rfl, rfl⟩
theorem rdV_wd {L : List Nat} (h : ∀ b ∈ L, b < 256) : ∀ v ∈ rdV L, v < 65536 := by
  have h6 : ∀ b ∈ L.drop 6, b < 256 := fun b hb => h b (List.mem_of_mem_drop hb)
  have h10 : ∀ b ∈ L.drop 10, b < 256 := fun b hb => h b (List.mem_of_mem_drop hb)
  have a3 := atN_lt h 3
  have a5 := atN_lt h 5
  intro v hv
  unfold rdV at hv
  split at hv
  · simp at hv; split at hv <;> omega
  split at hv
  · simp at hv; omega
  split at hv
  · simp at hv; omega
  split at hv
  · have := unb_by _ _ v hv; omega
  split at hv
  · exact unwK_wd h6 _ v hv
  split at hv
  · exact unwK_wd h10 _ v hv
  · simp at hv
theorem ref4_get {L : List Nat} (hL : ∀ b ∈ L, b < 256) : ref4 L = getC L ∧ (getC L = 0 → (rq4 L).fc = (getQ L).fc ∧ (rq4 L).ad = (getQ L).ad ∧ (rq4 L).q = (getQ L).q ∧ (rq4 L).to = (getQ L).to ∧ (rq4 L).V = (getQ L).V) := by
  by_cases h0 : L = []
  · have e1 : ref4 L = 1 := by unfold ref4; rw [if_pos h0]
    have e2 : getC L = 1 := by unfold getC; rw [if_pos h0]
    rw [e1, e2]
    exact ⟨rfl, fun e => by cases e⟩
  obtain ⟨x, hx⟩ : ∃ x : Int, x = ((L.getD 0 0 : Nat) : Int) := ⟨_, rfl⟩
  cases hk : formOf x with
  | none =>
    have e1 : ref4 L = 1 := by unfold ref4; rw [if_neg h0, ← hx, hk]; rfl
    have e2 : getC L = 1 := by unfold getC; rw [if_neg h0, ← hx, hk]
    rw [e1, e2]
    exact ⟨rfl, fun e => by cases e⟩
  | some f =>
    have hfo : fo x = f := by unfold fo; rw [hk]; rfl
    have hk2 : formOf ((L.getD 0 0 : Nat) : Int) = some (fo ((L.getD 0 0 : Nat) : Int)) := by rw [← hx, hfo, hk]
    have A := rq_same hL hk2 (r := rq4 L) rfl
    have B := rq_same hL hk2 (r := dq (fo ((L.getD 0 0 : Nat) : Int)) L) rfl
    rw [← hx, hfo] at A B
    have hVA := rdV_wd hL
    have hVB := getN_wd f hL
    have e1 : ref4 L = if has f (rq4 L) && decide (putR f (rq4 L) = L) then (if fits f (rq4 L) then 0 else 2) else 3 := by
      unfold ref4
      rw [if_neg h0, ← hx, hfo, hk, if_neg (by simp)]
    have e2 : getC L = if has f (dq f L) && decide (putR f (dq f L) = L) then (if fits f (dq f L) then 0 else 2) else 3 := by
      unfold getC
      rw [if_neg h0, ← hx, hk]
    have e3 : getC L = 0 → getQ L = dq f L := by
      intro h
      unfold getQ
      rw [if_pos h, ← hx, hfo]
    by_cases hA : has f (rq4 L) = true ∧ putR f (rq4 L) = L
    · obtain ⟨_, _, _, _, _, g1, g2, g3, g4⟩ := A hA.1 hVA hA.2
      have hs : (rq4 L).fc = (dq f L).fc ∧ (rq4 L).ad = (dq f L).ad ∧ (rq4 L).q = (dq f L).q ∧ (rq4 L).to = (dq f L).to ∧ (rq4 L).V = (dq f L).V := ⟨rfl, g1.symm, g2.symm, g3.symm, g4.symm⟩
      obtain ⟨k1, k2, k3⟩ := fld f hs
      rw [e1, e2, k1, k2, k3]
      refine ⟨rfl, fun h => ?_⟩
      rw [e3 (by rw [e2]; exact h)]
      exact hs
    · by_cases hB : has f (dq f L) = true ∧ putR f (dq f L) = L
      · obtain ⟨_, g1, g2, g3, g4, _⟩ := B hB.1 hVB hB.2
        have hs : (rq4 L).fc = (dq f L).fc ∧ (rq4 L).ad = (dq f L).ad ∧ (rq4 L).q = (dq f L).q ∧ (rq4 L).to = (dq f L).to ∧ (rq4 L).V = (dq f L).V := ⟨rfl, g1, g2, g3, g4⟩
        obtain ⟨k1, k2, k3⟩ := fld f hs
        exact absurd ⟨k1.trans hB.1, k2.trans hB.2⟩ hA
      · have z1 : (has f (rq4 L) && decide (putR f (rq4 L) = L)) = false := by
          rw [Bool.eq_false_iff]
          intro e
          simp at e
          exact hA e
        have z2 : (has f (dq f L) && decide (putR f (dq f L) = L)) = false := by
          rw [Bool.eq_false_iff]
          intro e
          simp at e
          exact hB e
        rw [e1, e2, z1, z2]
        exact ⟨rfl, fun e => by cases e⟩
end Go.Proofs.Ytdolgpogjnfpkaa
/- The document's Get. -/
namespace Go.Proofs.Ytdolgpogjnfpkaa
set_option linter.unusedVariables false
set_option linter.unusedSimpArgs false
open Go.ChangeShapes Go.WideShapes Go.ChangeAt Go.RowKit

theorem most_form (n : Int) : (most n = 0) ↔ formOf n = none := by
  unfold most formOf
  constructor
  · intro h
    repeat' split at h
    all_goals first | omega | skip
    repeat' split
    all_goals first | rfl | (exfalso; omega)
  · intro h
    repeat' split at h
    all_goals first | (cases h; done) | skip
    repeat' split
    all_goals first | rfl | (exfalso; omega)
theorem ten_of {x : Nat} {f : Fo} (h : formOf (x : Int) = some f) : Ten x := by
  unfold Ten
  unfold formOf at h
  repeat' split at h
  all_goals first | (cases h; done) | omega
/-- A request of bytes is fit to be handed on. -/
theorem rq4_ok {L : List Nat} {w : World} {a : Option Addr} {n c : Nat} (hL : ∀ b ∈ L, b < 256) (hA : ArgW w a n c (rdV L)) : (wsl (rq4 L) a n c).ok w := by
  have l0 := getD_lt hL 0
  have l1 := atN_lt hL 1
  have l3 := atN_lt hL 3
  have l5 := atN_lt hL 5
  have hq : rdQn L < 65536 := by unfold rdQn; split <;> omega
  have ht : rdT L < 65536 := by unfold rdT; split <;> omega
  refine ⟨hA, ?_, ?_, ?_, ?_⟩
  · exact wfk (n := ((L.getD 0 0 : Nat) : Int)) (by omega) (by omega)
  · exact wfk (n := ((atN L 1 : Nat) : Int)) (by omega) (by omega)
  · exact wfk (n := ((rdQn L : Nat) : Int)) (by omega) (by omega)
  · exact wfk (n := ((rdT L : Nat) : Int)) (by omega) (by omega)
theorem ends_fits {r : Rq} {w : World} (hr : r.ok w) (hk : formOf r.fc = some (fo r.fc)) (hh : has (fo r.fc) r = true) : endsB r = fits (fo r.fc) r := by
  have h1 := right14 hr
  have h2 := shape_has hr
  rw [hk, hh] at h2
  rw [h2] at h1
  unfold rightR at h1
  rw [hk, hh] at h1
  simpa using h1
set_option maxRecDepth 100000 in
set_option maxHeartbeats 8000000 in
theorem getD_zero (a : Option Addr) (n c : Nat) (L : List Nat) (w : World) (h : ArgB w a n c L) (hn : n ≤ 100000) (h0 : n = 0 ∨ formOf ((L.getD 0 0 : Nat) : Int) = none) : Calls Try.prog 23 #[.slice a n c] w (GetP w L) := by
  have hln := h.row.ln
  have hc : getC L = 1 := by
    rcases h0 with h0 | h0
    · unfold getC; rw [if_pos (List.eq_nil_of_length_eq_zero (by omega))]
    · unfold getC; split
      · rfl
      · rw [h0]
  have HPB := Lib.hid (fun w' hb => getp_bad hc (by omega) (w := w) w' hb)
  by_cases hz : n = 0
  · subst hz
    clear h hc hln h0
    go_enter Try.func23, Try.ntmps23
    go_wp2_with fail
    exact bodyPost_ret (v := .tuple #[.agg #[.int .i64 0, .int .i64 0, .int .i64 0, .slice none 0 0, .int .i64 0], .int .i64 1]) (by simp [results, Try.results23, go_sem]) rfl (HPB.out _ ((Below.refl _ _).alloc (Nat.le_refl _) _))
  · have hf : formOf ((L.getD 0 0 : Nat) : Int) = none := h0.resolve_left hz
    obtain ⟨b, off, rfl, hbl, hcc⟩ := h.row.pos (by omega)
    have cb0 : w.cell? ⟨b, off, none⟩ = some (.int .u8 ((L.getD 0 0 : Nat) : Int)) := hcc 0 (by omega)
    have l0 := getD_lt h.row.by' 0
    generalize L.getD 0 0 = x0 at cb0 l0 hf
    have u0 : IntKind.i64.wrap (x0 : Int) = (x0 : Int) := IntWalk.i64_in _ (by omega)
    have MO := Lib.hid (fun W => most_any (x0 : Int) W)
    rw [(most_form _).2 hf] at MO
    have t0 : ((n : Int) == 0) = false := by simp; omega
    have i0 : (0 : Int) < (n : Int) := by omega
    have cbA : (w.alloc Z32).cell? ⟨b, off, none⟩ = some (.int .u8 (x0 : Int)) := (Below.cell ((Below.refl w.heap.size w).alloc (Nat.le_refl _) Z32) (p := ⟨b, off, none⟩) hbl).trans cb0
    clear h hc hln h0 hf hcc
    go_enter Try.func23, Try.ntmps23
    go_wp2_with fail
    refine (MO.out _).mono ?_
    rintro e w1 ⟨rfl, rfl⟩
    go_wp2_with fail
    exact bodyPost_ret (v := .tuple #[.agg #[.int .i64 0, .int .i64 0, .int .i64 0, .slice none 0 0, .int .i64 0], .int .i64 1]) (by simp [results, Try.results23, go_sem]) rfl (HPB.out _ (by first | exact set5_bel ((Below.refl _ _).alloc (Nat.le_refl _) _) (Nat.le_refl _) _ _ _ _ _ | exact (Below.refl _ _).alloc (Nat.le_refl _) _))
end Go.Proofs.Ytdolgpogjnfpkaa
