/- Lapse. -/
import Derived.Test.YtfloceoopjokcaaD
namespace Go.Proofs.Ytfloceoopjokcaa
set_option linter.unusedVariables false
open Go.ChangeShapes Go.WideShapes Go.ChangeAt Go.RowKit

def dropAll (E L : List Int) : List Int := L.foldl dropE E
theorem dropAll_snoc (E L : List Int) (x : Int) : dropAll E (L ++ [x]) = dropE (dropAll E L) x := by simp [dropAll]
theorem dropAll_len (E L : List Int) : (dropAll E L).length = E.length := by
  induction L generalizing E with
  | nil => rfl
  | cons x L ih => show (dropAll (dropE E x) L).length = _; rw [ih, dropE_len]
theorem dropAll_bd {E : List Int} (h : ∀ x ∈ E, 0 ≤ x ∧ x ≤ 2199023255552) (L : List Int) : ∀ x ∈ dropAll E L, 0 ≤ x ∧ x ≤ 2199023255552 := by
  induction L generalizing E with
  | nil => exact h
  | cons x L ih => exact ih (dropE_bd h x)
theorem dropE_getD (E : List Int) (i : Int) (j : Nat) : (dropE E i).getD j 0 = if (j : Int) = i then 0 else E.getD j 0 := by
  unfold dropE
  by_cases h0 : 0 ≤ i
  · rw [if_pos h0]
    by_cases hl : i.toNat < E.length
    · rw [getD_set E _ _ _ hl]
      by_cases e : (j : Int) = i
      · rw [if_pos e, if_pos (by omega)]
      · rw [if_neg e, if_neg (by omega)]
    · rw [List.set_eq_of_length_le (by omega)]
      by_cases e : (j : Int) = i
      · rw [if_pos e]; simp only [List.getD]; rw [List.getElem?_eq_none (by omega)]; rfl
      · rw [if_neg e]
  · rw [if_neg h0, if_neg (by omega)]
theorem dropAll_getD (E L : List Int) (j : Nat) : (dropAll E L).getD j 0 = if (j : Int) ∈ L then 0 else E.getD j 0 := by
  induction L generalizing E with
  | nil => simp [dropAll]
  | cons x L ih =>
    show (dropAll (dropE E x) L).getD j 0 = _
    rw [ih, dropE_getD]
    by_cases e : (j : Int) ∈ L
    · simp [e]
    · by_cases q : (j : Int) = x <;> simp [e, q]

def LapseP (B : Nat) (w : World) (t m cn : Nat) (Lm E : List Int) (now : Int) (e : Ending) (w' : World) : Prop :=
  ∃ a c, e = .returned (.slice a (ovL E now Lm.length).length c) ∧ ArgI w' a (ovL E now Lm.length).length c (ovL E now Lm.length) ∧ (∀ b off, a = some ⟨b, off, none⟩ → w.heap.size ≤ b) ∧ Tb B w' t m cn Lm (dropAll E (ovL E now Lm.length)) ∧ Fr m w w'
set_option maxRecDepth 100000 in
set_option maxHeartbeats 2000000 in
theorem lapse_any {B : Nat} {w : World} {t m cn : Nat} {Lm E : List Int} (h : Tb B w t m cn Lm E) (now : Int) (hn : Lm.length * 8 ≤ 140737488355328) :
    Calls Try.prog 13 #[.pointer (some ⟨t, 0, none⟩), .int .i64 now] w (LapseP B w t m cn Lm E now) := by
  obtain ⟨hlt, hlm⟩ := h.lt
  have H := Lib.hid h
  clear h
  go_enter Try.func13, Try.ntmps13
  go_wp2_with fail
  have b1 : Below w.heap.size w (w.alloc (.cells #[.int .i64 now] 2 (0, 0))) := (Below.refl _ _).alloc (Nat.le_refl _) _
  refine (pick_any (H.out.below b1) now w.heap.size (by simp only [World.cell?, heap_alloc_new]; rfl) (by simp) hn).mono ?_
  rintro e w1 ⟨v, rfl, ho, bb⟩
  obtain ⟨a, c, rfl, ha, hf⟩ := own_ir ho (ovL_wf _ _ _ (by unfold maxLen; omega))
  have T1 : Tb B w1 t m cn Lm E := (H.out.below b1).below bb
  have f1 : Fr m w w1 := (Fr.of_below b1).trans (Fr.of_below bb)
  have hf' : ∀ b off, a = some ⟨b, off, none⟩ → w.heap.size < b := fun b off e => by have := hf b off e; simp at this; omega
  have hle := ovL_len E now Lm.length
  obtain ⟨L, hL⟩ : ∃ L, L = ovL E now Lm.length := ⟨_, rfl⟩
  obtain ⟨n, hnL⟩ : ∃ n, n = L.length := ⟨_, rfl⟩
  have hPP : ∀ w', Tb B w' t m cn Lm (dropAll E L) → ArgI w' a n c L → Fr m w w' → LapseP B w t m cn Lm E now (.returned (.slice a n c)) w' := by
    intro w' q1 q2 q3
    subst hL; subst hnL
    exact ⟨a, c, rfl, q2, fun b off e => by have := hf' b off e; omega, q1, q3⟩
  rw [← hL, ← hnL] at ha hle
  rw [← hL, ← hnL]
  have hwf := ha.row.wf
  have P := Lib.hid hPP
  have A := Lib.hid ha
  have T := Lib.hid T1
  have F := Lib.hid f1
  have HF := Lib.hid hf'
  have W := Lib.hid hwf
  have HN := Lib.hid hnL
  clear hPP ha T1 f1 hf' hwf b1 ho bb hf hL hnL H
  go_wp2_with fail
  go_loopw [13] (fun i wr => ∃ k : Nat, k ≤ n ∧ i = .int .i64 k ∧ Tb B wr t m cn Lm (dropAll E (L.take k)) ∧ Fr m w1 wr) (fun i _ => n - (intOf i).toNat)
  case atStart => exact ⟨0, Nat.zero_le _, rfl, by rw [List.take_zero]; exact T.out, Fr.refl _ _⟩
  case round =>
    obtain ⟨wo, rfl⟩ : ∃ wo : World, wo = wr := ⟨_, rfl⟩
    obtain ⟨k, hk, rfl, hT, hfr⟩ := hrel
    have hA : Ir wo a n L := A.out.row.fr hfr (fun b off e _ => by have := HF.out b off e; omega)
    by_cases hkn : k < n
    · obtain ⟨b, off, ha, _, hc⟩ := hA.pos (by omega)
      subst ha
      have hc0 := hc k hkn
      have hxw := getD_wf W.out k
      have hst : L.take (k + 1) = L.take k ++ [L.getD k 0] := by
        have hk2 : k < L.length := by rw [← HN.out]; exact hkn
        rw [List.take_add_one, List.getElem?_eq_getElem hk2]
        simp [List.getD, List.getElem?_eq_getElem hk2]
      obtain ⟨la2, lc2, g1, _⟩ := hT.blk
      obtain ⟨_, c1, _, _⟩ := cells2 g1
      generalize L.getD k 0 = x at hc0 hxw hst
      obtain ⟨w', hrun, him, htu⟩ := hT.map.drop (t := 50) (e := 2) Try.underlying50 Try.underlying3 hxw 0
      have hT2 : Tb B w' t m cn Lm (dropAll E (L.take (k + 1))) := by
        rw [hst, dropAll_snoc]
        exact hT.turned (Fr.turned htu) (him.congr fun j => Fm_drop _ x j) (by rw [dropE_len, dropAll_len, T.out.ln]) (dropE_bd (dropAll_bd T.out.bd _) x)
      have hF2 : Fr m w1 w' := hfr.trans (Fr.turned htu)
      have T2 := Lib.hid hT2
      have F2 := Lib.hid hF2
      clear hT hfr hA hc hst g1 him htu hT2 hF2
      go_wp2_with fail
      go_roundw
      case rel => exact ⟨k + 1, by omega, by go_num, T2.out, F2.out⟩
      case measure => simp [intOf]; omega
    · have hk' : k = n := by omega
      subst hk'
      have HP : Hid (LapseP B w t m cn Lm E now (.returned (.slice a k c)) wo) := Lib.hid (P.out wo (by rw [List.take_of_length_le (by rw [← HN.out]; omega)] at hT; exact hT) ⟨hA, A.out.nil, A.out.le, A.out.mx⟩ (F.out.trans hfr))
      clear hT hfr hA
      go_wp2_with fail
      go_ret
      exact HP.out
end Go.Proofs.Ytfloceoopjokcaa
