/- Plain laws on sectors, byte by byte; bytes that came in. -/
import Derived.Test.YtpjddinbbglgmaaH
namespace Go.Proofs.Ytpjddinbbglgmaa
set_option linter.unusedVariables false
open Go.ChangeShapes Go.WideShapes Go.ChangeAt Go.RowKit

theorem getD_splice (L F : List Nat) (o t : Nat) (h : o + F.length ≤ L.length) : (splice L o F).getD t 0 = if o ≤ t ∧ t < o + F.length then F.getD (t - o) 0 else L.getD t 0 := by
  simp only [splice, List.getD]
  have h1 : (L.take o).length = o := by rw [List.length_take]; omega
  by_cases h2 : t < o
  · rw [List.getElem?_append_left (by omega), List.getElem?_take_of_lt h2, if_neg (by omega)]
  · rw [List.getElem?_append_right (by omega), h1]
    by_cases h3 : t < o + F.length
    · rw [List.getElem?_append_left (by omega), if_pos (by omega)]
    · rw [List.getElem?_append_right (by omega), List.getElem?_drop, if_neg (by omega), show o + F.length + (t - o - F.length) = t by omega]
theorem getD_sec (L : List Nat) (i j : Nat) (hj : j < 64) : (sec L i).getD j 0 = L.getD (i * 64 + j) 0 := by
  simp only [sec, List.getD]
  rw [List.getElem?_take_of_lt hj, List.getElem?_drop]
theorem getD_whole (f : List Nat) (j : Nat) : (whole f).getD j 0 = f.getD j 0 := by
  simp only [whole, List.getD]
  by_cases h : j < f.length
  · rw [List.getElem?_append_left h]
  · rw [List.getElem?_append_right (by omega), List.getElem?_eq_none (l := f) (by omega), List.getElem?_replicate]
    split <;> rfl
theorem getD_take (l : List Nat) (q j : Nat) : (l.take q).getD j 0 = if j < q then l.getD j 0 else 0 := by
  simp only [List.getD]
  by_cases h : j < q
  · rw [List.getElem?_take_of_lt h, if_pos h]
  · rw [List.getElem?_eq_none (by rw [List.length_take]; omega), if_neg h]; rfl
theorem getD_ge (f : List Nat) (j : Nat) (h : f.length ≤ j) : f.getD j 0 = 0 := by
  simp [List.getD, List.getElem?_eq_none h]

theorem bys_row {W : World} {a : Option Addr} {len : Nat} {f : Nat → Int} (r : Row W a len (fun i => .int .u8 (f i))) (wf : ∀ i, i < len → (Lit.int .u8 (f i)).wf = true) : Bys W a len ((List.range len).map fun i => (f i).toNat) := by
  refine ⟨by simp, ?_, ?_⟩
  · intro b hb
    rw [List.mem_map] at hb
    obtain ⟨i, hi, rfl⟩ := hb
    have := bd_u8 (wf i (List.mem_range.1 hi))
    omega
  · rcases r.at' with z | ⟨b, off, e, hlt, hc⟩
    · exact .inl z
    · refine .inr ⟨b, off, e, hlt, fun i hi => ?_⟩
      rw [hc i hi]
      have := bd_u8 (wf i hi)
      simp only [List.getD, List.getElem?_map, List.getElem?_range hi, Option.map_some, Option.getD_some]
      rw [Int.toNat_of_nonneg this.1]

theorem conv_bys {W : World} {a : Option Addr} {len cap : Nat} {f : List Nat} (h : Bys W a len f) : (convert 29 9 (.slice a len cap)).run Try.prog W = .ok (.string (strN f)) W := by
  rcases h.at' with z | ⟨b, off, rfl, hlt, hc⟩
  · subst z
    have hf : f = [] := List.eq_nil_of_length_eq_zero h.ln
    subst hf
    rw [run_convert_bytes_string W 29 9 5 a 0 cap Try.underlying29 Try.underlying5 Try.underlying9]
    cases a with
    | none => simp [Conv.bytesToString, strN, strOfNums]; rfl
    | some x =>
      rw [run_bytesToString W x 0 cap [] (by simp [loadCells, loadCellsFrom])]
      rfl
  · exact conv_any W b off len cap f h.ln hc

end Go.Proofs.Ytpjddinbbglgmaa
