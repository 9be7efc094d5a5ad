/- The walk of CrcBits. -/
import Derived.Test.YtdlcfnpnfdlahaaQBytes
import Derived.RegionTactic
import Derived.BigRegion
namespace Go.Proofs.Ytdlcfnpnfdlahaa
set_option linter.unusedVariables false
open Go.ChangeShapes Go.WideShapes Go.ChangeAt Go.RowKit

/-- Seal's bytes with two that stand together changed: no sealed ones. -/
theorem flip_no (f : Nat → Nat) (n k a b : Nat) (hf : ∀ i, i < n → f i < 256) (hk : k ≤ n) (ha : a < 256) (hb : b < 256) (hab : ¬ (a = 0 ∧ b = 0)) (X : List Nat) (hX : ∀ i, i < n + 2 → X.getD i 0 = sF f n i ^^^ two k a b i) :
    okF (fun i => X.getD i 0) (n + 2) = false ∧ ∀ i, i < n + 2 → X.getD i 0 < 256 := by
  constructor
  · rw [two_ok (sF f n) n k a b (fun i hi => sF_lt f n hf i hi) (sF_ok f n) hk ha hb _ hX, ← Bool.decide_and]
    exact decide_eq_false hab
  · intro i hi
    rw [hX i hi]
    refine Nat.xor_lt_two_pow (n := 8) (sF_lt f n hf i hi) ?_
    unfold two; split <;> (try split) <;> omega

/-- One byte of them changed. -/
theorem flip_one (f : Nat → Nat) (n q c : Nat) (hf : ∀ i, i < n → f i < 256) (hq : q ≤ n + 1) (hc : c < 256) (hc0 : c ≠ 0) (v : Nat) (hv : v = sF f n q ^^^ c) :
    okF (fun i => ((sealL f n).set q v).getD i 0) (n + 2) = false ∧ ∀ i, i < n + 2 → ((sealL f n).set q v).getD i 0 < 256 := by
  have hg : ∀ i, i < n + 2 → ((sealL f n).set q v).getD i 0 = if i = q then v else sF f n i := by
    intro i hi
    simp only [List.getD]
    by_cases p : i = q
    · subst p; rw [List.getElem?_set_self (by rw [sealL_len]; omega), if_pos rfl]; rfl
    · rw [List.getElem?_set_ne (fun e => p e.symm), if_neg p]
  by_cases hqn : q ≤ n
  · refine flip_no f n q c 0 hf hqn hc (by omega) (by omega) _ fun i hi => ?_
    rw [hg i hi]
    unfold two
    by_cases p : i = q
    · subst p; simp [hv]
    · by_cases p2 : i = q + 1 <;> simp [p, p2]
  · have hq1 : q = n + 1 := by omega
    subst hq1
    refine flip_no f n n 0 c hf (Nat.le_refl _) (by omega) hc (by omega) _ fun i hi => ?_
    rw [hg i hi]
    unfold two
    by_cases p : i = n + 1
    · subst p; simp [hv]
    · by_cases p2 : i = n <;> simp [p, p2]

/-- Two bytes of them changed. -/
theorem flip_two (f : Nat → Nat) (n q c d : Nat) (hf : ∀ i, i < n → f i < 256) (hq : q ≤ n) (hc : c < 256) (hd : d < 256) (hc0 : c ≠ 0) (v u : Nat) (hv : v = sF f n q ^^^ c) (hu : u = sF f n (q + 1) ^^^ d) :
    okF (fun i => (((sealL f n).set q v).set (q + 1) u).getD i 0) (n + 2) = false ∧ ∀ i, i < n + 2 → (((sealL f n).set q v).set (q + 1) u).getD i 0 < 256 := by
  refine flip_no f n q c d hf hq hc hd (by omega) _ fun i hi => ?_
  simp only [List.getD, two]
  by_cases p : i = q + 1
  · subst p
    rw [List.getElem?_set_self (by simp [sealL_len]; omega), if_neg (by omega), if_pos rfl]
    exact hu
  · rw [List.getElem?_set_ne (fun e => p e.symm)]
    by_cases p2 : i = q
    · subst p2
      rw [List.getElem?_set_self (by simp [sealL_len]; omega), if_pos rfl]
      exact hv
    · rw [List.getElem?_set_ne (fun e => p2 e.symm), if_neg p2, if_neg p, Nat.xor_zero]

theorem OwnR.put {B : Nat} {w : World} {g cap : Nat} {L : List Nat} (h : OwnR B w g cap L) (k : Nat) (E : Int) (m : Nat) (hE : E = (m : Int)) : OwnR B (w.setCell ⟨g, k, none⟩ (.int .u8 E)) g cap (L.set k m) := by
  subst hE; exact h.set k m
theorem OwnR.drew {B : Nat} {w : World} {g cap : Nat} {L : List Nat} (h : OwnR B w g cap L) : OwnR B w.drew g cap L := h.below (below_drewN _ _ 1)

end Go.Proofs.Ytdlcfnpnfdlahaa
