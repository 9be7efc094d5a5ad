/- Counts with one in the place of another, and without one. -/
import Derived.Test.YtblcihpojnfhfaaTurns
namespace Go.Proofs.Ytblcihpojnfhfaa
set_option linter.unusedVariables false
open Go.ChangeShapes Go.WideShapes Go.ChangeAt Go.RowKit

theorem cnt_one (f : I → Bool) (g g' : Nat → I) (K : Nat) : ∀ len, K < len → (∀ i, i ≠ K → g' i = g i) → cnt f g' len + b1 (f (g K)) = cnt f g len + b1 (f (g' K)) := by
  intro len
  induction len with
  | zero => intro h; omega
  | succ n ih =>
    intro h e
    rw [cnt_s, cnt_s]
    by_cases hk : n = K
    · subst hk
      rw [cnt_congr f g' g n (fun i hi => by rw [e i (by omega)])]
      omega
    · have := ih (by omega) e
      rw [e n hk]
      omega

theorem cnt_cut (f : I → Bool) (g : Nat → I) (len K : Nat) (h : K < len) : cnt f (fun i => ((lst g len).take K ++ (lst g len).drop (K + 1)).getD i i0) (len - 1) + b1 (f (g K)) = cnt f g len := by
  obtain ⟨m, rfl⟩ : ∃ m, len = K + (1 + m) := ⟨len - K - 1, by omega⟩
  rw [show K + (1 + m) - 1 = K + m by omega, cnt_add, cnt_add f g, cnt_add f (fun i => g (K + i))]
  have h1 : ((lst g (K + (1 + m))).take K).length = K := by rw [List.length_take, lst_len]; omega
  have e1 : cnt f (fun i => ((lst g (K + (1 + m))).take K ++ (lst g (K + (1 + m))).drop (K + 1)).getD i i0) K = cnt f g K := by
    refine cnt_congr f _ _ K fun i hi => ?_
    simp only [List.getD]
    rw [List.getElem?_append_left (by omega), List.getElem?_take_of_lt hi]
    have := lst_get g (K + (1 + m)) i (by omega)
    simp only [List.getD] at this
    rw [this]
  have e2 : cnt f (fun i => ((lst g (K + (1 + m))).take K ++ (lst g (K + (1 + m))).drop (K + 1)).getD (K + i) i0) m = cnt f (fun i => g (K + (1 + i))) m := by
    refine cnt_congr f _ _ m fun i hi => ?_
    simp only [List.getD]
    rw [List.getElem?_append_right (by omega), h1, show K + i - K = i by omega, List.getElem?_drop]
    have := lst_get g (K + (1 + m)) (K + 1 + i) (by omega)
    simp only [List.getD] at this
    rw [this, show K + 1 + i = K + (1 + i) by omega]
  have e3 : cnt f (fun i => g (K + i)) 1 = b1 (f (g K)) := by rw [show (1 : Nat) = 0 + 1 from rfl, cnt_s]; simp [cnt]
  rw [e1, e2, e3]
  omega

def more1 (x : I) (bad : Bool) : I := if bad then (x.1, true, x.2.2) else (true, x.2)

/-- One more that trips. -/
theorem trips_more (n : Int) (g : Nat → I) (len K : Nat) (bad : Bool) (h : K < len) :
    (tripsF n g len = true → tripsF n (fun i => ((lst g len).set K (more1 (g K) bad)).getD i i0) len = true) ∧
    ((g K).2.2 = true → tripsF n (fun i => ((lst g len).set K (more1 (g K) bad)).getD i i0) len = tripsF n g len) := by
  obtain ⟨g2, hg2⟩ : ∃ g2 : Nat → I, g2 = fun i => ((lst g len).set K (more1 (g K) bad)).getD i i0 := ⟨_, rfl⟩
  obtain ⟨g1, hg1⟩ : ∃ g1 : Nat → I, g1 = fun i => (lst g len).getD i i0 := ⟨_, rfl⟩
  have e1 : ∀ f, cnt f g1 len = cnt f g len := fun f => cnt_congr f _ _ len fun i hi => congrArg f (by rw [hg1]; exact lst_get g len i hi)
  have eK : g2 K = more1 (g K) bad := by rw [hg2]; simp only [set_getD _ _ _ _ (show K < (lst g len).length by rw [lst_len]; exact h), if_pos]
  have e1K : g1 K = g K := by rw [hg1]; exact lst_get g len K h
  have eo : ∀ i, i ≠ K → g2 i = g1 i := fun i hi => by rw [hg2, hg1]; simp only [set_getD _ _ _ _ (show K < (lst g len).length by rw [lst_len]; exact h), if_neg hi]
  have hv := cnt_one votesF g1 g2 K len h eo
  have hy := cnt_one yesF g1 g2 K len h eo
  rw [e1, eK, e1K] at hv hy
  rw [← hg2]
  rcases hx : g K with ⟨t, b, p⟩
  rw [hx] at hv hy
  cases p
  · have v1 : votesF (t, b, false) = true := rfl
    have v2 : votesF (more1 (t, b, false) bad) = true := by cases bad <;> rfl
    have y2 : yesF (more1 (t, b, false) bad) = true := by cases bad <;> simp [more1, yesF]
    rw [v1, v2] at hv
    rw [y2] at hy
    have hyy : cnt yesF g len ≤ cnt yesF g2 len := by
      have : b1 (yesF (t, b, false)) ≤ b1 true := by cases yesF (t, b, false) <;> simp [b1]
      omega
    have hvv : cnt votesF g2 len = cnt votesF g len := by omega
    refine ⟨fun ht => ?_, fun hf => by cases hf⟩
    unfold tripsF at *
    rw [hvv]
    simp only [Bool.and_eq_true, decide_eq_true_eq] at ht ⊢
    omega
  · have v1 : votesF (t, b, true) = false := rfl
    have v2 : votesF (more1 (t, b, true) bad) = false := by cases bad <;> rfl
    have y1 : yesF (t, b, true) = false := rfl
    have y2 : yesF (more1 (t, b, true) bad) = false := by cases bad <;> rfl
    rw [v1, v2] at hv
    rw [y1, y2] at hy
    have hvv : cnt votesF g2 len = cnt votesF g len := by omega
    have hyy : cnt yesF g2 len = cnt yesF g len := by omega
    have : tripsF n g2 len = tripsF n g len := by unfold tripsF; rw [hvv, hyy]
    exact ⟨fun ht => by rw [this, ht], fun _ => this⟩

/-- Fewer votes. -/
theorem trips_fewer (n : Int) (g : Nat → I) (len : Nat) (h : 1 < n) (ht : tripsF n g len = true) : tripsF (n - 1) g len = true := by
  unfold tripsF needF at *
  simp only [Bool.and_eq_true, decide_eq_true_eq] at ht ⊢
  repeat' split
  all_goals repeat' split at ht
  all_goals omega

/-- What is bypassed has no say. -/
theorem cnt_byp (f : I → Bool) (hf : f (false, false, true) = false) (g : Nat → I) (len K : Nat) (h : K < len) :
    cnt f (fun i => ((lst g len).set K (false, false, true)).getD i i0) len = cnt f (fun i => ((lst g len).take K ++ (lst g len).drop (K + 1)).getD i i0) (len - 1) := by
  have hc := cnt_cut f g len K h
  have e1 : cnt f (fun i => (lst g len).getD i i0) len = cnt f g len := cnt_congr f _ _ len fun i hi => congrArg f (lst_get g len i hi)
  have ho := cnt_one f (fun i => (lst g len).getD i i0) (fun i => ((lst g len).set K (false, false, true)).getD i i0) K len h (fun i hi => by simp only [set_getD _ _ _ _ (show K < (lst g len).length by rw [lst_len]; exact h), if_neg hi])
  simp only [set_getD _ _ _ _ (show K < (lst g len).length by rw [lst_len]; exact h), if_pos, lst_get g len K h, hf] at ho
  rw [e1] at ho
  have hz : b1 false = 0 := rfl
  rw [hz] at ho
  simp only [set_getD _ _ _ _ (show K < (lst g len).length by rw [lst_len]; exact h)]
  omega

theorem votes_lt (g : Nat → I) (len K : Nat) (h : K < len) (hK : (g K).2.2 = true) : cnt votesF g len < len := by
  have ho := cnt_one votesF g (fun i => if i = K then (false, false, false) else g i) K len h (fun i hi => by simp [hi])
  have hl := cnt_le votesF (fun i => if i = K then ((false, false, false) : I) else g i) len
  have h1 : votesF (g K) = false := by simp [votesF, hK]
  have h2 : votesF ((fun i => if i = K then ((false, false, false) : I) else g i) K) = true := by simp [votesF]
  rw [h1, h2] at ho
  have hz : b1 false = 0 := rfl
  have ho1 : b1 true = 1 := rfl
  rw [hz, ho1] at ho
  omega

theorem healthy_not (n : Int) (g : Nat → I) (len K : Nat) (h : K < len) : healthyF n (fun i => ((lst g len).set K (false, false, true)).getD i i0) len = false := by
  have := votes_lt (fun i => ((lst g len).set K (false, false, true)).getD i i0) len K h (by simp only [set_getD _ _ _ _ (show K < (lst g len).length by rw [lst_len]; exact h), if_pos])
  unfold healthyF
  generalize cnt votesF (fun i => ((lst g len).set K (false, false, true)).getD i i0) len = c at *
  have hd : ((c : Int) == (len : Int)) = false := by simp; omega
  rw [hd]; rfl

end Go.Proofs.Ytblcihpojnfhfaa
