/- Counts do not hang on the order. -/
import Derived.Test.YtblcihpojnfhfaaAll
namespace Go.Proofs.Ytblcihpojnfhfaa
set_option linter.unusedVariables false
open Go.ChangeShapes Go.WideShapes Go.ChangeAt Go.RowKit

theorem cnt_add (f : I → Bool) (g : Nat → I) (a b : Nat) : cnt f g (a + b) = cnt f g a + cnt f (fun i => g (a + i)) b := by
  induction b with
  | zero => rfl
  | succ b ih => rw [show a + (b + 1) = (a + b) + 1 by omega]; simp only [cnt]; rw [ih]; omega

theorem cnt_rot (f : I → Bool) (g : Nat → I) (len K : Nat) (h : K ≤ len) : cnt f (fun i => ((lst g len).drop K ++ (lst g len).take K).getD i i0) len = cnt f g len := by
  have e1 : cnt f (fun i => ((lst g len).drop K ++ (lst g len).take K).getD i i0) ((len - K) + K) = cnt f g (K + (len - K)) := by
    rw [cnt_add, cnt_add, Nat.add_comm]
    congr 1
    · refine cnt_congr f _ _ K fun i hi => ?_
      have h1 : ((lst g len).drop K).length = len - K := by rw [List.length_drop, lst_len]
      simp only [List.getD]
      rw [List.getElem?_append_right (by omega), h1, show len - K + i - (len - K) = i by omega, List.getElem?_take_of_lt hi]
      have := lst_get g len i (by omega)
      simp only [List.getD] at this
      rw [this]
    · refine cnt_congr f _ _ (len - K) fun i hi => ?_
      have h1 : ((lst g len).drop K).length = len - K := by rw [List.length_drop, lst_len]
      simp only [List.getD]
      rw [List.getElem?_append_left (by omega), List.getElem?_drop]
      have := lst_get g len (K + i) (by omega)
      simp only [List.getD] at this
      rw [this]
  rw [show len - K + K = len by omega, show K + (len - K) = len by omega] at e1
  exact e1

def b1 (b : Bool) : Nat := if b then 1 else 0
theorem cnt_s (f : I → Bool) (g : Nat → I) (n : Nat) : cnt f g (n + 1) = cnt f g n + b1 (f (g n)) := rfl

/-- Two neighbours swapped. -/
theorem cnt_swap (f : I → Bool) (X : List I) (i len : Nat) (h : i + 1 < len) (hl : X.length = len) :
    cnt f (fun j => ((X.set i (X.getD (i + 1) i0)).set (i + 1) (X.getD i i0)).getD j i0) len = cnt f (fun j => X.getD j i0) len := by
  have hg : ∀ j, ((X.set i (X.getD (i + 1) i0)).set (i + 1) (X.getD i i0)).getD j i0 = if j = i + 1 then X.getD i i0 else if j = i then X.getD (i + 1) i0 else X.getD j i0 := by
    intro j
    rw [set_getD _ _ _ _ (by simp; omega), set_getD _ _ _ _ (by omega)]
  obtain ⟨m, hm⟩ : ∃ m, len = (i + 2) + m := ⟨len - (i + 2), by omega⟩
  rw [hm, cnt_add, cnt_add f (fun j => X.getD j i0)]
  congr 1
  · rw [cnt_s, cnt_s, cnt_s, cnt_s]
    rw [cnt_congr f (fun j => ((X.set i (X.getD (i + 1) i0)).set (i + 1) (X.getD i i0)).getD j i0) (fun j => X.getD j i0) i (fun j hj => by rw [hg, if_neg (by omega), if_neg (by omega)])]
    rw [hg i, hg (i + 1), if_neg (by omega), if_pos rfl, if_pos rfl]
    omega
  · refine cnt_congr f _ _ m fun j hj => ?_
    rw [hg, if_neg (by omega), if_neg (by omega)]

end Go.Proofs.Ytblcihpojnfhfaa
