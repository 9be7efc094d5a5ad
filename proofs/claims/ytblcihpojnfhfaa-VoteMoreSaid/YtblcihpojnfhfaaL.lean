/- Slices of votes that the call owns. -/
import Derived.Test.YtblcihpojnfhfaaR
import Derived.WalkSmall
namespace Go.Proofs.Ytblcihpojnfhfaa
set_option linter.unusedVariables false
open Go.ChangeShapes Go.WideShapes Go.ChangeAt Go.RowKit

abbrev i0 : I := (false, false, false)
def flat (L : List I) : List Value := L.flatMap inV
theorem flat_len (L : List I) : (flat L).length = L.length * 3 := by
  induction L with
  | nil => rfl
  | cons x xs ih => simp [flat, inV] at ih ⊢; omega

structure Own (B : Nat) (w : World) (g cap : Nat) (L : List I) : Prop where
  hg : B ≤ g
  le : L.length ≤ cap
  mx : cap ≤ maxLen
  blk : ∃ cur, w.heap[g]? = some (.cells cur 29 (0, 0)) ∧ cur.size = cap * 3 ∧ cur.toList.take (L.length * 3) = flat L

theorem Own.cell {B : Nat} {w : World} {g cap : Nat} {L : List I} (h : Own B w g cap L) (i j : Nat) (hi : i < L.length) (hj : j < 3) : w.cell? ⟨g, i * 3 + j, none⟩ = (inV (L.getD i i0))[j]? := by
  obtain ⟨cur, hb, hs, ht⟩ := h.blk
  rw [← flat_get L i j hi hj]
  have hlt : i * 3 + j < L.length * 3 := by omega
  have : (cur.toList.take (L.length * 3))[i * 3 + j]? = (flat L)[i * 3 + j]? := by rw [ht]
  rw [List.getElem?_take_of_lt hlt] at this
  simp only [World.cell?, hb]
  simpa [flat] using this

theorem Own.free {B : Nat} {w : World} {g cap : Nat} {L : List I} (h : Own B w g cap L) (k : Nat) : w.frozen? ⟨g, k, none⟩ = false := by
  obtain ⟨cur, hb, hs, ht⟩ := h.blk
  simp [World.frozen?, hb]

theorem Own.lt {B : Nat} {w : World} {g cap : Nat} {L : List I} (h : Own B w g cap L) : g < w.heap.size := by
  obtain ⟨cur, hb, hs, ht⟩ := h.blk
  rcases Nat.lt_or_ge g w.heap.size with h' | h'
  · exact h'
  · simp [Array.getElem?_eq_none h'] at hb

theorem Own.sl {B : Nat} {w : World} {g cap : Nat} {L : List I} (h : Own B w g cap L) : Sl w (some ⟨g, 0, none⟩) L.length (fun i => L.getD i i0) :=
  ⟨Nat.le_trans h.le h.mx, .inr ⟨g, 0, rfl, h.lt, fun i hi j hj => by rw [Nat.zero_add]; exact h.cell i j hi hj⟩⟩

theorem Own.kept {B : Nat} {w w' : World} {g cap : Nat} {L : List I} (h : Own B w g cap L) (hb : w'.heap[g]? = w.heap[g]?) : Own B w' g cap L :=
  ⟨h.hg, h.le, h.mx, by rw [hb]; exact h.blk⟩

theorem Own.below {B : Nat} {w w' : World} {g cap : Nat} {L : List I} (h : Own B w g cap L) (hb : Below w.heap.size w w') : Own B w' g cap L :=
  h.kept (hb.block g h.lt)

theorem flat_set (L : List I) : ∀ (k j : Nat) (v : Bool) (x : I), k < L.length → j < 3 → inV x = (inV (L.getD k i0)).set j (.bool v) → (flat L).set (k * 3 + j) (.bool v) = flat (L.set k x) := by
  induction L with
  | nil => intro k j v x hk; simp at hk
  | cons y ys ih =>
    intro k j v x hk hj hx
    cases k with
    | zero =>
      simp only [flat, List.flatMap_cons, List.set_cons_zero, Nat.zero_mul, Nat.zero_add]
      rw [List.set_append_left _ _ (by simp [inV]; omega)]
      simp at hx
      rw [hx]
    | succ k =>
      simp only [flat, List.flatMap_cons, List.set_cons_succ]
      rw [List.set_append_right _ _ (by simp [inV]; omega)]
      have := ih k j v x (by simpa using hk) hj (by simpa using hx)
      simp only [flat] at this
      rw [show (k + 1) * 3 + j - (inV y).length = k * 3 + j by simp [inV]; omega, this]

theorem Own.set {B : Nat} {w : World} {g cap : Nat} {L : List I} (h : Own B w g cap L) (k j : Nat) (v : Bool) (x : I) (hk : k < L.length) (hj : j < 3) (hx : inV x = (inV (L.getD k i0)).set j (.bool v)) :
    Own B (w.setCell ⟨g, k * 3 + j, none⟩ (.bool v)) g cap (L.set k x) := by
  obtain ⟨cur, hb, hs, ht⟩ := h.blk
  refine ⟨h.hg, by simpa using h.le, h.mx, cur.setIfInBounds (k * 3 + j) (.bool v), ?_, by simpa using hs, ?_⟩
  · have hlt := h.lt
    have h' : w.heap[g] = .cells cur 29 (0, 0) := by simpa [Array.getElem?_eq_getElem hlt] using hb
    show (w.heap.modify g _)[g]? = _
    rw [Array.getElem?_eq_getElem (by simpa using hlt), Array.getElem_modify_self, h']
    rfl
  · rw [List.length_set, Array.toList_setIfInBounds, List.take_set, ht, flat_set L k j v x hk hj hx]

theorem Own.other {B : Nat} {w : World} {g cap : Nat} {L : List I} (h : Own B w g cap L) (a : Addr) (u : Value) (hne : a.block ≠ g) : Own B (w.setCell a u) g cap L :=
  h.kept (Below.heap_setCell _ _ _ _ (fun e => hne e.symm))

theorem Own.of_row {B : Nat} {w : World} {v : Value} {n : Nat} {L : List I} (h : w.ownsRow B 29 3 v n (flat L)) (hn : n = L.length) (hp : 0 < n) : ∃ g cap, v = .slice (some ⟨g, 0, none⟩) n cap ∧ Own B w g cap L := by
  obtain ⟨_, ⟨_, h0⟩ | ⟨g, cap, cur, hv, hb, hh, hl, hm, hs, ht⟩⟩ := h
  · omega
  · exact ⟨g, cap, hv, hb, by omega, hm, cur, hh, hs, by rw [← hn]; exact ht⟩

theorem info29 : (Try.prog.info? 29).map (fun i => (i.zero, i.size, i.bytes)) = some (some (.agg #[.bool false, .bool false, .bool false]), 3, 3) := by kernel_rfl

end Go.Proofs.Ytblcihpojnfhfaa
