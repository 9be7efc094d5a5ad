/- Sectors, laid over. -/
import Derived.Test.YtpjddinbbglgmaaDb
namespace Go.Proofs.Ytpjddinbbglgmaa
set_option linter.unusedVariables false
set_option linter.unusedSimpArgs false
open Go.ChangeShapes Go.WideShapes Go.ChangeAt Go.RowKit

theorem ext_getD {L M : List Nat} (hl : L.length = M.length) (h : ∀ k, k < L.length → L.getD k 0 = M.getD k 0) : L = M := by
  apply List.ext_getElem hl
  intro k h1 h2
  have := h k h1
  simpa [List.getD, List.getElem?_eq_getElem h1, List.getElem?_eq_getElem h2] using this
theorem getD_append (F X : List Nat) (k : Nat) : (F ++ X).getD k 0 = if k < F.length then F.getD k 0 else X.getD (k - F.length) 0 := by
  by_cases h : k < F.length
  · rw [if_pos h]; simp [List.getD, List.getElem?_append_left h]
  · rw [if_neg h]; simp [List.getD, List.getElem?_append_right (Nat.not_lt.1 h)]
theorem getD_drop (X : List Nat) (n k : Nat) : (X.drop n).getD k 0 = X.getD (n + k) 0 := by
  simp [List.getD, List.getElem?_drop]
theorem sec_splice {L : List Nat} {m i : Nat} (hl : L.length = m * 64) (hi : i < m) (F : List Nat) (hF : F.length ≤ 64) (j : Nat) (hj : j < m) : sec (splice L (i * 64) F) j = if j = i then F ++ (sec L i).drop F.length else sec L j := by
  have h1 : (i + 1) * 64 ≤ m * 64 := Nat.mul_le_mul_right _ hi
  have h2 : (j + 1) * 64 ≤ m * 64 := Nat.mul_le_mul_right _ hj
  have hfit : i * 64 + F.length ≤ L.length := by omega
  have hl2 : (splice L (i * 64) F).length = m * 64 := by rw [length_splice _ _ _ hfit]; exact hl
  have s1 := sec_len hl2 hj
  by_cases hji : j = i
  · rw [if_pos hji]
    subst hji
    apply ext_getD
    · rw [s1, List.length_append, List.length_drop, sec_len hl hi]; omega
    · intro k hk
      rw [s1] at hk
      rw [getD_sec _ _ _ hk, getD_splice _ _ _ _ hfit, getD_append]
      by_cases hkF : k < F.length
      · rw [if_pos hkF, if_pos (by omega)]; congr 1; omega
      · rw [if_neg hkF, if_neg (by omega), getD_drop, show F.length + (k - F.length) = k by omega, getD_sec _ _ _ hk]
  · rw [if_neg hji]
    apply ext_getD
    · rw [s1, sec_len hl hj]
    · intro k hk
      rw [s1] at hk
      rw [getD_sec _ _ _ hk, getD_splice _ _ _ _ hfit, getD_sec _ _ _ hk]
      rw [if_neg]
      rintro ⟨q1, q2⟩
      rcases Nat.lt_or_ge j i with q | q
      · have := Nat.mul_le_mul_right 64 (show j + 1 ≤ i by omega); omega
      · have := Nat.mul_le_mul_right 64 (show i + 1 ≤ j by omega); omega

/-- What the two blocks hold, step by step. -/
structure Ht (p g : Nat) (P8 cur : Array Value) (w W : World) : Prop where
  ne : p ≠ g
  hp : W.heap[p]? = some (.cells P8 50 (0, 0))
  hg : W.heap[g]? = some (.cells cur 9 (0, 0))
  fr : Fr p g none w W
theorem Ht.setP {p g : Nat} {P8 cur : Array Value} {w W : World} (h : Ht p g P8 cur w W) (k : Nat) (v : Value) : Ht p g (P8.setIfInBounds k v) cur w (W.setCell ⟨p, k, none⟩ v) :=
  ⟨h.ne, heap_setCell_same h.hp, (heap_setCell_other h.ne.symm).trans h.hg, h.fr.setCell k v⟩
theorem Ht.setG {p g : Nat} {P8 cur : Array Value} {w W : World} (h : Ht p g P8 cur w W) (k : Nat) (v : Value) : Ht p g P8 (cur.setIfInBounds k v) w (W.setCell ⟨g, k, none⟩ v) :=
  ⟨h.ne, (heap_setCell_other h.ne).trans h.hp, heap_setCell_same h.hg, h.fr.setS k v⟩
theorem Ht.drew {p g : Nat} {P8 cur : Array Value} {w W : World} (h : Ht p g P8 cur w W) : Ht p g P8 cur w W.drew :=
  ⟨h.ne, h.hp, h.hg, h.fr.trans (Fr.of_below (Below.refl _ _).drew)⟩
theorem Ht.below {p g : Nat} {P8 cur : Array Value} {w W W' : World} (h : Ht p g P8 cur w W) (z : Below W.heap.size W W') : Ht p g P8 cur w W' :=
  ⟨h.ne, (z.block p (blk_lt h.hp)).trans h.hp, (z.block g (blk_lt h.hg)).trans h.hg, h.fr.trans (Fr.of_below z)⟩
theorem Ht.cellP {p g : Nat} {P8 cur : Array Value} {w W : World} (h : Ht p g P8 cur w W) (k : Nat) : W.cell? ⟨p, k, none⟩ = P8[k]? ∧ W.frozen? ⟨p, k, none⟩ = false := by
  simp [World.cell?, World.frozen?, h.hp]
theorem Ht.cellG {p g : Nat} {P8 cur : Array Value} {w W : World} (h : Ht p g P8 cur w W) (k : Nat) : W.cell? ⟨g, k, none⟩ = cur[k]? ∧ W.frozen? ⟨g, k, none⟩ = false := by
  simp [World.cell?, World.frozen?, h.hg]

/-- A sector laid over: the document's disk behind it. -/
theorem Rk.laid {B : Nat} {w w' : World} {p g c m wr wr' : Nat} {ct ct' : Option (Nat × Nat)} {dn dn' : Bool} {L : List Nat} (h : Rk B w p g c m ct dn wr L) {cur : Array Value} (hc : ∀ i, i < m → cur[i]? = some (.string (strN (sec L i)))) {i : Nat} (hi : i < m) (F : List Nat) (hF : F.length ≤ 64) (hby : ∀ b ∈ F, b < 256) {by' : Nat} (hb : by' ≤ 64) (hct : ∀ x, ct' = some x → by' = x.2) {torn : Int} {was meant : ByteArray}
    (ht : Ht p g #[.slice (some ⟨g, 0, none⟩) m c, .bool dn', .int .i64 (afV ct'), .int .i64 (by' : Int), .int .i64 (wr' : Int), .int .i64 torn, .string was, .string meant] (cur.setIfInBounds i (.string (strN (F ++ (sec L i).drop F.length)))) w w') : Rk B w' p g c m ct' dn' wr' (splice L (i * 64) F) := by
  have h1 : (i + 1) * 64 ≤ m * 64 := Nat.mul_le_mul_right _ hi
  have hfit : i * 64 + F.length ≤ L.length := by have := h.len; omega
  refine ⟨h.hp, h.hg, h.ne, ⟨by', torn, was, meant, ht.hp, hb, hct⟩, ⟨_, ht.hg, fun j hj => ?_⟩, ?_, h.m1, h.m2, splice_by h.by' hby⟩
  · rw [sec_splice h.len hi F hF j hj, Array.getElem?_setIfInBounds]
    have hs : i < cur.size := by
      have := hc i hi
      rcases Nat.lt_or_ge i cur.size with q | q
      · exact q
      · rw [Array.getElem?_eq_none q] at this; cases this
    by_cases hji : j = i
    · subst hji; simp [hs]
    · rw [if_neg (fun e => hji e.symm), if_neg hji]; exact hc j hj
  · rw [length_splice _ _ _ hfit]; exact h.len
end Go.Proofs.Ytpjddinbbglgmaa
