/- The live question of the votes. -/
import Derived.Test.YtblcihpojnfhfaaA
namespace Go.Proofs.Ytblcihpojnfhfaa
set_option linter.unusedVariables false
open Go.ChangeShapes Go.WideShapes Go.ChangeAt Go.RowKit

theorem flat_get (l : List I) : ∀ (i j : Nat), i < l.length → j < 3 → (l.flatMap inV)[i * 3 + j]? = (inV (l.getD i (false, false, false)))[j]? := by
  induction l with
  | nil => intro i j hi _; simp at hi
  | cons x xs ih =>
    intro i j hi hj
    cases i with
    | zero =>
      rw [List.flatMap_cons, List.getElem?_append_left (by simp [inV]; omega)]
      simp
    | succ i =>
      rw [List.flatMap_cons, List.getElem?_append_right (by simp [inV]; omega)]
      have := ih i j (by simpa using hi) hj
      simp only [inV, List.length_cons, List.length_nil] at this ⊢
      rw [show (i + 1) * 3 + j - (0 + 1 + 1 + 1) = i * 3 + j by omega]
      simpa using this

theorem sl_new {w : World} {b : Nat} {t : TypeId} {m : Nat × Nat} (l : List I) (hl : l.length ≤ maxLen) (h : w.heap[b]? = some (.cells (l.flatMap inV).toArray t m)) : Sl w (some ⟨b, 0, none⟩) l.length (fun i => l.getD i (false, false, false)) := by
  refine ⟨hl, .inr ⟨b, 0, rfl, ?_, fun i hi j hj => ?_⟩⟩
  · rcases Nat.lt_or_ge b w.heap.size with h' | h'
    · exact h'
    · simp [Array.getElem?_eq_none h'] at h
  · rw [← flat_get l i j hi hj]
    simp [World.cell?, h]

theorem heap_at {W : World} {o : Obj} {k : Nat} (h : k = W.heap.size) : (W.alloc o).heap[k]? = some o := by subst h; exact heap_alloc_new W o

structure Four (n : Nat) (w : World) : Prop where
  c00 : w.cell? ⟨n, 0, none⟩ = some (.bool true)
  c01 : w.cell? ⟨n, 1, none⟩ = some (.bool false)
  c02 : w.cell? ⟨n, 2, none⟩ = some (.bool false)
  c10 : w.cell? ⟨n + 1, 0, none⟩ = some (.bool false)
  c11 : w.cell? ⟨n + 1, 1, none⟩ = some (.bool false)
  c12 : w.cell? ⟨n + 1, 2, none⟩ = some (.bool false)
  c20 : w.cell? ⟨n + 1 + 1, 0, none⟩ = some (.bool false)
  c21 : w.cell? ⟨n + 1 + 1, 1, none⟩ = some (.bool true)
  c22 : w.cell? ⟨n + 1 + 1, 2, none⟩ = some (.bool false)
  c30 : w.cell? ⟨n + 1 + 1 + 1, 0, none⟩ = some (.bool true)
  c31 : w.cell? ⟨n + 1 + 1 + 1, 1, none⟩ = some (.bool false)
  c32 : w.cell? ⟨n + 1 + 1 + 1, 2, none⟩ = some (.bool true)

theorem Four.below {n B : Nat} {w w' : World} (h : Four n w) (hb : Below B w w') (hB : n + 3 < B) : Four n w' :=
  ⟨(hb.cell (by simp; omega)).trans h.c00, (hb.cell (by simp; omega)).trans h.c01, (hb.cell (by simp; omega)).trans h.c02, (hb.cell (by simp; omega)).trans h.c10, (hb.cell (by simp; omega)).trans h.c11, (hb.cell (by simp; omega)).trans h.c12, (hb.cell (by simp; omega)).trans h.c20, (hb.cell (by simp; omega)).trans h.c21, (hb.cell (by simp; omega)).trans h.c22, (hb.cell (by simp; omega)).trans h.c30, (hb.cell (by simp; omega)).trans h.c31, (hb.cell (by simp; omega)).trans h.c32⟩

set_option maxRecDepth 100000 in
set_option maxHeartbeats 2000000 in
theorem head_any (w : World) : Calls Try.prog 8 #[] w fun e w' => e = .returned (.bool true) ∧ Below w.heap.size w w' := by
  go_enter Try.func8, Try.ntmps8
  go_wp2_with fail
  refine (trips_all 2 _ 3 3 _ _ (sl_new (t := 29) (m := (0, 0)) [(true, false, false), (false, false, false), (false, true, false)] (by decide) (heap_at (by first | rfl | simp)))).mono ?_
  rintro e w1 ⟨rfl, q0⟩
  rw [show (tripsF 2 (fun i => ([(true, false, false), (false, false, false), (false, true, false)] : List I).getD i (false, false, false)) 3) = true from rfl]
  have hb0 : Below w.heap.size w w1 := Below.trans (by go_grown) (q0.mono (by first | omega | (simp; omega)))
  have z0 : w.heap.size + 4 < w1.heap.size := by have := q0.size; simp at this; omega
  have F0 : Four w.heap.size w1 := Four.below (by constructor <;> go_simp) q0 (by simp)
  have G0 := Lib.hid F0
  clear q0
  obtain ⟨c00, c01, c02, c10, c11, c12, c20, c21, c22, c30, c31, c32⟩ := F0
  go_wp2_with fail
  refine (trips_all 2 _ 3 3 _ _ (sl_new (t := 29) (m := (0, 0)) [(true, false, false), (false, false, false), (false, false, false)] (by decide) (heap_at (by first | rfl | simp)))).mono ?_
  rintro e w2 ⟨rfl, q1⟩
  rw [show (tripsF 2 (fun i => ([(true, false, false), (false, false, false), (false, false, false)] : List I).getD i (false, false, false)) 3) = false from rfl]
  have hb1 : Below w.heap.size w w2 := hb0.trans (Below.trans (by go_grown) (q1.mono (by first | omega | (simp; omega))))
  have z1 : w1.heap.size < w2.heap.size := by have := q1.size; simp at this; omega
  have F1 : Four w.heap.size w2 := (G0.out.below (Below.alloc (Below.refl _ _) (Nat.le_refl _) _) (by omega)).below q1 (by simp; omega)
  have G1 := Lib.hid F1
  clear q1 c00 c01 c02 c10 c11 c12 c20 c21 c22 c30 c31 c32
  obtain ⟨c00, c01, c02, c10, c11, c12, c20, c21, c22, c30, c31, c32⟩ := F1
  go_wp2_with fail
  refine (trips_all 2 _ 2 2 _ _ (sl_new (t := 29) (m := (0, 0)) [(true, false, false), (true, false, true)] (by decide) (heap_at (by first | rfl | simp)))).mono ?_
  rintro e w3 ⟨rfl, q2⟩
  rw [show (tripsF 2 (fun i => ([(true, false, false), (true, false, true)] : List I).getD i (false, false, false)) 2) = true from rfl]
  have hb2 : Below w.heap.size w w3 := hb1.trans (Below.trans (by go_grown) (q2.mono (by first | omega | (simp; omega))))
  have z2 : w2.heap.size < w3.heap.size := by have := q2.size; simp at this; omega
  have F2 : Four w.heap.size w3 := (G1.out.below (Below.alloc (Below.refl _ _) (Nat.le_refl _) _) (by omega)).below q2 (by simp; omega)
  have G2 := Lib.hid F2
  clear q2 c00 c01 c02 c10 c11 c12 c20 c21 c22 c30 c31 c32
  obtain ⟨c00, c01, c02, c10, c11, c12, c20, c21, c22, c30, c31, c32⟩ := F2
  go_wp2_with fail
  refine (trips_all 1 _ 1 1 _ _ (sl_new (t := 29) (m := (0, 0)) [(true, false, true)] (by decide) (heap_at (by first | rfl | simp)))).mono ?_
  rintro e w4 ⟨rfl, q3⟩
  rw [show (tripsF 1 (fun i => ([(true, false, true)] : List I).getD i (false, false, false)) 1) = false from rfl]
  have hb3 : Below w.heap.size w w4 := hb2.trans (Below.trans (by go_grown) (q3.mono (by first | omega | (simp; omega))))
  have z3 : w3.heap.size < w4.heap.size := by have := q3.size; simp at this; omega
  have F3 : Four w.heap.size w4 := (G2.out.below (Below.alloc (Below.refl _ _) (Nat.le_refl _) _) (by omega)).below q3 (by simp; omega)
  have G3 := Lib.hid F3
  clear q3 c00 c01 c02 c10 c11 c12 c20 c21 c22 c30 c31 c32
  obtain ⟨c00, c01, c02, c10, c11, c12, c20, c21, c22, c30, c31, c32⟩ := F3
  go_wp2_with fail
  refine (need_all 2 _ 2 2 _ _ (sl_new (t := 29) (m := (0, 0)) [(true, false, false), (true, false, true)] (by decide) (heap_at (by first | rfl | simp)))).mono ?_
  rintro e w5 ⟨rfl, q4⟩
  rw [show (needF 2 (cnt votesF (fun i => ([(true, false, false), (true, false, true)] : List I).getD i (false, false, false)) 2)) = 1 from rfl]
  have hb4 : Below w.heap.size w w5 := hb3.trans (Below.trans (by go_grown) (q4.mono (by first | omega | (simp; omega))))
  have z4 : w4.heap.size < w5.heap.size := by have := q4.size; simp at this; omega
  have F4 : Four w.heap.size w5 := (G3.out.below (Below.alloc (Below.refl _ _) (Nat.le_refl _) _) (by omega)).below q4 (by simp; omega)
  have G4 := Lib.hid F4
  clear q4 c00 c01 c02 c10 c11 c12 c20 c21 c22 c30 c31 c32
  obtain ⟨c00, c01, c02, c10, c11, c12, c20, c21, c22, c30, c31, c32⟩ := F4
  go_wp2_with fail
  refine (yes_all _ 4 4 _ _ (sl_new (t := 29) (m := (0, 0)) [(true, false, false), (false, true, false), (true, false, true), (false, false, false)] (by decide) (heap_at (by first | rfl | simp)))).mono ?_
  rintro e w6 ⟨rfl, q5⟩
  rw [show (cnt yesF (fun i => ([(true, false, false), (false, true, false), (true, false, true), (false, false, false)] : List I).getD i (false, false, false)) 4) = 2 from rfl]
  have hb5 : Below w.heap.size w w6 := hb4.trans (Below.trans (by go_grown) (q5.mono (by first | omega | (simp; omega))))
  have z5 : w5.heap.size < w6.heap.size := by have := q5.size; simp at this; omega
  have F5 : Four w.heap.size w6 := (G4.out.below (Below.alloc (Below.refl _ _) (Nat.le_refl _) _) (by omega)).below q5 (by simp; omega)
  have G5 := Lib.hid F5
  clear q5 c00 c01 c02 c10 c11 c12 c20 c21 c22 c30 c31 c32
  obtain ⟨c00, c01, c02, c10, c11, c12, c20, c21, c22, c30, c31, c32⟩ := F5
  go_wp2_with fail
  refine (healthy_all 2 _ 2 2 _ _ (sl_new (t := 29) (m := (0, 0)) [(true, false, false), (false, false, false)] (by decide) (heap_at (by first | rfl | simp)))).mono ?_
  rintro e w7 ⟨rfl, q6⟩
  rw [show (healthyF 2 (fun i => ([(true, false, false), (false, false, false)] : List I).getD i (false, false, false)) 2) = true from rfl]
  have hb6 : Below w.heap.size w w7 := hb5.trans (Below.trans (by go_grown) (q6.mono (by first | omega | (simp; omega))))
  have z6 : w6.heap.size < w7.heap.size := by have := q6.size; simp at this; omega
  have F6 : Four w.heap.size w7 := (G5.out.below (Below.alloc (Below.refl _ _) (Nat.le_refl _) _) (by omega)).below q6 (by simp; omega)
  have G6 := Lib.hid F6
  clear q6 c00 c01 c02 c10 c11 c12 c20 c21 c22 c30 c31 c32
  obtain ⟨c00, c01, c02, c10, c11, c12, c20, c21, c22, c30, c31, c32⟩ := F6
  go_wp2_with fail
  refine (healthy_all 2 _ 2 2 _ _ (sl_new (t := 29) (m := (0, 0)) [(false, false, false), (true, false, true)] (by decide) (heap_at (by first | rfl | simp)))).mono ?_
  rintro e w8 ⟨rfl, q7⟩
  rw [show (healthyF 2 (fun i => ([(false, false, false), (true, false, true)] : List I).getD i (false, false, false)) 2) = false from rfl]
  have hb7 : Below w.heap.size w w8 := hb6.trans (Below.trans (by go_grown) (q7.mono (by first | omega | (simp; omega))))
  have z7 : w7.heap.size < w8.heap.size := by have := q7.size; simp at this; omega
  have F7 : Four w.heap.size w8 := (G6.out.below (Below.alloc (Below.refl _ _) (Nat.le_refl _) _) (by omega)).below q7 (by simp; omega)
  have G7 := Lib.hid F7
  clear q7 c00 c01 c02 c10 c11 c12 c20 c21 c22 c30 c31 c32
  obtain ⟨c00, c01, c02, c10, c11, c12, c20, c21, c22, c30, c31, c32⟩ := F7
  go_wp2_with fail
  go_ret
  exact ⟨rfl, hb7⟩
end Go.Proofs.Ytblcihpojnfhfaa
