/- The live question of the sums. -/
import Derived.Test.YtkkhkcjgpefjiaaO
import Derived.Laws.BytesArg
import Derived.Lib.SlBytesConst
namespace Go.Proofs.Ytkkhkcjgpefjiaa
set_option linter.unusedVariables false
open Go.ChangeShapes Go.WideShapes Go.ChangeAt Go.RowKit

theorem bys_new {w : World} {b : Nat} {t : TypeId} {m : Nat × Nat} (L : List Nat) (hl : L.length ≤ maxLen) (h : w.heap[b]? = some (.cells (vals L).toArray t m)) : Bys w (some ⟨b, 0, none⟩) L.length (fun i => L.getD i 0) := by
  refine ⟨hl, .inr ⟨b, 0, rfl, ?_, fun i hi => ?_⟩⟩
  · rcases Nat.lt_or_ge b w.heap.size with h' | h'
    · exact h'
    · simp [Array.getElem?_eq_none h'] at h
  · simp only [World.cell?, h, Nat.zero_add]
    simp [vals, List.getD, hi]

abbrev dig : List Nat := [49, 50, 51, 52, 53, 54, 55, 56, 57]
abbrev digF (i : Nat) : Nat := dig.getD i 0
theorem dig_lt (i : Nat) (h : i < 9) : digF i < 256 := by
  have : i = 0 ∨ i = 1 ∨ i = 2 ∨ i = 3 ∨ i = 4 ∨ i = 5 ∨ i = 6 ∨ i = 7 ∨ i = 8 := by omega
  rcases this with rfl | rfl | rfl | rfl | rfl | rfl | rfl | rfl | rfl <;> decide
theorem dig_crc : crcF digF 9 = 19255 := by decide +kernel
theorem dig_seal : sealL digF 9 = [49, 50, 51, 52, 53, 54, 55, 56, 57, 55, 75] := by decide +kernel
abbrev dsL : List Nat := [49, 50, 51, 52, 53, 54, 55, 56, 57, 55, 75]
theorem ds_ok : okF (fun i => dsL.getD i 0) (9 + 2) = true := by decide +kernel
theorem ds_bl : bl (fun i => dsL.getD i 0) 9 = dig := by decide +kernel
theorem ds_lt (i : Nat) (h : i < 9 + 2) : dsL.getD i 0 < 256 := by
  have : i = 0 ∨ i = 1 ∨ i = 2 ∨ i = 3 ∨ i = 4 ∨ i = 5 ∨ i = 6 ∨ i = 7 ∨ i = 8 ∨ i = 9 ∨ i = 10 := by omega
  rcases this with rfl | rfl | rfl | rfl | rfl | rfl | rfl | rfl | rfl | rfl | rfl <;> decide

set_option maxRecDepth 100000 in
set_option maxHeartbeats 2000000 in
theorem head_any (w : World) : Calls Try.prog 9 #[] w fun e w' => e = .returned (.bool true) ∧ Below w.heap.size w w' := by
  have kc := fun (w : World) (C : Array Value) (n c : Nat) => Lib.run_convert_bytes_const (P := Try.prog) w 22 5 C n c Try.underlying22 Try.underlying5
  go_enter Try.func9, Try.ntmps9
  go_wp2_with fail
  refine (seal_any _ 9 9 digF _ (bys_new (t := 5) (m := (9, 10)) dig (by decide) (heap_at (by first | rfl | simp))) dig_lt (fun h => by cases h) (by omega)).mono ?_
  rintro e w1 ⟨g, he, ho, q1⟩
  subst he
  rw [dig_seal] at ho ⊢
  have b1 : Below w.heap.size w w1 := Below.trans (by go_grown) (q1.mono (by simp))
  have O1 := Lib.hid ho
  have B1 := Lib.hid b1
  clear ho b1 q1
  go_wp2_with fail
  refine (open_long g 0 9 11 (fun i => dsL.getD i 0) _ O1.out.bys ds_lt (by omega) (by unfold maxLen; omega) (by omega)).mono ?_
  rintro e w2 ⟨q2, hif⟩
  rw [if_pos ds_ok] at hif
  obtain ⟨g2, he, ho2⟩ := hif
  subst he
  rw [show bl (fun i => dsL.getD i 0) (9 + 2 - 2) = dig from ds_bl] at ho2
  have O2 := Lib.hid ho2
  have O12 := Lib.hid (O1.out.below q2)
  have B2 := Lib.hid (B1.out.trans (q2.mono B1.out.size))
  clear ho2 q2 O1
  go_wp2_with fail
  refine (open_short _ 1 1 (fun _ => 0) _ (by omega)).mono ?_
  rintro e w3 ⟨q3, hif⟩
  rw [if_neg (by decide)] at hif
  subst hif
  have q3' := Below.trans (Below.alloc (Below.refl w2.heap.size w2) (Nat.le_refl _) _) (q3.mono (by simp))
  have O13 := Lib.hid (O12.out.below q3')
  have O23 := Lib.hid (O2.out.below q3')
  have B3 := Lib.hid (B2.out.trans (q3'.mono B2.out.size))
  clear q3 q3' O12 O2
  go_wp2_with fail
  refine (sum_any _ 9 9 digF _ (bys_new (t := 5) (m := (9, 10)) dig (by decide) (heap_at (by first | rfl | simp))) dig_lt).mono ?_
  rintro e w4 ⟨rfl, q4⟩
  rw [dig_crc]
  have q4' := Below.trans (Below.alloc (Below.refl w3.heap.size w3) (Nat.le_refl _) _) (q4.mono (by simp))
  have O14 := Lib.hid (O13.out.below q4')
  have O24 := Lib.hid (O23.out.below q4')
  have B4 := Lib.hid (B3.out.trans (q4'.mono B3.out.size))
  clear q4 q4' O13 O23
  go_wp2_with fail
  refine (sum_any none 0 0 (fun _ => 0) _ ⟨Nat.zero_le _, .inl rfl⟩ (fun i hi => absurd hi (Nat.not_lt_zero _))).mono ?_
  rintro e w5 ⟨rfl, q5⟩
  rw [show crcF (fun _ => 0) 0 = 65535 from rfl]
  have O15 := O14.out.below q5
  have O25 := O24.out.below q5
  have B5 := Lib.hid (B4.out.trans (q5.mono B4.out.size))
  clear q5 O14 O24
  obtain ⟨b6, o6, ha6, _, hc6⟩ := O15.bys.pos (by decide)
  simp at ha6
  obtain ⟨rfl, rfl⟩ := ha6
  have c9 : w5.cell? ⟨g, 9, none⟩ = some (.int .u8 55) := by simpa using hc6 9 (by decide)
  have c10 : w5.cell? ⟨g, 10, none⟩ = some (.int .u8 75) := by simpa using hc6 10 (by decide)
  obtain ⟨b7, o7, ha7, _, hc7⟩ := O25.bys.pos (by decide)
  simp at ha7
  obtain ⟨rfl, rfl⟩ := ha7
  have hconv := run_convert_bytes_arg (P := Try.prog) w5 22 5 Try.underlying22 Try.underlying5 g2 0 9 9 [49, 50, 51, 52, 53, 54, 55, 56, 57] rfl (fun i hi => by
    have h := hc7 i hi
    rw [h]
    have : i = 0 ∨ i = 1 ∨ i = 2 ∨ i = 3 ∨ i = 4 ∨ i = 5 ∨ i = 6 ∨ i = 7 ∨ i = 8 := by omega
    rcases this with rfl | rfl | rfl | rfl | rfl | rfl | rfl | rfl | rfl <;> rfl) 9 Try.underlying9
  have hs : strOfNums [49, 50, 51, 52, 53, 54, 55, 56, 57] = ⟨#[49, 50, 51, 52, 53, 54, 55, 56, 57]⟩ := rfl
  rw [hs] at hconv
  clear hs hc6 hc7 O15 O25
  go_wp2_with fail
  go_ret
  exact ⟨rfl, B5.out⟩
end Go.Proofs.Ytkkhkcjgpefjiaa
