/- PduBounds. -/
import Derived.Test.YtcmolkhaajcmpaaX
namespace Go.Proofs.Ytcmolkhaajcmpaa
set_option linter.unusedVariables false
set_option linter.unusedSimpArgs false
open Go.ChangeShapes Go.WideShapes Go.ChangeAt Go.RowKit

def moK (k : Int) : Int := if 2 < k then 125 else 2000
theorem right_read {k ad qy : Int} (vs : Option Addr) (hk : k = 1 ∨ k = 2 ∨ k = 3 ∨ k = 4) (ha : 0 ≤ ad ∧ ad ≤ 65535) (hq : 0 ≤ qy ∧ qy ≤ 65535) :
    rightR ⟨k, ad, qy, vs, 0, 0, [], 0⟩ = (decide (1 ≤ qy) && decide (qy ≤ moK k) && decide (ad + qy ≤ 65536)) := by
  obtain ⟨a1, a2⟩ := ha
  obtain ⟨q1, q2⟩ := hq
  rw [Bool.eq_iff_iff]
  rcases hk with rfl | rfl | rfl | rfl <;>
    simp [rightR, formOf, fo, moK, has, fits, isPl, allB, sizedF] <;> omega
theorem right_vals {k ad qy : Int} (vs : Option Addr) (hk : k = 1 ∨ k = 2 ∨ k = 3 ∨ k = 4) :
    rightR ⟨k, ad, qy, vs, 1, 1, [0], 0⟩ = false := by
  rcases hk with rfl | rfl | rfl | rfl <;>
    simp [rightR, formOf, fo, has]
theorem ok_read {k ad qy : Int} (w : World) (hk : k = 1 ∨ k = 2 ∨ k = 3 ∨ k = 4) (ha : 0 ≤ ad ∧ ad ≤ 65535) (hq : 0 ≤ qy ∧ qy ≤ 65535) : Rq.ok ⟨k, ad, qy, none, 0, 0, [], 0⟩ w :=
  ⟨⟨Wds.nil _ _, fun _ => ⟨rfl, rfl⟩, Nat.le_refl _, Nat.zero_le _⟩, by show (Lit.int .i64 k).wf = true; rcases hk with rfl | rfl | rfl | rfl <;> decide, by simp [Lit.wf, IntKind.min, IntKind.max, IntKind.signed, IntKind.bits]; omega, by simp [Lit.wf, IntKind.min, IntKind.max, IntKind.signed, IntKind.bits]; omega, by show (Lit.int .i64 0).wf = true; decide⟩
theorem ok_vals {k ad qy : Int} (w : World) (hk : k = 1 ∨ k = 2 ∨ k = 3 ∨ k = 4) (ha : 0 ≤ ad ∧ ad ≤ 65535) (hq : 0 ≤ qy ∧ qy ≤ 65535) : Rq.ok ⟨k, ad, qy, some ⟨w.heap.size, 0, none⟩, 1, 1, [0], 0⟩ (w.alloc (.cells #[.int .u16 0] 33 (0, 0))) :=
  ⟨⟨wds_block (t := 33) (m := (0, 0)) [0] (by unfold maxLen; decide) (by decide) (heap_alloc_new _ _), (fun e => by cases e), Nat.le_refl _, by unfold maxLen; show 1 ≤ _; omega⟩, by show (Lit.int .i64 k).wf = true; rcases hk with rfl | rfl | rfl | rfl <;> decide, by simp [Lit.wf, IntKind.min, IntKind.max, IntKind.signed, IntKind.bits]; omega, by simp [Lit.wf, IntKind.min, IntKind.max, IntKind.signed, IntKind.bits]; omega, by show (Lit.int .i64 0).wf = true; decide⟩

set_option maxRecDepth 100000 in
set_option maxHeartbeats 8000000 in
theorem bounds_1 (fc ad qy : Int) (w : World) (hr : fc % 4 = 0) (hf : 0 ≤ fc ∧ fc ≤ 255) (ha : 0 ≤ ad ∧ ad ≤ 65535) (hq : 0 ≤ qy ∧ qy ≤ 65535) : Calls Try.prog 6 #[.int .u8 fc, .int .u16 ad, .int .u16 qy] w fun e w' => e = .returned (.bool true) ∧ Below w.heap.size w w' := by
  have hk : (1 : Int) = 1 ∨ (1 : Int) = 2 ∨ (1 : Int) = 3 ∨ (1 : Int) = 4 := by decide
  have er : fc.tmod 4 = 0 := by rw [Int.tmod_eq_emod_of_nonneg hf.1]; exact hr
  have r1 := right_read (k := 1) none hk ha hq
  have R2 := Lib.hid (fun vs => right_vals (k := 1) (ad := ad) (qy := qy) vs hk)
  have O1 := Lib.hid (fun W => right_any ⟨1, ad, qy, none, 0, 0, [], 0⟩ W (ok_read W hk ha hq))
  have O2 := Lib.hid (fun (W : World) => right_any ⟨1, ad, qy, some ⟨W.heap.size, 0, none⟩, 1, 1, [0], 0⟩ _ (ok_vals W hk ha hq))
  simp only [rv] at O1 O2
  rw [show moK 1 = 2000 by decide] at r1
  obtain ⟨a1, a2⟩ := ha
  obtain ⟨b1, b2⟩ := hq
  obtain ⟨f1, f2⟩ := hf
  clear hk hr
  by_cases c1 : 1 ≤ qy
  · by_cases c2 : qy ≤ 2000
    · by_cases c3 : ad + qy ≤ 65536
      · rw [show (decide (1 ≤ qy) && decide (qy ≤ 2000) && decide (ad + qy ≤ 65536)) = true by simp; omega] at r1
        have R1 := Lib.hid r1
        clear r1
        go_enter Try.func6, Try.ntmps6
        go_wp2_with fail
        refine (head_any _).mono ?_
        rintro e w1 ⟨rfl, z1⟩
        have Z1 := Lib.hid z1
        clear z1
        go_wp2_with fail
        refine (O1.out _).mono ?_
        rw [R1.out]
        rintro e w2 ⟨rfl, z2⟩
        have Z2 := Lib.hid (Z1.out.trans ((((Below.refl w1.heap.size w1).alloc (Nat.le_refl _) _).trans (z2.mono (by simp))).mono Z1.out.size))
        clear z2
        go_wp2_with fail
        refine (O2.out _).mono ?_
        rw [R2.out]
        rintro e w3 ⟨rfl, z3⟩
        have Z3 := Lib.hid (Z2.out.trans ((((Below.refl w2.heap.size w2).alloc (Nat.le_refl _) _).trans (z3.mono (by simp))).mono Z2.out.size))
        clear z3
        go_wp2_with fail
        go_ret
        exact ⟨rfl, Z3.out⟩
      · have d3 : decide (ad + qy ≤ 65536) = false := by simp; omega
        rw [show (decide (1 ≤ qy) && decide (qy ≤ 2000) && decide (ad + qy ≤ 65536)) = false by simp; omega] at r1
        have R1 := Lib.hid r1
        clear r1
        go_enter Try.func6, Try.ntmps6
        go_wp2_with fail
        refine (head_any _).mono ?_
        rintro e w1 ⟨rfl, z1⟩
        have Z1 := Lib.hid z1
        clear z1
        go_wp2_with fail
        refine (O1.out _).mono ?_
        rw [R1.out]
        rintro e w2 ⟨rfl, z2⟩
        have Z2 := Lib.hid (Z1.out.trans ((((Below.refl w1.heap.size w1).alloc (Nat.le_refl _) _).trans (z2.mono (by simp))).mono Z1.out.size))
        clear z2
        go_wp2_with fail
        refine (O2.out _).mono ?_
        rw [R2.out]
        rintro e w3 ⟨rfl, z3⟩
        have Z3 := Lib.hid (Z2.out.trans ((((Below.refl w2.heap.size w2).alloc (Nat.le_refl _) _).trans (z3.mono (by simp))).mono Z2.out.size))
        clear z3
        go_wp2_with fail
        go_ret
        exact ⟨rfl, Z3.out⟩
    · rw [show (decide (1 ≤ qy) && decide (qy ≤ 2000) && decide (ad + qy ≤ 65536)) = false by simp; omega] at r1
      have R1 := Lib.hid r1
      clear r1
      go_enter Try.func6, Try.ntmps6
      go_wp2_with fail
      refine (head_any _).mono ?_
      rintro e w1 ⟨rfl, z1⟩
      have Z1 := Lib.hid z1
      clear z1
      go_wp2_with fail
      refine (O1.out _).mono ?_
      rw [R1.out]
      rintro e w2 ⟨rfl, z2⟩
      have Z2 := Lib.hid (Z1.out.trans ((((Below.refl w1.heap.size w1).alloc (Nat.le_refl _) _).trans (z2.mono (by simp))).mono Z1.out.size))
      clear z2
      go_wp2_with fail
      refine (O2.out _).mono ?_
      rw [R2.out]
      rintro e w3 ⟨rfl, z3⟩
      have Z3 := Lib.hid (Z2.out.trans ((((Below.refl w2.heap.size w2).alloc (Nat.le_refl _) _).trans (z3.mono (by simp))).mono Z2.out.size))
      clear z3
      go_wp2_with fail
      go_ret
      exact ⟨rfl, Z3.out⟩
  · rw [show (decide (1 ≤ qy) && decide (qy ≤ 2000) && decide (ad + qy ≤ 65536)) = false by simp; omega] at r1
    have R1 := Lib.hid r1
    clear r1
    go_enter Try.func6, Try.ntmps6
    go_wp2_with fail
    refine (head_any _).mono ?_
    rintro e w1 ⟨rfl, z1⟩
    have Z1 := Lib.hid z1
    clear z1
    go_wp2_with fail
    refine (O1.out _).mono ?_
    rw [R1.out]
    rintro e w2 ⟨rfl, z2⟩
    have Z2 := Lib.hid (Z1.out.trans ((((Below.refl w1.heap.size w1).alloc (Nat.le_refl _) _).trans (z2.mono (by simp))).mono Z1.out.size))
    clear z2
    go_wp2_with fail
    refine (O2.out _).mono ?_
    rw [R2.out]
    rintro e w3 ⟨rfl, z3⟩
    have Z3 := Lib.hid (Z2.out.trans ((((Below.refl w2.heap.size w2).alloc (Nat.le_refl _) _).trans (z3.mono (by simp))).mono Z2.out.size))
    clear z3
    go_wp2_with fail
    go_ret
    exact ⟨rfl, Z3.out⟩
set_option maxRecDepth 100000 in
set_option maxHeartbeats 8000000 in
theorem bounds_2 (fc ad qy : Int) (w : World) (hr : fc % 4 = 1) (hf : 0 ≤ fc ∧ fc ≤ 255) (ha : 0 ≤ ad ∧ ad ≤ 65535) (hq : 0 ≤ qy ∧ qy ≤ 65535) : Calls Try.prog 6 #[.int .u8 fc, .int .u16 ad, .int .u16 qy] w fun e w' => e = .returned (.bool true) ∧ Below w.heap.size w w' := by
  have hk : (2 : Int) = 1 ∨ (2 : Int) = 2 ∨ (2 : Int) = 3 ∨ (2 : Int) = 4 := by decide
  have er : fc.tmod 4 = 1 := by rw [Int.tmod_eq_emod_of_nonneg hf.1]; exact hr
  have r1 := right_read (k := 2) none hk ha hq
  have R2 := Lib.hid (fun vs => right_vals (k := 2) (ad := ad) (qy := qy) vs hk)
  have O1 := Lib.hid (fun W => right_any ⟨2, ad, qy, none, 0, 0, [], 0⟩ W (ok_read W hk ha hq))
  have O2 := Lib.hid (fun (W : World) => right_any ⟨2, ad, qy, some ⟨W.heap.size, 0, none⟩, 1, 1, [0], 0⟩ _ (ok_vals W hk ha hq))
  simp only [rv] at O1 O2
  rw [show moK 2 = 2000 by decide] at r1
  obtain ⟨a1, a2⟩ := ha
  obtain ⟨b1, b2⟩ := hq
  obtain ⟨f1, f2⟩ := hf
  clear hk hr
  by_cases c1 : 1 ≤ qy
  · by_cases c2 : qy ≤ 2000
    · by_cases c3 : ad + qy ≤ 65536
      · rw [show (decide (1 ≤ qy) && decide (qy ≤ 2000) && decide (ad + qy ≤ 65536)) = true by simp; omega] at r1
        have R1 := Lib.hid r1
        clear r1
        go_enter Try.func6, Try.ntmps6
        go_wp2_with fail
        refine (head_any _).mono ?_
        rintro e w1 ⟨rfl, z1⟩
        have Z1 := Lib.hid z1
        clear z1
        go_wp2_with fail
        refine (O1.out _).mono ?_
        rw [R1.out]
        rintro e w2 ⟨rfl, z2⟩
        have Z2 := Lib.hid (Z1.out.trans ((((Below.refl w1.heap.size w1).alloc (Nat.le_refl _) _).trans (z2.mono (by simp))).mono Z1.out.size))
        clear z2
        go_wp2_with fail
        refine (O2.out _).mono ?_
        rw [R2.out]
        rintro e w3 ⟨rfl, z3⟩
        have Z3 := Lib.hid (Z2.out.trans ((((Below.refl w2.heap.size w2).alloc (Nat.le_refl _) _).trans (z3.mono (by simp))).mono Z2.out.size))
        clear z3
        go_wp2_with fail
        go_ret
        exact ⟨rfl, Z3.out⟩
      · have d3 : decide (ad + qy ≤ 65536) = false := by simp; omega
        rw [show (decide (1 ≤ qy) && decide (qy ≤ 2000) && decide (ad + qy ≤ 65536)) = false by simp; omega] at r1
        have R1 := Lib.hid r1
        clear r1
        go_enter Try.func6, Try.ntmps6
        go_wp2_with fail
        refine (head_any _).mono ?_
        rintro e w1 ⟨rfl, z1⟩
        have Z1 := Lib.hid z1
        clear z1
        go_wp2_with fail
        refine (O1.out _).mono ?_
        rw [R1.out]
        rintro e w2 ⟨rfl, z2⟩
        have Z2 := Lib.hid (Z1.out.trans ((((Below.refl w1.heap.size w1).alloc (Nat.le_refl _) _).trans (z2.mono (by simp))).mono Z1.out.size))
        clear z2
        go_wp2_with fail
        refine (O2.out _).mono ?_
        rw [R2.out]
        rintro e w3 ⟨rfl, z3⟩
        have Z3 := Lib.hid (Z2.out.trans ((((Below.refl w2.heap.size w2).alloc (Nat.le_refl _) _).trans (z3.mono (by simp))).mono Z2.out.size))
        clear z3
        go_wp2_with fail
        go_ret
        exact ⟨rfl, Z3.out⟩
    · rw [show (decide (1 ≤ qy) && decide (qy ≤ 2000) && decide (ad + qy ≤ 65536)) = false by simp; omega] at r1
      have R1 := Lib.hid r1
      clear r1
      go_enter Try.func6, Try.ntmps6
      go_wp2_with fail
      refine (head_any _).mono ?_
      rintro e w1 ⟨rfl, z1⟩
      have Z1 := Lib.hid z1
      clear z1
      go_wp2_with fail
      refine (O1.out _).mono ?_
      rw [R1.out]
      rintro e w2 ⟨rfl, z2⟩
      have Z2 := Lib.hid (Z1.out.trans ((((Below.refl w1.heap.size w1).alloc (Nat.le_refl _) _).trans (z2.mono (by simp))).mono Z1.out.size))
      clear z2
      go_wp2_with fail
      refine (O2.out _).mono ?_
      rw [R2.out]
      rintro e w3 ⟨rfl, z3⟩
      have Z3 := Lib.hid (Z2.out.trans ((((Below.refl w2.heap.size w2).alloc (Nat.le_refl _) _).trans (z3.mono (by simp))).mono Z2.out.size))
      clear z3
      go_wp2_with fail
      go_ret
      exact ⟨rfl, Z3.out⟩
  · rw [show (decide (1 ≤ qy) && decide (qy ≤ 2000) && decide (ad + qy ≤ 65536)) = false by simp; omega] at r1
    have R1 := Lib.hid r1
    clear r1
    go_enter Try.func6, Try.ntmps6
    go_wp2_with fail
    refine (head_any _).mono ?_
    rintro e w1 ⟨rfl, z1⟩
    have Z1 := Lib.hid z1
    clear z1
    go_wp2_with fail
    refine (O1.out _).mono ?_
    rw [R1.out]
    rintro e w2 ⟨rfl, z2⟩
    have Z2 := Lib.hid (Z1.out.trans ((((Below.refl w1.heap.size w1).alloc (Nat.le_refl _) _).trans (z2.mono (by simp))).mono Z1.out.size))
    clear z2
    go_wp2_with fail
    refine (O2.out _).mono ?_
    rw [R2.out]
    rintro e w3 ⟨rfl, z3⟩
    have Z3 := Lib.hid (Z2.out.trans ((((Below.refl w2.heap.size w2).alloc (Nat.le_refl _) _).trans (z3.mono (by simp))).mono Z2.out.size))
    clear z3
    go_wp2_with fail
    go_ret
    exact ⟨rfl, Z3.out⟩
set_option maxRecDepth 100000 in
set_option maxHeartbeats 8000000 in
theorem bounds_3 (fc ad qy : Int) (w : World) (hr : fc % 4 = 2) (hf : 0 ≤ fc ∧ fc ≤ 255) (ha : 0 ≤ ad ∧ ad ≤ 65535) (hq : 0 ≤ qy ∧ qy ≤ 65535) : Calls Try.prog 6 #[.int .u8 fc, .int .u16 ad, .int .u16 qy] w fun e w' => e = .returned (.bool true) ∧ Below w.heap.size w w' := by
  have hk : (3 : Int) = 1 ∨ (3 : Int) = 2 ∨ (3 : Int) = 3 ∨ (3 : Int) = 4 := by decide
  have er : fc.tmod 4 = 2 := by rw [Int.tmod_eq_emod_of_nonneg hf.1]; exact hr
  have r1 := right_read (k := 3) none hk ha hq
  have R2 := Lib.hid (fun vs => right_vals (k := 3) (ad := ad) (qy := qy) vs hk)
  have O1 := Lib.hid (fun W => right_any ⟨3, ad, qy, none, 0, 0, [], 0⟩ W (ok_read W hk ha hq))
  have O2 := Lib.hid (fun (W : World) => right_any ⟨3, ad, qy, some ⟨W.heap.size, 0, none⟩, 1, 1, [0], 0⟩ _ (ok_vals W hk ha hq))
  simp only [rv] at O1 O2
  rw [show moK 3 = 125 by decide] at r1
  obtain ⟨a1, a2⟩ := ha
  obtain ⟨b1, b2⟩ := hq
  obtain ⟨f1, f2⟩ := hf
  clear hk hr
  by_cases c1 : 1 ≤ qy
  · by_cases c2 : qy ≤ 125
    · by_cases c3 : ad + qy ≤ 65536
      · rw [show (decide (1 ≤ qy) && decide (qy ≤ 125) && decide (ad + qy ≤ 65536)) = true by simp; omega] at r1
        have R1 := Lib.hid r1
        clear r1
        go_enter Try.func6, Try.ntmps6
        go_wp2_with fail
        refine (head_any _).mono ?_
        rintro e w1 ⟨rfl, z1⟩
        have Z1 := Lib.hid z1
        clear z1
        go_wp2_with fail
        refine (O1.out _).mono ?_
        rw [R1.out]
        rintro e w2 ⟨rfl, z2⟩
        have Z2 := Lib.hid (Z1.out.trans ((((Below.refl w1.heap.size w1).alloc (Nat.le_refl _) _).trans (z2.mono (by simp))).mono Z1.out.size))
        clear z2
        go_wp2_with fail
        refine (O2.out _).mono ?_
        rw [R2.out]
        rintro e w3 ⟨rfl, z3⟩
        have Z3 := Lib.hid (Z2.out.trans ((((Below.refl w2.heap.size w2).alloc (Nat.le_refl _) _).trans (z3.mono (by simp))).mono Z2.out.size))
        clear z3
        go_wp2_with fail
        go_ret
        exact ⟨rfl, Z3.out⟩
      · have d3 : decide (ad + qy ≤ 65536) = false := by simp; omega
        rw [show (decide (1 ≤ qy) && decide (qy ≤ 125) && decide (ad + qy ≤ 65536)) = false by simp; omega] at r1
        have R1 := Lib.hid r1
        clear r1
        go_enter Try.func6, Try.ntmps6
        go_wp2_with fail
        refine (head_any _).mono ?_
        rintro e w1 ⟨rfl, z1⟩
        have Z1 := Lib.hid z1
        clear z1
        go_wp2_with fail
        refine (O1.out _).mono ?_
        rw [R1.out]
        rintro e w2 ⟨rfl, z2⟩
        have Z2 := Lib.hid (Z1.out.trans ((((Below.refl w1.heap.size w1).alloc (Nat.le_refl _) _).trans (z2.mono (by simp))).mono Z1.out.size))
        clear z2
        go_wp2_with fail
        refine (O2.out _).mono ?_
        rw [R2.out]
        rintro e w3 ⟨rfl, z3⟩
        have Z3 := Lib.hid (Z2.out.trans ((((Below.refl w2.heap.size w2).alloc (Nat.le_refl _) _).trans (z3.mono (by simp))).mono Z2.out.size))
        clear z3
        go_wp2_with fail
        go_ret
        exact ⟨rfl, Z3.out⟩
    · rw [show (decide (1 ≤ qy) && decide (qy ≤ 125) && decide (ad + qy ≤ 65536)) = false by simp; omega] at r1
      have R1 := Lib.hid r1
      clear r1
      go_enter Try.func6, Try.ntmps6
      go_wp2_with fail
      refine (head_any _).mono ?_
      rintro e w1 ⟨rfl, z1⟩
      have Z1 := Lib.hid z1
      clear z1
      go_wp2_with fail
      refine (O1.out _).mono ?_
      rw [R1.out]
      rintro e w2 ⟨rfl, z2⟩
      have Z2 := Lib.hid (Z1.out.trans ((((Below.refl w1.heap.size w1).alloc (Nat.le_refl _) _).trans (z2.mono (by simp))).mono Z1.out.size))
      clear z2
      go_wp2_with fail
      refine (O2.out _).mono ?_
      rw [R2.out]
      rintro e w3 ⟨rfl, z3⟩
      have Z3 := Lib.hid (Z2.out.trans ((((Below.refl w2.heap.size w2).alloc (Nat.le_refl _) _).trans (z3.mono (by simp))).mono Z2.out.size))
      clear z3
      go_wp2_with fail
      go_ret
      exact ⟨rfl, Z3.out⟩
  · rw [show (decide (1 ≤ qy) && decide (qy ≤ 125) && decide (ad + qy ≤ 65536)) = false by simp; omega] at r1
    have R1 := Lib.hid r1
    clear r1
    go_enter Try.func6, Try.ntmps6
    go_wp2_with fail
    refine (head_any _).mono ?_
    rintro e w1 ⟨rfl, z1⟩
    have Z1 := Lib.hid z1
    clear z1
    go_wp2_with fail
    refine (O1.out _).mono ?_
    rw [R1.out]
    rintro e w2 ⟨rfl, z2⟩
    have Z2 := Lib.hid (Z1.out.trans ((((Below.refl w1.heap.size w1).alloc (Nat.le_refl _) _).trans (z2.mono (by simp))).mono Z1.out.size))
    clear z2
    go_wp2_with fail
    refine (O2.out _).mono ?_
    rw [R2.out]
    rintro e w3 ⟨rfl, z3⟩
    have Z3 := Lib.hid (Z2.out.trans ((((Below.refl w2.heap.size w2).alloc (Nat.le_refl _) _).trans (z3.mono (by simp))).mono Z2.out.size))
    clear z3
    go_wp2_with fail
    go_ret
    exact ⟨rfl, Z3.out⟩
set_option maxRecDepth 100000 in
set_option maxHeartbeats 8000000 in
theorem bounds_4 (fc ad qy : Int) (w : World) (hr : fc % 4 = 3) (hf : 0 ≤ fc ∧ fc ≤ 255) (ha : 0 ≤ ad ∧ ad ≤ 65535) (hq : 0 ≤ qy ∧ qy ≤ 65535) : Calls Try.prog 6 #[.int .u8 fc, .int .u16 ad, .int .u16 qy] w fun e w' => e = .returned (.bool true) ∧ Below w.heap.size w w' := by
  have hk : (4 : Int) = 1 ∨ (4 : Int) = 2 ∨ (4 : Int) = 3 ∨ (4 : Int) = 4 := by decide
  have er : fc.tmod 4 = 3 := by rw [Int.tmod_eq_emod_of_nonneg hf.1]; exact hr
  have r1 := right_read (k := 4) none hk ha hq
  have R2 := Lib.hid (fun vs => right_vals (k := 4) (ad := ad) (qy := qy) vs hk)
  have O1 := Lib.hid (fun W => right_any ⟨4, ad, qy, none, 0, 0, [], 0⟩ W (ok_read W hk ha hq))
  have O2 := Lib.hid (fun (W : World) => right_any ⟨4, ad, qy, some ⟨W.heap.size, 0, none⟩, 1, 1, [0], 0⟩ _ (ok_vals W hk ha hq))
  simp only [rv] at O1 O2
  rw [show moK 4 = 125 by decide] at r1
  obtain ⟨a1, a2⟩ := ha
  obtain ⟨b1, b2⟩ := hq
  obtain ⟨f1, f2⟩ := hf
  clear hk hr
  by_cases c1 : 1 ≤ qy
  · by_cases c2 : qy ≤ 125
    · by_cases c3 : ad + qy ≤ 65536
      · rw [show (decide (1 ≤ qy) && decide (qy ≤ 125) && decide (ad + qy ≤ 65536)) = true by simp; omega] at r1
        have R1 := Lib.hid r1
        clear r1
        go_enter Try.func6, Try.ntmps6
        go_wp2_with fail
        refine (head_any _).mono ?_
        rintro e w1 ⟨rfl, z1⟩
        have Z1 := Lib.hid z1
        clear z1
        go_wp2_with fail
        refine (O1.out _).mono ?_
        rw [R1.out]
        rintro e w2 ⟨rfl, z2⟩
        have Z2 := Lib.hid (Z1.out.trans ((((Below.refl w1.heap.size w1).alloc (Nat.le_refl _) _).trans (z2.mono (by simp))).mono Z1.out.size))
        clear z2
        go_wp2_with fail
        refine (O2.out _).mono ?_
        rw [R2.out]
        rintro e w3 ⟨rfl, z3⟩
        have Z3 := Lib.hid (Z2.out.trans ((((Below.refl w2.heap.size w2).alloc (Nat.le_refl _) _).trans (z3.mono (by simp))).mono Z2.out.size))
        clear z3
        go_wp2_with fail
        go_ret
        exact ⟨rfl, Z3.out⟩
      · have d3 : decide (ad + qy ≤ 65536) = false := by simp; omega
        rw [show (decide (1 ≤ qy) && decide (qy ≤ 125) && decide (ad + qy ≤ 65536)) = false by simp; omega] at r1
        have R1 := Lib.hid r1
        clear r1
        go_enter Try.func6, Try.ntmps6
        go_wp2_with fail
        refine (head_any _).mono ?_
        rintro e w1 ⟨rfl, z1⟩
        have Z1 := Lib.hid z1
        clear z1
        go_wp2_with fail
        refine (O1.out _).mono ?_
        rw [R1.out]
        rintro e w2 ⟨rfl, z2⟩
        have Z2 := Lib.hid (Z1.out.trans ((((Below.refl w1.heap.size w1).alloc (Nat.le_refl _) _).trans (z2.mono (by simp))).mono Z1.out.size))
        clear z2
        go_wp2_with fail
        refine (O2.out _).mono ?_
        rw [R2.out]
        rintro e w3 ⟨rfl, z3⟩
        have Z3 := Lib.hid (Z2.out.trans ((((Below.refl w2.heap.size w2).alloc (Nat.le_refl _) _).trans (z3.mono (by simp))).mono Z2.out.size))
        clear z3
        go_wp2_with fail
        go_ret
        exact ⟨rfl, Z3.out⟩
    · rw [show (decide (1 ≤ qy) && decide (qy ≤ 125) && decide (ad + qy ≤ 65536)) = false by simp; omega] at r1
      have R1 := Lib.hid r1
      clear r1
      go_enter Try.func6, Try.ntmps6
      go_wp2_with fail
      refine (head_any _).mono ?_
      rintro e w1 ⟨rfl, z1⟩
      have Z1 := Lib.hid z1
      clear z1
      go_wp2_with fail
      refine (O1.out _).mono ?_
      rw [R1.out]
      rintro e w2 ⟨rfl, z2⟩
      have Z2 := Lib.hid (Z1.out.trans ((((Below.refl w1.heap.size w1).alloc (Nat.le_refl _) _).trans (z2.mono (by simp))).mono Z1.out.size))
      clear z2
      go_wp2_with fail
      refine (O2.out _).mono ?_
      rw [R2.out]
      rintro e w3 ⟨rfl, z3⟩
      have Z3 := Lib.hid (Z2.out.trans ((((Below.refl w2.heap.size w2).alloc (Nat.le_refl _) _).trans (z3.mono (by simp))).mono Z2.out.size))
      clear z3
      go_wp2_with fail
      go_ret
      exact ⟨rfl, Z3.out⟩
  · rw [show (decide (1 ≤ qy) && decide (qy ≤ 125) && decide (ad + qy ≤ 65536)) = false by simp; omega] at r1
    have R1 := Lib.hid r1
    clear r1
    go_enter Try.func6, Try.ntmps6
    go_wp2_with fail
    refine (head_any _).mono ?_
    rintro e w1 ⟨rfl, z1⟩
    have Z1 := Lib.hid z1
    clear z1
    go_wp2_with fail
    refine (O1.out _).mono ?_
    rw [R1.out]
    rintro e w2 ⟨rfl, z2⟩
    have Z2 := Lib.hid (Z1.out.trans ((((Below.refl w1.heap.size w1).alloc (Nat.le_refl _) _).trans (z2.mono (by simp))).mono Z1.out.size))
    clear z2
    go_wp2_with fail
    refine (O2.out _).mono ?_
    rw [R2.out]
    rintro e w3 ⟨rfl, z3⟩
    have Z3 := Lib.hid (Z2.out.trans ((((Below.refl w2.heap.size w2).alloc (Nat.le_refl _) _).trans (z3.mono (by simp))).mono Z2.out.size))
    clear z3
    go_wp2_with fail
    go_ret
    exact ⟨rfl, Z3.out⟩
theorem bounds_any (fc ad qy : Int) (w : World) (hf : (Lit.int .u8 fc).wf = true) (ha : (Lit.int .u16 ad).wf = true) (hq : (Lit.int .u16 qy).wf = true) : Calls Try.prog 6 #[.int .u8 fc, .int .u16 ad, .int .u16 qy] w fun e w' => e = .returned (.bool true) ∧ Below w.heap.size w w' := by
  have y0 := bd_u8 hf
  have y1 := bd_u16 ha
  have y2 := bd_u16 hq
  rcases (by omega : fc % 4 = 0 ∨ fc % 4 = 1 ∨ fc % 4 = 2 ∨ fc % 4 = 3) with h | h | h | h
  · exact bounds_1 fc ad qy w h y0 y1 y2
  · exact bounds_2 fc ad qy w h y0 y1 y2
  · exact bounds_3 fc ad qy w h y0 y1 y2
  · exact bounds_4 fc ad qy w h y0 y1 y2
end Go.Proofs.Ytcmolkhaajcmpaa
