/- PduKinds. -/
import Derived.Test.YtcmolkhaajcmpaaX
namespace Go.Proofs.Ytcmolkhaajcmpaa
set_option linter.unusedVariables false
set_option linter.unusedSimpArgs false
open Go.ChangeShapes Go.WideShapes Go.ChangeAt Go.RowKit

set_option maxRecDepth 100000 in
set_option maxHeartbeats 8000000 in
theorem kinds_any (n : Int) (w : World) (hw : (Lit.int .i64 n).wf = true) : Calls Try.prog 7 #[.int .i64 n] w fun e w' => e = .returned (.bool true) ∧ Below w.heap.size w w' := by
  have RD := Lib.hid (fun W => reads_any n W hw)
  have WR := Lib.hid (fun W => writes_any n W hw)
  have y := bd_i64 hw
  clear hw
  by_cases e1 : n = 1
  · subst e1
    have h1 : (fo 1).rd = true := by decide +kernel
    have h2 : (fo 1).bi = true := by decide +kernel
    have h3 : (fo 1).wr = false := by decide +kernel
    rw [h1, h2] at RD
    rw [h3, h2] at WR
    simp only [Bool.and_self, Bool.and_false, Bool.false_and, Bool.true_and, Bool.and_true] at RD WR
    clear h1 h2 h3
    go_enter Try.func7, Try.ntmps7
    go_wp2_with fail
    refine (head_any _).mono ?_
    rintro e w1 ⟨rfl, b1⟩
    go_wp2_with fail
    refine (RD.out _).mono ?_
    rintro e w2 ⟨rfl, b2⟩
    go_wp2_with fail
    refine (WR.out _).mono ?_
    rintro e w3 ⟨rfl, b3⟩
    have B3 := Lib.hid ((b1.trans (b2.mono b1.size)).trans (b3.mono (b1.trans (b2.mono b1.size)).size))
    clear b1 b2 b3
    go_wp2_with fail
    go_ret
    exact ⟨rfl, B3.out⟩
  by_cases e2 : n = 2
  · subst e2
    have h1 : (fo 2).rd = true := by decide +kernel
    have h2 : (fo 2).bi = true := by decide +kernel
    have h3 : (fo 2).wr = false := by decide +kernel
    rw [h1, h2] at RD
    rw [h3, h2] at WR
    simp only [Bool.and_self, Bool.and_false, Bool.false_and, Bool.true_and, Bool.and_true] at RD WR
    clear h1 h2 h3
    go_enter Try.func7, Try.ntmps7
    go_wp2_with fail
    refine (head_any _).mono ?_
    rintro e w1 ⟨rfl, b1⟩
    go_wp2_with fail
    refine (RD.out _).mono ?_
    rintro e w2 ⟨rfl, b2⟩
    go_wp2_with fail
    refine (WR.out _).mono ?_
    rintro e w3 ⟨rfl, b3⟩
    have B3 := Lib.hid ((b1.trans (b2.mono b1.size)).trans (b3.mono (b1.trans (b2.mono b1.size)).size))
    clear b1 b2 b3
    go_wp2_with fail
    go_ret
    exact ⟨rfl, B3.out⟩
  by_cases e3 : n = 3
  · subst e3
    have h1 : (fo 3).rd = true := by decide +kernel
    have h2 : (fo 3).bi = false := by decide +kernel
    have h3 : (fo 3).wr = false := by decide +kernel
    rw [h1, h2] at RD
    rw [h3, h2] at WR
    simp only [Bool.and_self, Bool.and_false, Bool.false_and, Bool.true_and, Bool.and_true] at RD WR
    clear h1 h2 h3
    go_enter Try.func7, Try.ntmps7
    go_wp2_with fail
    refine (head_any _).mono ?_
    rintro e w1 ⟨rfl, b1⟩
    go_wp2_with fail
    refine (RD.out _).mono ?_
    rintro e w2 ⟨rfl, b2⟩
    go_wp2_with fail
    refine (WR.out _).mono ?_
    rintro e w3 ⟨rfl, b3⟩
    have B3 := Lib.hid ((b1.trans (b2.mono b1.size)).trans (b3.mono (b1.trans (b2.mono b1.size)).size))
    clear b1 b2 b3
    go_wp2_with fail
    go_ret
    exact ⟨rfl, B3.out⟩
  by_cases e4 : n = 4
  · subst e4
    have h1 : (fo 4).rd = true := by decide +kernel
    have h2 : (fo 4).bi = false := by decide +kernel
    have h3 : (fo 4).wr = false := by decide +kernel
    rw [h1, h2] at RD
    rw [h3, h2] at WR
    simp only [Bool.and_self, Bool.and_false, Bool.false_and, Bool.true_and, Bool.and_true] at RD WR
    clear h1 h2 h3
    go_enter Try.func7, Try.ntmps7
    go_wp2_with fail
    refine (head_any _).mono ?_
    rintro e w1 ⟨rfl, b1⟩
    go_wp2_with fail
    refine (RD.out _).mono ?_
    rintro e w2 ⟨rfl, b2⟩
    go_wp2_with fail
    refine (WR.out _).mono ?_
    rintro e w3 ⟨rfl, b3⟩
    have B3 := Lib.hid ((b1.trans (b2.mono b1.size)).trans (b3.mono (b1.trans (b2.mono b1.size)).size))
    clear b1 b2 b3
    go_wp2_with fail
    go_ret
    exact ⟨rfl, B3.out⟩
  by_cases e5 : n = 5
  · subst e5
    have h1 : (fo 5).rd = false := by decide +kernel
    have h2 : (fo 5).bi = true := by decide +kernel
    have h3 : (fo 5).wr = true := by decide +kernel
    rw [h1, h2] at RD
    rw [h3, h2] at WR
    simp only [Bool.and_self, Bool.and_false, Bool.false_and, Bool.true_and, Bool.and_true] at RD WR
    clear h1 h2 h3
    go_enter Try.func7, Try.ntmps7
    go_wp2_with fail
    refine (head_any _).mono ?_
    rintro e w1 ⟨rfl, b1⟩
    go_wp2_with fail
    refine (RD.out _).mono ?_
    rintro e w2 ⟨rfl, b2⟩
    go_wp2_with fail
    refine (WR.out _).mono ?_
    rintro e w3 ⟨rfl, b3⟩
    have B3 := Lib.hid ((b1.trans (b2.mono b1.size)).trans (b3.mono (b1.trans (b2.mono b1.size)).size))
    clear b1 b2 b3
    go_wp2_with fail
    go_ret
    exact ⟨rfl, B3.out⟩
  by_cases e6 : n = 6
  · subst e6
    have h1 : (fo 6).rd = false := by decide +kernel
    have h2 : (fo 6).bi = false := by decide +kernel
    have h3 : (fo 6).wr = true := by decide +kernel
    rw [h1, h2] at RD
    rw [h3, h2] at WR
    simp only [Bool.and_self, Bool.and_false, Bool.false_and, Bool.true_and, Bool.and_true] at RD WR
    clear h1 h2 h3
    go_enter Try.func7, Try.ntmps7
    go_wp2_with fail
    refine (head_any _).mono ?_
    rintro e w1 ⟨rfl, b1⟩
    go_wp2_with fail
    refine (RD.out _).mono ?_
    rintro e w2 ⟨rfl, b2⟩
    go_wp2_with fail
    refine (WR.out _).mono ?_
    rintro e w3 ⟨rfl, b3⟩
    have B3 := Lib.hid ((b1.trans (b2.mono b1.size)).trans (b3.mono (b1.trans (b2.mono b1.size)).size))
    clear b1 b2 b3
    go_wp2_with fail
    go_ret
    exact ⟨rfl, B3.out⟩
  by_cases e15 : n = 15
  · subst e15
    have h1 : (fo 15).rd = false := by decide +kernel
    have h2 : (fo 15).bi = true := by decide +kernel
    have h3 : (fo 15).wr = true := by decide +kernel
    rw [h1, h2] at RD
    rw [h3, h2] at WR
    simp only [Bool.and_self, Bool.and_false, Bool.false_and, Bool.true_and, Bool.and_true] at RD WR
    clear h1 h2 h3
    go_enter Try.func7, Try.ntmps7
    go_wp2_with fail
    refine (head_any _).mono ?_
    rintro e w1 ⟨rfl, b1⟩
    go_wp2_with fail
    refine (RD.out _).mono ?_
    rintro e w2 ⟨rfl, b2⟩
    go_wp2_with fail
    refine (WR.out _).mono ?_
    rintro e w3 ⟨rfl, b3⟩
    have B3 := Lib.hid ((b1.trans (b2.mono b1.size)).trans (b3.mono (b1.trans (b2.mono b1.size)).size))
    clear b1 b2 b3
    go_wp2_with fail
    go_ret
    exact ⟨rfl, B3.out⟩
  by_cases e16 : n = 16
  · subst e16
    have h1 : (fo 16).rd = false := by decide +kernel
    have h2 : (fo 16).bi = false := by decide +kernel
    have h3 : (fo 16).wr = true := by decide +kernel
    rw [h1, h2] at RD
    rw [h3, h2] at WR
    simp only [Bool.and_self, Bool.and_false, Bool.false_and, Bool.true_and, Bool.and_true] at RD WR
    clear h1 h2 h3
    go_enter Try.func7, Try.ntmps7
    go_wp2_with fail
    refine (head_any _).mono ?_
    rintro e w1 ⟨rfl, b1⟩
    go_wp2_with fail
    refine (RD.out _).mono ?_
    rintro e w2 ⟨rfl, b2⟩
    go_wp2_with fail
    refine (WR.out _).mono ?_
    rintro e w3 ⟨rfl, b3⟩
    have B3 := Lib.hid ((b1.trans (b2.mono b1.size)).trans (b3.mono (b1.trans (b2.mono b1.size)).size))
    clear b1 b2 b3
    go_wp2_with fail
    go_ret
    exact ⟨rfl, B3.out⟩
  by_cases e22 : n = 22
  · subst e22
    have h1 : (fo 22).rd = false := by decide +kernel
    have h2 : (fo 22).bi = false := by decide +kernel
    have h3 : (fo 22).wr = true := by decide +kernel
    rw [h1, h2] at RD
    rw [h3, h2] at WR
    simp only [Bool.and_self, Bool.and_false, Bool.false_and, Bool.true_and, Bool.and_true] at RD WR
    clear h1 h2 h3
    go_enter Try.func7, Try.ntmps7
    go_wp2_with fail
    refine (head_any _).mono ?_
    rintro e w1 ⟨rfl, b1⟩
    go_wp2_with fail
    refine (RD.out _).mono ?_
    rintro e w2 ⟨rfl, b2⟩
    go_wp2_with fail
    refine (WR.out _).mono ?_
    rintro e w3 ⟨rfl, b3⟩
    have B3 := Lib.hid ((b1.trans (b2.mono b1.size)).trans (b3.mono (b1.trans (b2.mono b1.size)).size))
    clear b1 b2 b3
    go_wp2_with fail
    go_ret
    exact ⟨rfl, B3.out⟩
  by_cases e23 : n = 23
  · subst e23
    have h1 : (fo 23).rd = true := by decide +kernel
    have h2 : (fo 23).bi = false := by decide +kernel
    have h3 : (fo 23).wr = true := by decide +kernel
    rw [h1, h2] at RD
    rw [h3, h2] at WR
    simp only [Bool.and_self, Bool.and_false, Bool.false_and, Bool.true_and, Bool.and_true] at RD WR
    clear h1 h2 h3
    go_enter Try.func7, Try.ntmps7
    go_wp2_with fail
    refine (head_any _).mono ?_
    rintro e w1 ⟨rfl, b1⟩
    go_wp2_with fail
    refine (RD.out _).mono ?_
    rintro e w2 ⟨rfl, b2⟩
    go_wp2_with fail
    refine (WR.out _).mono ?_
    rintro e w3 ⟨rfl, b3⟩
    have B3 := Lib.hid ((b1.trans (b2.mono b1.size)).trans (b3.mono (b1.trans (b2.mono b1.size)).size))
    clear b1 b2 b3
    go_wp2_with fail
    go_ret
    exact ⟨rfl, B3.out⟩
  have hfz : fo n = fz := by
    unfold fo formOf
    rw [if_neg e23, if_neg e22, if_neg e16, if_neg e15, if_neg e6, if_neg e5, if_neg e4, if_neg e3, if_neg e2, if_neg e1]
    rfl
  rw [hfz] at RD WR
  simp only [fz, Bool.and_self, Bool.and_false, Bool.false_and] at RD WR
  have t15 : (n == 15) = false := by simpa using e15
  have t16 : (n == 16) = false := by simpa using e16
  have t22 : (n == 22) = false := by simpa using e22
  have t23 : (n == 23) = false := by simpa using e23
  have t1 : (n == 1) = false := by simpa using e1
  have t2 : (n == 2) = false := by simpa using e2
  have t5 : (n == 5) = false := by simpa using e5
  clear hfz
  by_cases hlo : 1 ≤ n
  · have d1 : decide (1 ≤ n) = true := by simpa using hlo
    have d2 : decide (n ≤ 6) = false := by simp; omega
    go_enter Try.func7, Try.ntmps7
    go_wp2_with fail
    refine (head_any _).mono ?_
    rintro e w1 ⟨rfl, b1⟩
    go_wp2_with fail
    refine (RD.out _).mono ?_
    rintro e w2 ⟨rfl, b2⟩
    go_wp2_with fail
    refine (WR.out _).mono ?_
    rintro e w3 ⟨rfl, b3⟩
    have B3 := Lib.hid ((b1.trans (b2.mono b1.size)).trans (b3.mono (b1.trans (b2.mono b1.size)).size))
    clear b1 b2 b3
    go_wp2_with fail
    go_ret
    exact ⟨rfl, B3.out⟩
  · have d1 : decide (1 ≤ n) = false := by simpa using hlo
    go_enter Try.func7, Try.ntmps7
    go_wp2_with fail
    refine (head_any _).mono ?_
    rintro e w1 ⟨rfl, b1⟩
    go_wp2_with fail
    refine (RD.out _).mono ?_
    rintro e w2 ⟨rfl, b2⟩
    go_wp2_with fail
    refine (WR.out _).mono ?_
    rintro e w3 ⟨rfl, b3⟩
    have B3 := Lib.hid ((b1.trans (b2.mono b1.size)).trans (b3.mono (b1.trans (b2.mono b1.size)).size))
    clear b1 b2 b3
    go_wp2_with fail
    go_ret
    exact ⟨rfl, B3.out⟩
end Go.Proofs.Ytcmolkhaajcmpaa
