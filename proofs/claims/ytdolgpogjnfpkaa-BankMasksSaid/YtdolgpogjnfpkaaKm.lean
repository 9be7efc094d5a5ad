/- BankMasks. -/
import Derived.Test.YtdolgpogjnfpkaaKh
namespace Go.Proofs.Ytdolgpogjnfpkaa
set_option linter.unusedVariables false
set_option linter.unusedSimpArgs false
open Go.ChangeShapes Go.WideShapes Go.ChangeAt Go.RowKit

theorem mask_do (a x y : Nat) (vs : Option Addr) (vc : Nat) (R : Nat → List Nat) (hR : R 2 = [a]) : doF ⟨22, 0, 0, vs, 2, vc, [x, y], 0⟩ R = ((0, []), upR R 2 [mskN a x y]) := by
  have h1 : rightR ⟨22, 0, 0, vs, 2, vc, [x, y], 0⟩ = true := by
    have h5 : fo 22 = ⟨false, true, false, 0, 2, 2, false, false⟩ := rfl
    have h6 : (formOf 22).isSome = true := rfl
    simp [rightR, h5, h6, has, fits, isPl, sizedF]; omega
  unfold doF
  rw [h1, if_neg (by simp)]
  have hk : kdB 22 = 2 := by decide
  have hp : plB R 2 0 1 = true := by
    unfold plB; simp [hR]
  have hrd : (fo 22).rd = false := by decide
  simp [hp, hrd, hk, hR, wrL]
theorem bit_at (n k i : Nat) : (n &&& 2 ^ k).testBit i = (n.testBit i && decide (k = i)) := by
  rw [Nat.testBit_and, Nat.testBit_two_pow]
theorem and_bit (n k : Nat) : n &&& 2 ^ k = if n.testBit k then 2 ^ k else 0 := by
  apply Nat.eq_of_testBit_eq
  intro i
  rw [bit_at]
  split
  · rename_i h
    rw [Nat.testBit_two_pow]
    by_cases e : k = i
    · subst e; simp [h]
    · simp [e]
  · rename_i h
    rw [Nat.zero_testBit]
    by_cases e : k = i
    · subst e; simp [h]
    · simp [e]
theorem compl_bit (x k : Nat) (hx : x < 65536) (hk : k < 16) : (65535 - x).testBit k = !x.testBit k := by
  have : 65535 - x = 2 ^ 16 - (x + 1) := by omega
  rw [this, Nat.testBit_two_pow_sub_succ (by omega)]
  simp [hk]
theorem msk_bit (a x y k : Nat) (hx : x < 65536) (hk : k < 16) : mskN a x y &&& 2 ^ k = if x &&& 2 ^ k ≠ 0 then a &&& 2 ^ k else y &&& 2 ^ k := by
  have hc := compl_bit x k hx hk
  have hp : (2 : Nat) ^ k ≠ 0 := by have := Nat.two_pow_pos k; omega
  rw [and_bit x k, and_bit a k, and_bit y k, and_bit (mskN a x y) k]
  unfold mskN
  rw [Nat.testBit_or, Nat.testBit_and, Nat.testBit_and, hc]
  cases x.testBit k <;> cases a.testBit k <;> cases y.testBit k <;> simp [hp]
set_option maxRecDepth 100000 in
set_option maxHeartbeats 8000000 in
theorem masks_walk (a x y : Nat) (ha : a < 65536) (hx : x < 65536) (hy : y < 65536) (w : World) :
    Calls Try.prog 6 #[.int .u16 (a : Int), .int .u16 (x : Int), .int .u16 (y : Int)] w (BoolB w true) := by
  obtain ⟨P, hP⟩ : ∃ P, P = (BoolB w true : Ending → World → Prop) := ⟨_, rfl⟩
  rw [← hP]
  have FIN : Hid (∀ W', Below w.heap.size w W' → P (.returned (.bool true)) W') := Lib.hid (fun W' h => by rw [hP]; exact ⟨rfl, h⟩)
  clear hP
  go_enter Try.func6, Try.ntmps6
  go_wp2_with fail
  refine (head_any w).mono ?_
  rintro e w0 ⟨rfl, z0⟩
  have B0 := Lib.hid z0
  clear z0
  go_wp2_with fail
  refine (newb_any 1 1 1 1 w0).mono ?_
  rintro e w1 ⟨p, s, rfl, n1, z1⟩
  obtain ⟨R0, hR0⟩ : ∃ R : Nat → List Nat, R = (fun j => List.replicate (clB (n4 1 1 1 1 j)) 0) := ⟨_, rfl⟩
  rw [← hR0] at n1
  have h02 : R0 2 = [0] := by rw [hR0]; decide
  have N1 := Lib.hid n1
  have B1 := Lib.hid (B0.out.trans (z1.mono B0.out.size))
  have hp1 : plB R0 2 0 1 = true := by unfold plB; simp [h02]
  have hr1 : putB R0 2 0 a = upR R0 2 [a] := by unfold putB capV; rw [hp1]; simp [h02]
  have PU := Lib.hid (putb_any N1.out 2 0 a (by omega) ha)
  unfold PutB at PU
  rw [hr1, hp1] at PU
  obtain ⟨R1, hR1⟩ : ∃ R : Nat → List Nat, R = upR R0 2 [a] := ⟨_, rfl⟩
  rw [← hR1] at PU
  have h12 : R1 2 = [a] := by rw [hR1]; simp [upR]
  have H12 := Lib.hid h12
  have HB0 := Lib.hid z1.size
  clear n1 z1 hR0 h02 hp1 hr1 hR1 h12
  go_wp2_with fail
  refine PU.out.mono ?_
  rintro e w2 ⟨rfl, n2, f2⟩
  have N2 := Lib.hid n2
  have B2 := Lib.hid (B1.out.trans ((N1.out.step f2).mono B0.out.size))
  have al := alloc_bq w2 (.cells (wv [x, y]).toArray 34 (0, 0))
  have N3 := Lib.hid (N2.out.below al)
  have B3 := Lib.hid (B2.out.trans (al.mono B2.out.size))
  have A3 := argw_new w2 [x, y] (by simp) (by intro b hb; simp at hb; omega)
  have DO := Lib.hid (do_any N3.out ⟨22, 0, 0, some ⟨w2.heap.size, 0, none⟩, 2, 2, [x, y], 0⟩ ⟨A3, (show (Lit.int .i64 22).wf = true by decide), (show (Lit.int .i64 0).wf = true by decide), (show (Lit.int .i64 0).wf = true by decide), (show (Lit.int .i64 0).wf = true by decide)⟩)
  rw [mask_do a x y _ _ R1 H12.out] at DO
  obtain ⟨z, hz⟩ : ∃ z, z = mskN a x y := ⟨_, rfl⟩
  have HZ := Lib.hid hz
  have hzl : z < 65536 := by rw [hz]; exact msk_lt ha hy
  rw [← hz] at DO
  clear n2 f2 al A3 hz PU
  go_wp2_with fail
  refine DO.out.mono ?_
  rintro e w4 ⟨a4, n4', c4, rfl, A4, n4, f4, _⟩
  simp only at A4 n4 ⊢
  have N4 := Lib.hid n4
  have B4 := Lib.hid (B3.out.trans ((N3.out.step f4).mono B0.out.size))
  clear A4 n4 f4 DO
  obtain ⟨R2, hR2⟩ : ∃ R : Nat → List Nat, R = upR R1 2 [z] := ⟨_, rfl⟩
  rw [← hR2] at N4
  have h22 : R2 2 = [z] := by rw [hR2]; simp [upR]
  have hp2 : plB R2 2 0 1 = true := by unfold plB; simp [h22]
  have ha2 : atB R2 2 0 = z := by unfold atB; rw [hp2]; simp [h22]
  have al := alloc_bq w4 (.cells #[.int .i64 0, .slice a4 n4' c4] 40 (0, 0))
  have N5 := N4.out.below al
  have AT := at_any N5 2 0 (by omega)
  unfold AtP at AT
  rw [hp2, ha2] at AT
  have X5 := Lib.hid (heap_alloc_new w4 (.cells #[.int .i64 0, .slice a4 n4' c4] 40 (0, 0)))
  have B5 := Lib.hid (B4.out.trans (al.mono B4.out.size))
  obtain ⟨w5, hw5⟩ : ∃ W, W = w4.alloc (.cells #[.int .i64 0, .slice a4 n4' c4] 40 (0, 0)) := ⟨_, rfl⟩
  rw [← hw5] at AT X5 B5
  have HW5 := Lib.hid hw5
  have HAT := Lib.hid AT
  clear hR2 h22 hp2 ha2 al N5 AT hw5
  go_upto_region 7 with fail
  rw [← HW5.out]
  go_wp2_with fail
  refine HAT.out.mono ?_
  rintro e w6 ⟨rfl, rfl⟩
  have c0 : w6.cell? ⟨w4.heap.size, 0, none⟩ = some (.int .i64 0) := (cells2q X5.out).1
  go_wp2_with fail
  go_loop [12] (fun i => ∃ j : Nat, j ≤ 16 ∧ i = .int .i64 j) (fun i => 16 - (intOf i).toNat)
  case atStart => exact ⟨0, by omega, rfl⟩
  case round =>
    obtain ⟨j, hj, rfl⟩ := hrel
    by_cases hlt : j < 16
    · have hj1 : (j : Int) < 16 := by omega
      have hpj : (2 : Nat) ^ j < 65536 := by
        have := Nat.pow_lt_pow_right (a := 2) (by omega) hlt
        simpa using this
      have hwr : IntKind.u16.wrap (2 ^ j) = ((2 ^ j : Nat) : Int) := by
        have e : ((2 : Int) ^ j) = ((2 ^ j : Nat) : Int) := by simp
        obtain ⟨b2, hb2⟩ : ∃ b2 : Nat, b2 = 2 ^ j := ⟨_, rfl⟩
        rw [e, ← hb2, IntKind.wrap_u16]
        rw [← hb2] at hpj
        omega
      have eX := u16_and_nat x (2 ^ j) hx hpj
      have eA := u16_and_nat a (2 ^ j) ha hpj
      have eY := u16_and_nat y (2 ^ j) hy hpj
      have eZ := u16_and_nat z (2 ^ j) hzl hpj
      rw [← hwr] at eX eA eY eZ
      have hb := msk_bit a x y j hx hlt
      rw [← HZ.out] at hb
      generalize x &&& 2 ^ j = bX at *
      generalize a &&& 2 ^ j = bA at *
      generalize y &&& 2 ^ j = bY at *
      generalize z &&& 2 ^ j = bZ at *
      clear hwr hpj
      by_cases hX : bX = 0
      · rw [if_neg (by simpa using hX)] at hb
        subst hX hb
        go_wp2_with fail
        go_round
        case rel => exact ⟨j + 1, by omega, by go_num⟩
        case measure => simp [intOf]; omega
      · rw [if_pos hX] at hb
        subst hb
        have d0 : ((bX : Int) != 0) = true := by simp; omega
        go_wp2_with fail
        go_round
        case rel => exact ⟨j + 1, by omega, by go_num⟩
        case measure => simp [intOf]; omega
    · have hk' : j = 16 := by omega
      subst hk'
      go_wp2_with fail
      exact FIN.out _ B5.out
theorem masks_all (a x y : Int) (wa : (Lit.int .u16 a).wf = true) (wx : (Lit.int .u16 x).wf = true) (wy : (Lit.int .u16 y).wf = true) (w : World) :
    Calls Try.prog 6 #[.int .u16 a, .int .u16 x, .int .u16 y] w (BoolB w true) := by
  have ha := bd_u16 wa
  have hx := bd_u16 wx
  have hy := bd_u16 wy
  obtain ⟨a, rfl⟩ : ∃ k : Nat, a = (k : Int) := ⟨a.toNat, by omega⟩
  obtain ⟨x, rfl⟩ : ∃ k : Nat, x = (k : Int) := ⟨x.toNat, by omega⟩
  obtain ⟨y, rfl⟩ : ∃ k : Nat, y = (k : Int) := ⟨y.toNat, by omega⟩
  exact masks_walk a x y (by omega) (by omega) (by omega) w
end Go.Proofs.Ytdolgpogjnfpkaa
