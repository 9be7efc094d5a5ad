/- Drain, and the live question of queues. -/
import Derived.Test.YtbonifmhlbakbaaQ
namespace Go.Proofs.Ytbonifmhlbakbaa
set_option linter.unusedVariables false
open Go.ChangeShapes Go.WideShapes Go.ChangeAt Go.RowKit

abbrev iv (x : Int) : Value := .int .i64 x
abbrev bv (x : Bool) : Value := .bool x

set_option maxRecDepth 100000 in
theorem drain_int {B : Nat} {w : World} {d cu co n : Nat} {U O : List Int} (h : Q B w d cu co n (U.map iv) (O.map iv)) (hn : n ≤ 64) :
    Calls Try.prog 13 #[.pointer (some ⟨d, 0, none⟩)] w fun e w' => e = .returned (.int .i64 ((U.length + O.length : Nat))) ∧ Q B w' d cu co n [] [] ∧ Below B w w' := by
  obtain ⟨t, ht⟩ : ∃ t, t = U.length + O.length := ⟨_, rfl⟩
  have htb : t ≤ 128 := by have := h.lu; have := h.lo; simp at *; omega
  rw [← ht]
  have H := Lib.hid h
  have HT := Lib.hid ht
  clear h ht
  go_enter Try.func13, Try.ntmps13
  go_wp2_with fail
  go_loopw [3] (fun i wr => ∃ (X Y : List Int) (k : Nat), k + (X.length + Y.length) = t ∧ i = .int .i64 k ∧ Q B wr d cu co n (X.map iv) (Y.map iv) ∧ Below B w wr) (fun i _ => t - (intOf i).toNat)
  case atStart => exact ⟨U, O, 0, by rw [HT.out]; omega, rfl, H.out, Below.refl _ _⟩
  case round =>
    obtain ⟨X, Y, k, hk, rfl, hq, hb⟩ := hrel
    have HB := Lib.hid hb
    have HQ := Lib.hid hq
    clear hb hq
    cases X with
    | cons x X =>
      have hk' : k + 1 + (X.length + Y.length) = t := by simp at hk; omega
      have hkt : k < t := by omega
      have HK := Lib.hid hk'
      clear hk hk'
      go_wp2_with fail
      refine (take_int_u' x (h := HQ.out)).mono ?_
      rintro e w1 ⟨rfl, hq1, hb1⟩
      have HQ1 := Lib.hid hq1
      have HB1 := Lib.hid hb1
      clear hq1 hb1
      go_wp2_with fail
      go_roundw
      case rel => exact ⟨X, Y, k + 1, HK.out, by go_num, HQ1.out, HB.out.trans HB1.out⟩
      case measure => simp [intOf]; omega
    | nil =>
      cases Y with
      | cons x Y =>
        have hk' : k + 1 + (([] : List Int).length + Y.length) = t := by simp at hk ⊢; omega
        have hkt : k < t := by omega
        have HK := Lib.hid hk'
        clear hk hk'
        go_wp2_with fail
        refine (take_int_o' x (h := HQ.out)).mono ?_
        rintro e w1 ⟨rfl, hq1, hb1⟩
        have HQ1 := Lib.hid hq1
        have HB1 := Lib.hid hb1
        clear hq1 hb1
        go_wp2_with fail
        go_roundw
        case rel => exact ⟨[], Y, k + 1, HK.out, by go_num, HQ1.out, HB.out.trans HB1.out⟩
        case measure => simp [intOf]; omega
      | nil =>
        have hk' : k = t := by simpa using hk
        subst hk'
        clear hk
        go_wp2_with fail
        refine (take_int_n' (h := HQ.out)).mono ?_
        rintro e w1 ⟨rfl, hq1, hb1⟩
        have HQ1 := Lib.hid hq1
        have HB1 := Lib.hid hb1
        clear hq1 hb1
        go_wp2_with fail
        go_ret
        exact ⟨rfl, HQ1.out, HB.out.trans HB1.out⟩

set_option maxRecDepth 100000 in
theorem head_any (w : World) : Calls Try.prog 8 #[] w fun e w' => e = .returned (.bool true) ∧ Below w.heap.size w w' := by
  go_enter Try.func8, Try.ntmps8
  go_wp2_with fail
  refine (new_int 2 w).mono ?_
  rintro e w0 ⟨d, cu, co, rfl, q0, b0⟩
  have Q0 : Hid (Q w.heap.size w0 d cu co 2 [] []) := Lib.hid q0
  have B0 := Lib.hid b0
  clear q0 b0
  go_wp2_with fail
  refine (put_int_o 1 Q0.out).mono ?_
  rintro e w1 ⟨rfl, q, b⟩
  have Q1 : Hid (Q w.heap.size w1 d cu co 2 [] [iv 1]) := Lib.hid q
  have B1 := Lib.hid (B0.out.trans b)
  clear q b
  rw [show room 2 [] = true from rfl]
  go_wp2_with fail
  refine (put_int_u 2 Q1.out).mono ?_
  rintro e w2 ⟨rfl, q, b⟩
  have Q2 : Hid (Q w.heap.size w2 d cu co 2 [iv 2] [iv 1]) := Lib.hid q
  have B2 := Lib.hid (B1.out.trans b)
  clear q b
  rw [show room 2 [] = true from rfl]
  go_wp2_with fail
  refine (put_int_o 3 Q2.out).mono ?_
  rintro e w3 ⟨rfl, q, b⟩
  have Q3 : Hid (Q w.heap.size w3 d cu co 2 [iv 2] [iv 1, iv 3]) := Lib.hid q
  have B3 := Lib.hid (B2.out.trans b)
  clear q b
  rw [show room 2 [iv 1] = true from rfl]
  go_wp2_with fail
  refine (put_int_o 4 Q3.out).mono ?_
  rintro e w4 ⟨rfl, q, b⟩
  have Q4 : Hid (Q w.heap.size w4 d cu co 2 [iv 2] [iv 1, iv 3]) := Lib.hid q
  have B4 := Lib.hid (B3.out.trans b)
  clear q b
  rw [show room 2 [iv 1, iv 3] = false from rfl]
  go_wp2_with fail
  refine (many_int Q4.out).mono ?_
  rintro e w5 ⟨rfl, b⟩
  have Q5 := Lib.hid (Q4.out.below b)
  have B5 := Lib.hid (B4.out.trans (b.mono B4.out.size))
  clear b
  go_wp2_with fail
  refine (take_int_u' 2 Q5.out).mono ?_
  rintro e w6 ⟨rfl, q, b⟩
  have Q6 := Lib.hid q
  have B6 := Lib.hid (B5.out.trans b)
  clear q b
  go_wp2_with fail
  refine (take_int_o' 1 Q6.out).mono ?_
  rintro e w7 ⟨rfl, q, b⟩
  have Q7 := Lib.hid q
  have B7 := Lib.hid (B6.out.trans b)
  clear q b
  go_wp2_with fail
  refine (drain_int (U := []) (O := [3]) Q7.out (by decide)).mono ?_
  rintro e w8 ⟨rfl, q, b⟩
  have Q8 := Lib.hid q
  have B8 := Lib.hid (B7.out.trans b)
  clear q b
  go_wp2_with fail
  refine (take_int_n' Q8.out).mono ?_
  rintro e w9 ⟨rfl, q, b⟩
  have B9 := Lib.hid (B8.out.trans b)
  clear q b
  go_wp2_with fail
  go_ret
  exact ⟨rfl, B9.out⟩

end Go.Proofs.Ytbonifmhlbakbaa
