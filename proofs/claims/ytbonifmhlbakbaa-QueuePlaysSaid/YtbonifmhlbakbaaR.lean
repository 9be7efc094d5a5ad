/- The walk of QueueRoom. -/
import Derived.Test.YtbonifmhlbakbaaN
import Derived.Deep.CutRange
import Derived.Deep.DeepCutAuto
namespace Go.Proofs.Ytbonifmhlbakbaa
set_option linter.unusedVariables false
open Go.ChangeShapes Go.WideShapes Go.ChangeAt Go.RowKit

theorem push_map (m : Nat) (X : List Int) (x : Int) : ∃ Y : List Int, pushL m (X.map iv) (iv x) = Y.map iv ∧ Y.length = (if X.length < m then X.length + 1 else X.length) := by
  unfold pushL
  rw [List.length_map]
  split
  · exact ⟨X ++ [x], by simp, by simp⟩
  · exact ⟨X, rfl, rfl⟩
theorem room_map (m : Nat) (X : List Int) : room m (X.map iv) = decide (X.length < m) := by simp [room]

set_option maxRecDepth 100000 in
set_option maxHeartbeats 2000000 in
theorem room_u (most : Int) (w : World) :
    Calls Try.prog 6 #[.int .i64 most, .bool true] w fun e w' => e = .returned (.bool true) ∧ Below w.heap.size w w' := by
  go_enter Try.func6, Try.ntmps6
  go_wp2_with fail
  refine (head_any w).mono ?_
  rintro e w0 ⟨rfl, hb⟩
  have B0 := Lib.hid hb
  have hs0 := hb.size
  clear hb
  go_wp2_with fail
  refine (new_int most w0).mono ?_
  rintro e w1 ⟨d, cu, co, rfl, q, b⟩
  obtain ⟨m, hm⟩ : ∃ m, m = cl most := ⟨_, rfl⟩
  have hm64 : m ≤ 64 := by rw [hm]; exact (cl_bd most).2
  have hm1 : 1 ≤ m := by rw [hm]; exact (cl_bd most).1
  rw [← hm] at q
  have HM := Lib.hid hm
  clear hm
  have Q1 := Lib.hid q
  have B1 := Lib.hid (B0.out.trans (b.mono hs0))
  clear q b
  go_upto_region 5 with fail
  go_cut [7] (fun s wx => s = .int .i64 m ∧ wx = w1)
  case first =>
    go_wp2_with fail
    all_goals
      go_meet
      exact ⟨by rw [HM.out]; congr 1; unfold cl; (repeat' split) <;> omega, rfl⟩
  case rest =>
    obtain ⟨rfl, rfl⟩ := hcut
    obtain ⟨w2, hw2⟩ : ∃ w2, w2 = wc := ⟨_, rfl⟩
    subst hw2
    go_wp2_with fail
    go_loopw [8] (fun i wr => ∃ (k : Nat) (X : List Int), k ≤ 70 ∧ X.length = min k m ∧ i = .int .i64 k ∧ Q w0.heap.size wr d cu co m (X.map iv) [] ∧ Below w.heap.size w wr) (fun i _ => 70 - (intOf i).toNat)
    case atStart => exact ⟨0, [], by omega, by simp, rfl, Q1.out, B1.out⟩
    case round =>
      obtain ⟨k, X, hk, hX, rfl, hq, hb⟩ := hrel
      obtain ⟨w3, hw3⟩ : ∃ w3, w3 = wr := ⟨_, rfl⟩
      subst hw3
      have HQ := Lib.hid hq
      have HB := Lib.hid hb
      have HX := Lib.hid hX
      clear hq hb hX
      by_cases hlt : k < 70
      · obtain ⟨Y, hY, hYl⟩ := push_map m X k
        have hr : room m (X.map iv) = decide ((k : Int) < (m : Int)) := by rw [room_map, HX.out]; exact decide_eq_decide.2 (by omega)
        have HY := Lib.hid hY
        have HYL := Lib.hid (show Y.length = min (k + 1) m by rw [hYl, HX.out]; split <;> omega)
        have HR := Lib.hid hr
        clear hY hYl hr
        go_wp2_with fail
        refine (put_int_u k HQ.out).mono ?_
        rintro e w4 ⟨rfl, hq4, hb4⟩
        rw [HY.out] at hq4
        rw [HR.out]
        have HQ4 := Lib.hid hq4
        have HB4 := Lib.hid (HB.out.trans (hb4.mono hs0))
        clear hq4 hb4
        go_wp2_with fail
        go_roundw
        case rel => exact ⟨k + 1, Y, by omega, HYL.out, by go_num, HQ4.out, HB4.out⟩
        case measure => simp [intOf]; omega
      · have hXm : X.length = m := by rw [HX.out]; omega
        have HXM := Lib.hid hXm
        clear hXm
        have hk70 : k = 70 := by omega
        subst hk70
        go_wp2_with fail
        refine (put_int_o 1 HQ.out).mono ?_
        rintro e w4 ⟨rfl, hq4, hb4⟩
        rw [show pushL m [] (.int .i64 1) = [1].map iv by simp [pushL]; omega] at hq4
        rw [show room m [] = true by simp [room]; omega]
        have HQ4 := Lib.hid hq4
        have HB4 := Lib.hid (HB.out.trans (hb4.mono hs0))
        clear hq4 hb4
        go_wp2_with fail
        refine (drain_int HQ4.out hm64).mono ?_
        rintro e w5 ⟨rfl, hq5, hb5⟩
        rw [show X.length + ([1] : List Int).length = m + 1 by rw [HXM.out]; rfl]
        have HQ5 := Lib.hid hq5
        have HB5 := Lib.hid (HB4.out.trans (hb5.mono hs0))
        clear hq5 hb5
        go_wp2_with fail
        refine (drain_int (U := []) (O := []) HQ5.out hm64).mono ?_
        rintro e w6 ⟨rfl, hq6, hb6⟩
        have HB6 := Lib.hid (HB5.out.trans (hb6.mono hs0))
        clear hq6 hb6
        go_wp2_with fail
        go_ret
        exact ⟨rfl, HB6.out⟩

set_option maxRecDepth 100000 in
set_option maxHeartbeats 2000000 in
theorem room_o (most : Int) (w : World) :
    Calls Try.prog 6 #[.int .i64 most, .bool false] w fun e w' => e = .returned (.bool true) ∧ Below w.heap.size w w' := by
  go_enter Try.func6, Try.ntmps6
  go_wp2_with fail
  refine (head_any w).mono ?_
  rintro e w0 ⟨rfl, hb⟩
  have B0 := Lib.hid hb
  have hs0 := hb.size
  clear hb
  go_wp2_with fail
  refine (new_int most w0).mono ?_
  rintro e w1 ⟨d, cu, co, rfl, q, b⟩
  obtain ⟨m, hm⟩ : ∃ m, m = cl most := ⟨_, rfl⟩
  have hm64 : m ≤ 64 := by rw [hm]; exact (cl_bd most).2
  have hm1 : 1 ≤ m := by rw [hm]; exact (cl_bd most).1
  rw [← hm] at q
  have HM := Lib.hid hm
  clear hm
  have Q1 := Lib.hid q
  have B1 := Lib.hid (B0.out.trans (b.mono hs0))
  clear q b
  go_upto_region 5 with fail
  go_cut [7] (fun s wx => s = .int .i64 m ∧ wx = w1)
  case first =>
    go_wp2_with fail
    all_goals
      go_meet
      exact ⟨by rw [HM.out]; congr 1; unfold cl; (repeat' split) <;> omega, rfl⟩
  case rest =>
    obtain ⟨rfl, rfl⟩ := hcut
    obtain ⟨w2, hw2⟩ : ∃ w2, w2 = wc := ⟨_, rfl⟩
    subst hw2
    go_wp2_with fail
    go_loopw [8] (fun i wr => ∃ (k : Nat) (X : List Int), k ≤ 70 ∧ X.length = min k m ∧ i = .int .i64 k ∧ Q w0.heap.size wr d cu co m [] (X.map iv) ∧ Below w.heap.size w wr) (fun i _ => 70 - (intOf i).toNat)
    case atStart => exact ⟨0, [], by omega, by simp, rfl, Q1.out, B1.out⟩
    case round =>
      obtain ⟨k, X, hk, hX, rfl, hq, hb⟩ := hrel
      obtain ⟨w3, hw3⟩ : ∃ w3, w3 = wr := ⟨_, rfl⟩
      subst hw3
      have HQ := Lib.hid hq
      have HB := Lib.hid hb
      have HX := Lib.hid hX
      clear hq hb hX
      by_cases hlt : k < 70
      · obtain ⟨Y, hY, hYl⟩ := push_map m X k
        have hr : room m (X.map iv) = decide ((k : Int) < (m : Int)) := by rw [room_map, HX.out]; exact decide_eq_decide.2 (by omega)
        have HY := Lib.hid hY
        have HYL := Lib.hid (show Y.length = min (k + 1) m by rw [hYl, HX.out]; split <;> omega)
        have HR := Lib.hid hr
        clear hY hYl hr
        go_wp2_with fail
        refine (put_int_o k HQ.out).mono ?_
        rintro e w4 ⟨rfl, hq4, hb4⟩
        rw [HY.out] at hq4
        rw [HR.out]
        have HQ4 := Lib.hid hq4
        have HB4 := Lib.hid (HB.out.trans (hb4.mono hs0))
        clear hq4 hb4
        go_wp2_with fail
        go_roundw
        case rel => exact ⟨k + 1, Y, by omega, HYL.out, by go_num, HQ4.out, HB4.out⟩
        case measure => simp [intOf]; omega
      · have hXm : X.length = m := by rw [HX.out]; omega
        have HXM := Lib.hid hXm
        clear hXm
        have hk70 : k = 70 := by omega
        subst hk70
        go_wp2_with fail
        refine (put_int_u 1 HQ.out).mono ?_
        rintro e w4 ⟨rfl, hq4, hb4⟩
        rw [show pushL m [] (.int .i64 1) = [1].map iv by simp [pushL]; omega] at hq4
        rw [show room m [] = true by simp [room]; omega]
        have HQ4 := Lib.hid hq4
        have HB4 := Lib.hid (HB.out.trans (hb4.mono hs0))
        clear hq4 hb4
        go_wp2_with fail
        refine (drain_int HQ4.out hm64).mono ?_
        rintro e w5 ⟨rfl, hq5, hb5⟩
        rw [show ([1] : List Int).length + X.length = m + 1 by rw [HXM.out]; simp; omega]
        have HQ5 := Lib.hid hq5
        have HB5 := Lib.hid (HB4.out.trans (hb5.mono hs0))
        clear hq5 hb5
        go_wp2_with fail
        refine (drain_int (U := []) (O := []) HQ5.out hm64).mono ?_
        rintro e w6 ⟨rfl, hq6, hb6⟩
        have HB6 := Lib.hid (HB5.out.trans (hb6.mono hs0))
        clear hq6 hb6
        go_wp2_with fail
        go_ret
        exact ⟨rfl, HB6.out⟩

theorem room_all (most : Int) (ur : Bool) (w : World) : Calls Try.prog 6 #[.int .i64 most, .bool ur] w fun e w' => e = .returned (.bool true) ∧ Below w.heap.size w w' := by
  cases ur
  · exact room_o most w
  · exact room_u most w

end Go.Proofs.Ytbonifmhlbakbaa
