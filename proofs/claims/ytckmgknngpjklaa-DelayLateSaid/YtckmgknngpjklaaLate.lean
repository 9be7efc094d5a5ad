/- The walk of DelayLate. -/
import Derived.Test.YtckmgknngpjklaaD
namespace Go.Proofs.Ytckmgknngpjklaa
set_option linter.unusedVariables false
open Go.ChangeShapes Go.WideShapes Go.ChangeAt Go.RowKit

theorem wi_in (n l : Int) (h : l ≤ n) (h1 : n ≤ 1099511627776) : wi n l = n := by unfold wi lim; split <;> split <;> omega
theorem wi_le (n l : Int) (h : n ≤ l) (h1 : l ≤ 1099511627776) : wi n l = l := by unfold wi lim; split <;> split <;> omega
theorem wi_max (n l : Int) (h : 1099511627776 ≤ n) (h1 : l ≤ 1099511627776) : wi n l = 1099511627776 := by unfold wi lim; split <;> split <;> omega

theorem late1 (on a : Int) (h0 : 0 ≤ on) (h1 : on ≤ 255) (a0 : 0 ≤ a) (a1 : a ≤ 4294967295) :
    (D.mk false (wi 0 0) (wi on 0) false 0 0).see false a = ⟨false, 0, on, false, 0, a⟩ := by
  rw [wi_in on 0 h0 (by omega), wi_in 0 0 (by omega) (by omega)]
  simp [D.see, wi_in a 0 a0 (by omega)]

def late2D (on a : Int) : D := if on ≤ 0 then ⟨true, 0, on, false, 0, a⟩ else ⟨false, 0, on, true, a, a⟩
theorem late2 (on a b : Int) (h0 : 0 ≤ on) (h1 : on ≤ 255) (a0 : 0 ≤ a) (a1 : a ≤ 4294967295) (hb : b ≤ a) :
    (D.mk false 0 on false 0 a).see true b = late2D on a := by
  simp [D.see, wi_le b a hb (by omega), late2D]

theorem late3 (on a c x : Int) (h : wi x a = wi c a) : ((late2D on a).see true x) = (late2D on a).see true c := by
  unfold late2D
  split <;> simp [D.see, h]

theorem late4 (on a c : Int) (h1 : on ≤ 255) (a0 : 0 ≤ a) (a1 : a ≤ 4294967295) : (((late2D on a).see true c).see true 4611686018427387904).c = true := by
  have hw := wi_bd c a a0 (by omega)
  have hm := wi_max 4611686018427387904 (wi c a) (by omega) hw.2
  by_cases h : on ≤ 0
  · simp [late2D, h, D.see, hm]
  · by_cases hk : on ≤ wi c a - a
    · have e1 : (late2D on a).see true c = ⟨true, 0, on, false, 0, wi c a⟩ := by simp [late2D, h, D.see, hk]
      rw [e1]; simp [D.see]
    · have e1 : (late2D on a).see true c = ⟨false, 0, on, true, a, wi c a⟩ := by simp [late2D, h, D.see, hk]
      have : on ≤ 1099511627776 - a := by omega
      rw [e1]; simp [D.see, hm, this]

theorem wi_eq1 (c a : Int) (h : c < a) : wi a a = wi c a := by unfold wi lim; (repeat' split) <;> omega
theorem wi_eq2 (c a : Int) (h : 1099511627776 < c) : wi 1099511627776 a = wi c a := by unfold wi lim; simp [h]

theorem late5 (a b : Int) (hb : b ≤ a) (a1 : a ≤ 4294967295) (on : Int) (h : 1 ≤ on) :
    (D.mk false 0 on false 0 a).see true b = ⟨false, 0, on, true, a, a⟩ := by
  have h' : ¬ on ≤ 0 := by omega
  simp [D.see, wi_le b a hb (by omega), h']
theorem late5' (a b : Int) (hb : b ≤ a) (a1 : a ≤ 4294967295) :
    (D.mk false 0 0 false 0 a).see true b = ⟨true, 0, 0, false, 0, a⟩ := by
  simp [D.see, wi_le b a hb (by omega)]

set_option maxHeartbeats 1000000 in
theorem late_walk0 (a b c : Int) (a0 : 0 ≤ a) (a1 : a ≤ 4294967295) (b0 : 0 ≤ b) (b1 : b ≤ 4294967295) (w : World) :
    Calls Try.prog 6 #[.int .u8 0, .int .u32 a, .int .u32 b, .int .i64 c] w fun e w' => e = .returned (.bool true) ∧ Below w.heap.size w w' := by
  obtain ⟨d3, hd3⟩ : ∃ d3, (D.mk true 0 0 false 0 a).see true c = d3 := ⟨_, rfl⟩
  obtain ⟨d4, hd4⟩ : ∃ d4, d3.see true 4611686018427387904 = d4 := ⟨_, rfl⟩
  have el : late2D 0 a = (D.mk true 0 0 false 0 a) := by simp [late2D]
  have h4 : d4.c = true := by
    rw [← hd4, ← hd3, ← el]; exact late4 0 a c (by omega) a0 a1
  have hx3 : ∀ x, wi x a = wi c a → (D.mk true 0 0 false 0 a).see true x = d3 := by
    intro x hx; rw [← hd3, ← el]; exact late3 0 a c x hx
  have H3 := Lib.hid hd3
  have H4 := Lib.hid hd4
  have HC := Lib.hid h4
  have HX := Lib.hid hx3
  clear hd3 hd4 h4 hx3 el
  have hc3 : c < a ∨ (a ≤ c ∧ c ≤ 1099511627776) ∨ (a ≤ c ∧ 1099511627776 < c) := by omega
  rcases hc3 with hc | ⟨hc, hcc⟩ | ⟨hc, hcc⟩
  all_goals
   go_enter Try.func6, Try.ntmps6
   go_wp2_with fail
   refine (head_any w).mono ?_
   rintro e w0 ⟨rfl, hb0⟩
   go_wp2_with fail
   refine (new_one hb0 hb0.size 0 0).mono ?_
   rintro e w1 ⟨rfl, hb1, hB1, o1⟩
   clear hb0 hb1 hB1
   go_wp2_with fail
   refine (new_two o1 0 0).mono ?_
   rintro e w2 ⟨rfl, t2⟩
   clear o1
   go_wp2_with fail
   refine (see_fst t2 false a _ (late1 0 a (by omega) (by omega) a0 a1)).mono ?_
   rintro e w3 ⟨rfl, t3⟩
   go_wp2_with fail
   refine (see_snd t3 false a _ (late1 0 a (by omega) (by omega) a0 a1)).mono ?_
   rintro e w4 ⟨rfl, t4⟩
   clear t2 t3
   go_wp2_with fail
   all_goals
     refine (see_fst t4 true _ _ (late5' a _ (by omega) a1)).mono ?_
     rintro e w5 ⟨rfl, t5⟩
     go_wp2_with fail
     refine (see_snd t5 true _ _ (late5' a _ (by omega) a1)).mono ?_
     rintro e w6 ⟨rfl, t6⟩
     clear t4 t5
     go_wp2_with fail
     refine (since_fst t6).mono ?_
     rintro e w7 ⟨rfl, t7⟩
     go_wp2_with fail
     refine (since_snd t7).mono ?_
     rintro e w8 ⟨rfl, t8⟩
     clear t6 t7
     go_wp2_with fail
     refine (see_fst t8 true c _ H3.out).mono ?_
     rintro e w9 ⟨rfl, t9⟩
     go_wp2_with fail
     refine (see_snd t9 true _ _ (HX.out _ (by first | rfl | exact wi_eq1 c a hc | exact wi_eq2 c a hcc))).mono ?_
     rintro e w10 ⟨rfl, t10⟩
     clear t8 t9
     go_wp2_with fail
     refine (value_fst t10).mono ?_
     rintro e w11 ⟨rfl, t11⟩
     go_wp2_with fail
     refine (value_snd t11).mono ?_
     rintro e w12 ⟨rfl, t12⟩
     go_wp2_with fail
     refine (see_fst t12 true _ _ H4.out).mono ?_
     rintro e w13 ⟨rfl, t13⟩
     go_wp2_with fail
     go_ret
     exact ⟨ret_bool HC.out, t13.fst.bel⟩

set_option maxHeartbeats 1000000 in
theorem late_walk1 (on a b c : Int) (h0 : 1 ≤ on) (h1 : on ≤ 255) (a0 : 0 ≤ a) (a1 : a ≤ 4294967295) (b0 : 0 ≤ b) (b1 : b ≤ 4294967295) (w : World) :
    Calls Try.prog 6 #[.int .u8 on, .int .u32 a, .int .u32 b, .int .i64 c] w fun e w' => e = .returned (.bool true) ∧ Below w.heap.size w w' := by
  obtain ⟨d3, hd3⟩ : ∃ d3, (D.mk false 0 on true a a).see true c = d3 := ⟨_, rfl⟩
  obtain ⟨d4, hd4⟩ : ∃ d4, d3.see true 4611686018427387904 = d4 := ⟨_, rfl⟩
  have el : late2D on a = (D.mk false 0 on true a a) := by simp [late2D, show ¬ on ≤ 0 by omega]
  have h4 : d4.c = true := by
    rw [← hd4, ← hd3, ← el]; exact late4 on a c (by omega) a0 a1
  have hx3 : ∀ x, wi x a = wi c a → (D.mk false 0 on true a a).see true x = d3 := by
    intro x hx; rw [← hd3, ← el]; exact late3 on a c x hx
  have H3 := Lib.hid hd3
  have H4 := Lib.hid hd4
  have HC := Lib.hid h4
  have HX := Lib.hid hx3
  clear hd3 hd4 h4 hx3 el
  have hc3 : c < a ∨ (a ≤ c ∧ c ≤ 1099511627776) ∨ (a ≤ c ∧ 1099511627776 < c) := by omega
  rcases hc3 with hc | ⟨hc, hcc⟩ | ⟨hc, hcc⟩
  all_goals
   go_enter Try.func6, Try.ntmps6
   go_wp2_with fail
   refine (head_any w).mono ?_
   rintro e w0 ⟨rfl, hb0⟩
   go_wp2_with fail
   refine (new_one hb0 hb0.size on 0).mono ?_
   rintro e w1 ⟨rfl, hb1, hB1, o1⟩
   clear hb0 hb1 hB1
   go_wp2_with fail
   refine (new_two o1 on 0).mono ?_
   rintro e w2 ⟨rfl, t2⟩
   clear o1
   go_wp2_with fail
   refine (see_fst t2 false a _ (late1 on a (by omega) h1 a0 a1)).mono ?_
   rintro e w3 ⟨rfl, t3⟩
   go_wp2_with fail
   refine (see_snd t3 false a _ (late1 on a (by omega) h1 a0 a1)).mono ?_
   rintro e w4 ⟨rfl, t4⟩
   clear t2 t3
   go_wp2_with fail
   all_goals
     refine (see_fst t4 true _ _ (late5 a _ (by omega) a1 on h0)).mono ?_
     rintro e w5 ⟨rfl, t5⟩
     go_wp2_with fail
     refine (see_snd t5 true _ _ (late5 a _ (by omega) a1 on h0)).mono ?_
     rintro e w6 ⟨rfl, t6⟩
     clear t4 t5
     go_wp2_with fail
     refine (since_fst t6).mono ?_
     rintro e w7 ⟨rfl, t7⟩
     go_wp2_with fail
     refine (since_snd t7).mono ?_
     rintro e w8 ⟨rfl, t8⟩
     clear t6 t7
     go_wp2_with fail
     refine (see_fst t8 true c _ H3.out).mono ?_
     rintro e w9 ⟨rfl, t9⟩
     go_wp2_with fail
     refine (see_snd t9 true _ _ (HX.out _ (by first | rfl | exact wi_eq1 c a hc | exact wi_eq2 c a hcc))).mono ?_
     rintro e w10 ⟨rfl, t10⟩
     clear t8 t9
     go_wp2_with fail
     refine (value_fst t10).mono ?_
     rintro e w11 ⟨rfl, t11⟩
     go_wp2_with fail
     refine (value_snd t11).mono ?_
     rintro e w12 ⟨rfl, t12⟩
     go_wp2_with fail
     refine (see_fst t12 true _ _ H4.out).mono ?_
     rintro e w13 ⟨rfl, t13⟩
     go_wp2_with fail
     go_ret
     exact ⟨ret_bool HC.out, t13.fst.bel⟩


theorem late_walk (on a b c : Int) (h0 : 0 ≤ on) (h1 : on ≤ 255) (a0 : 0 ≤ a) (a1 : a ≤ 4294967295) (b0 : 0 ≤ b) (b1 : b ≤ 4294967295) (w : World) :
    Calls Try.prog 6 #[.int .u8 on, .int .u32 a, .int .u32 b, .int .i64 c] w fun e w' => e = .returned (.bool true) ∧ Below w.heap.size w w' := by
  by_cases h : on = 0
  · subst h
    exact late_walk0 a b c a0 a1 b0 b1 w
  · exact late_walk1 on a b c (by omega) h1 a0 a1 b0 b1 w

end Go.Proofs.Ytckmgknngpjklaa
