/- The walk of DelayStood. -/
import Derived.Test.YtckmgknngpjklaaFirst
namespace Go.Proofs.Ytckmgknngpjklaa
set_option linter.unusedVariables false
open Go.ChangeShapes Go.WideShapes Go.ChangeAt Go.RowKit

def dSt (on off : Int) (c run : Bool) (fr now : Int) : D := ⟨c, off, on, run, if run then fr else 0, now⟩

theorem dSt_same (on off : Int) (c run : Bool) (fr now n : Int) (h : now ≤ n) (h1 : n ≤ 100000) : (dSt on off c run fr now).see c n = dSt on off c false fr n := by
  have e : wi n now = n := wi_up n now h (by omega)
  simp [dSt, D.see, e]

theorem dSt_rest (on off : Int) (c run : Bool) (fr fr' now n : Int) (hf : fr' = if run then fr else n) (h : now ≤ n) (h1 : n ≤ 100000) (ht : ¬ (if !c then on else off) ≤ n - fr') : (dSt on off c run fr now).see (!c) n = dSt on off c true fr' n := by
  have e : wi n now = n := wi_up n now h (by omega)
  subst hf
  cases run <;> cases c <;> simp [dSt, D.see, e] at ht ⊢ <;> omega

theorem dSt_turn (on off : Int) (c run : Bool) (fr fr' now n : Int) (hf : fr' = if run then fr else n) (h : now ≤ n) (h1 : n ≤ 100000) (ht : (if !c then on else off) ≤ n - fr') : (dSt on off c run fr now).see (!c) n = dSt on off (!c) false fr' n := by
  have e : wi n now = n := wi_up n now h (by omega)
  subst hf
  cases run <;> cases c <;> simp [dSt, D.see, e] at ht ⊢ <;> omega

set_option maxRecDepth 100000 in
set_option maxHeartbeats 4000000 in
theorem stood_walk (on off : Int) (a2 a3 : Option Addr) (l2 l3 c2 c3 : Nat) (f2 : Nat → Bool) (f3 : Nat → Int) (w : World)
    (on0 : 0 ≤ on) (on1 : on ≤ 255) (off0 : 0 ≤ off) (off1 : off ≤ 255)
    (r2 : Row w a2 l2 (fun i => .bool (f2 i))) (r3 : Row w a3 l3 (fun i => .int .u8 (f3 i))) (w3 : ∀ i, i < l3 → 0 ≤ f3 i ∧ f3 i ≤ 255) (s2 : l2 ≤ 300) :
    Calls Try.prog 4 #[.int .u8 on, .int .u8 off, .slice a2 l2 c2, .slice a3 l3 c3] w fun e w' => e = .returned (.bool true) ∧ Below w.heap.size w w' := by
  have m3 := r3.le
  unfold maxLen at m3
  have d2 : decide (300 < (l2 : Int)) = false := by simp; omega
  have R2 := Lib.hid r2
  have R3 := Lib.hid r3
  have W3 := Lib.hid w3
  clear r2 r3 w3
  go_enter Try.func4, Try.ntmps4
  go_wp2_with fail
  refine (head_any w).mono ?_
  rintro e w0 ⟨rfl, hb0⟩
  go_wp2_with fail
  refine (new_one hb0 hb0.size on off).mono ?_
  rintro e w1 ⟨rfl, hb1, hB1, o1⟩
  clear hb0 hb1 hB1
  have es : D.mk false (wi off 0) (wi on 0) false 0 0 = dSt on off false false 0 0 := by
    rw [wi_up on 0 on0 (by omega), wi_up off 0 off0 (by omega)]; rfl
  rw [es] at o1
  go_wp2_with fail
  have HO := Lib.hid o1
  clear o1 es
  go_loopw [11, 12, 13, 14, 15] (fun c t fr run i wr => ∃ (k : Nat) (now from' : Int) (cb rb : Bool), k ≤ l2 ∧ i = .int .i64 k ∧ t = .int .i64 now ∧ fr = .int .i64 from' ∧ c = .bool cb ∧ run = .bool rb ∧ 0 ≤ now ∧ now ≤ 255 * (k : Int) ∧ 0 ≤ from' ∧ from' ≤ now ∧ One w.heap.size w0.heap.size (dSt on off cb rb from' now) w wr) (fun _ _ _ _ i _ => l2 - (intOf i).toNat)
  case atStart => exact ⟨0, 0, 0, false, false, Nat.zero_le _, rfl, rfl, rfl, rfl, rfl, by omega, by omega, by omega, by omega, HO.out⟩
  case round =>
    obtain ⟨k, now, fr, cb, rb, hk, rfl, rfl, rfl, rfl, rfl, n0, n1, n2, n3, o⟩ := hrel
    by_cases hlt : k < l2 ∧ k < l3
    · obtain ⟨hl2, hl3⟩ := hlt
      obtain ⟨b2, o2, e2, lt2, k2⟩ := R2.out.pos (by omega)
      have hw2 := k2 k hl2
      have hc2 := (o.bel.cell (p := ⟨b2, o2 + k, none⟩) lt2).trans hw2
      clear k2
      subst e2
      obtain ⟨b3, o3, e3, lt3, k3⟩ := R3.out.pos (by omega)
      have hc3 := (o.bel.cell (p := ⟨b3, o3 + k, none⟩) lt3).trans (k3 k hl3)
      clear k3
      subst e3
      obtain ⟨g0, g1⟩ := W3.out k hl3
      generalize f2 k = v at hc2 hw2
      by_cases hv : v = cb
      · subst hv
        have HE := Lib.hid (dSt_same on off v rb fr now (now + f3 k) (by omega) (by omega))
        cases v <;> cases rb
        all_goals
          go_wp2_with fail
          refine (see_one o _ _ _ HE.out).mono ?_
          rintro e w5 ⟨rfl, o5⟩
          go_wp2_with fail
          refine (value_one o5).mono ?_
          rintro e w6 ⟨rfl, o6⟩
          go_wp2_with fail
          go_roundw
          case rel => exact ⟨k + 1, now + f3 k, fr, _, _, by omega, by go_num, rfl, rfl, rfl, rfl, by omega, by omega, by omega, by omega, o6⟩
          case measure => simp [intOf]; omega
      · have hv' : v = !cb := by cases v <;> cases cb <;> simp_all
        subst hv'
        clear hv
        cases rb <;> cases cb
        all_goals simp only [Bool.not_false, Bool.not_true] at hc2 hw2
        · by_cases ht : on ≤ 0
          · have HE := Lib.hid (dSt_turn on off false false fr (now + f3 k) now (now + f3 k) (by simp) (by omega) (by omega) (by simp; omega))
            go_wp2_with fail
            refine (see_one o _ _ _ HE.out).mono ?_
            rintro e w5 ⟨rfl, o5⟩
            have hc5 := (o5.bel.cell (p := ⟨b2, o2 + k, none⟩) lt2).trans hw2
            go_wp2_with fail
            refine (value_one o5).mono ?_
            rintro e w6 ⟨rfl, o6⟩
            go_wp2_with fail
            go_roundw
            case rel => exact ⟨k + 1, now + f3 k, (now + f3 k), _, _, by omega, by go_num, rfl, rfl, rfl, rfl, by omega, by omega, by omega, by omega, o6⟩
            case measure => simp [intOf]; omega
          · have HE := Lib.hid (dSt_rest on off false false fr (now + f3 k) now (now + f3 k) (by simp) (by omega) (by omega) (by simp; omega))
            go_wp2_with fail
            refine (see_one o _ _ _ HE.out).mono ?_
            rintro e w5 ⟨rfl, o5⟩
            have hc5 := (o5.bel.cell (p := ⟨b2, o2 + k, none⟩) lt2).trans hw2
            go_wp2_with fail
            refine (value_one o5).mono ?_
            rintro e w6 ⟨rfl, o6⟩
            go_wp2_with fail
            go_roundw
            case rel => exact ⟨k + 1, now + f3 k, (now + f3 k), _, _, by omega, by go_num, rfl, rfl, rfl, rfl, by omega, by omega, by omega, by omega, o6⟩
            case measure => simp [intOf]; omega
        · by_cases ht : off ≤ 0
          · have HE := Lib.hid (dSt_turn on off true false fr (now + f3 k) now (now + f3 k) (by simp) (by omega) (by omega) (by simp; omega))
            go_wp2_with fail
            refine (see_one o _ _ _ HE.out).mono ?_
            rintro e w5 ⟨rfl, o5⟩
            have hc5 := (o5.bel.cell (p := ⟨b2, o2 + k, none⟩) lt2).trans hw2
            go_wp2_with fail
            refine (value_one o5).mono ?_
            rintro e w6 ⟨rfl, o6⟩
            go_wp2_with fail
            go_roundw
            case rel => exact ⟨k + 1, now + f3 k, (now + f3 k), _, _, by omega, by go_num, rfl, rfl, rfl, rfl, by omega, by omega, by omega, by omega, o6⟩
            case measure => simp [intOf]; omega
          · have HE := Lib.hid (dSt_rest on off true false fr (now + f3 k) now (now + f3 k) (by simp) (by omega) (by omega) (by simp; omega))
            go_wp2_with fail
            refine (see_one o _ _ _ HE.out).mono ?_
            rintro e w5 ⟨rfl, o5⟩
            have hc5 := (o5.bel.cell (p := ⟨b2, o2 + k, none⟩) lt2).trans hw2
            go_wp2_with fail
            refine (value_one o5).mono ?_
            rintro e w6 ⟨rfl, o6⟩
            go_wp2_with fail
            go_roundw
            case rel => exact ⟨k + 1, now + f3 k, (now + f3 k), _, _, by omega, by go_num, rfl, rfl, rfl, rfl, by omega, by omega, by omega, by omega, o6⟩
            case measure => simp [intOf]; omega
        · by_cases ht : on ≤ now + f3 k - fr
          · have HE := Lib.hid (dSt_turn on off false true fr fr now (now + f3 k) (by simp) (by omega) (by omega) (by simp; omega))
            go_wp2_with fail
            refine (see_one o _ _ _ HE.out).mono ?_
            rintro e w5 ⟨rfl, o5⟩
            have hc5 := (o5.bel.cell (p := ⟨b2, o2 + k, none⟩) lt2).trans hw2
            go_wp2_with fail
            refine (value_one o5).mono ?_
            rintro e w6 ⟨rfl, o6⟩
            go_wp2_with fail
            go_roundw
            case rel => exact ⟨k + 1, now + f3 k, fr, _, _, by omega, by go_num, rfl, rfl, rfl, rfl, by omega, by omega, by omega, by omega, o6⟩
            case measure => simp [intOf]; omega
          · have HE := Lib.hid (dSt_rest on off false true fr fr now (now + f3 k) (by simp) (by omega) (by omega) (by simp; omega))
            go_wp2_with fail
            refine (see_one o _ _ _ HE.out).mono ?_
            rintro e w5 ⟨rfl, o5⟩
            have hc5 := (o5.bel.cell (p := ⟨b2, o2 + k, none⟩) lt2).trans hw2
            go_wp2_with fail
            refine (value_one o5).mono ?_
            rintro e w6 ⟨rfl, o6⟩
            go_wp2_with fail
            go_roundw
            case rel => exact ⟨k + 1, now + f3 k, fr, _, _, by omega, by go_num, rfl, rfl, rfl, rfl, by omega, by omega, by omega, by omega, o6⟩
            case measure => simp [intOf]; omega
        · by_cases ht : off ≤ now + f3 k - fr
          · have HE := Lib.hid (dSt_turn on off true true fr fr now (now + f3 k) (by simp) (by omega) (by omega) (by simp; omega))
            go_wp2_with fail
            refine (see_one o _ _ _ HE.out).mono ?_
            rintro e w5 ⟨rfl, o5⟩
            have hc5 := (o5.bel.cell (p := ⟨b2, o2 + k, none⟩) lt2).trans hw2
            go_wp2_with fail
            refine (value_one o5).mono ?_
            rintro e w6 ⟨rfl, o6⟩
            go_wp2_with fail
            go_roundw
            case rel => exact ⟨k + 1, now + f3 k, fr, _, _, by omega, by go_num, rfl, rfl, rfl, rfl, by omega, by omega, by omega, by omega, o6⟩
            case measure => simp [intOf]; omega
          · have HE := Lib.hid (dSt_rest on off true true fr fr now (now + f3 k) (by simp) (by omega) (by omega) (by simp; omega))
            go_wp2_with fail
            refine (see_one o _ _ _ HE.out).mono ?_
            rintro e w5 ⟨rfl, o5⟩
            have hc5 := (o5.bel.cell (p := ⟨b2, o2 + k, none⟩) lt2).trans hw2
            go_wp2_with fail
            refine (value_one o5).mono ?_
            rintro e w6 ⟨rfl, o6⟩
            go_wp2_with fail
            go_roundw
            case rel => exact ⟨k + 1, now + f3 k, fr, _, _, by omega, by go_num, rfl, rfl, rfl, rfl, by omega, by omega, by omega, by omega, o6⟩
            case measure => simp [intOf]; omega
    · go_wp2_with fail
      all_goals
        go_ret
        exact ⟨rfl, o.bel⟩
theorem stood_big (on off : Int) (a2 a3 : Option Addr) (l2 l3 c2 c3 : Nat) (w : World) (on0 : 0 ≤ on) (on1 : on ≤ 255) (off0 : 0 ≤ off) (off1 : off ≤ 255)
    (m2 : l2 ≤ maxLen) (s : 300 < l2) :
    Calls Try.prog 4 #[.int .u8 on, .int .u8 off, .slice a2 l2 c2, .slice a3 l3 c3] w fun e w' => e = .returned (.bool true) ∧ Below w.heap.size w w' := by
  unfold maxLen at m2
  have d2 : decide (300 < (l2 : Int)) = true := by simp; omega
  go_enter Try.func4, Try.ntmps4
  go_wp2_with fail
  refine (head_any w).mono ?_
  rintro e w0 ⟨rfl, hb0⟩
  go_wp2_with fail
  refine (new_one hb0 hb0.size on off).mono ?_
  rintro e w1 ⟨rfl, hb1, hB1, o1⟩
  go_wp2_with fail
  go_ret
  exact ⟨rfl, hb1⟩

theorem stood_all (on off : Int) (won : (Lit.int .u8 on).wf = true) (woff : (Lit.int .u8 off).wf = true) (a2 a3 : Option Addr) (l2 l3 c2 c3 : Nat) (f2 : Nat → Bool) (f3 : Nat → Int) (w : World)
    (r2 : Row w a2 l2 (fun i => .bool (f2 i))) (r3 : Row w a3 l3 (fun i => .int .u8 (f3 i))) (w3 : ∀ i, i < l3 → (Lit.int .u8 (f3 i)).wf = true) :
    Calls Try.prog 4 #[.int .u8 on, .int .u8 off, .slice a2 l2 c2, .slice a3 l3 c3] w fun e w' => e = .returned (.bool true) ∧ Below w.heap.size w w' := by
  have x0 := bd_u8 won
  have x1 := bd_u8 woff
  by_cases s : 300 < l2
  · exact stood_big on off a2 a3 l2 l3 c2 c3 w x0.1 x0.2 x1.1 x1.2 r2.le s
  · exact stood_walk on off a2 a3 l2 l3 c2 c3 f2 f3 w x0.1 x0.2 x1.1 x1.2 r2 r3 (fun i hi => bd_u8 (w3 i hi)) (by omega)

end Go.Proofs.Ytckmgknngpjklaa
