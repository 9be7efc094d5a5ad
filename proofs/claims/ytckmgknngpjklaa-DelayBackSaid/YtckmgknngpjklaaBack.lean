/- The walk of DelayBack. -/
import Derived.Test.YtckmgknngpjklaaFirst
namespace Go.Proofs.Ytckmgknngpjklaa
set_option linter.unusedVariables false
open Go.ChangeShapes Go.WideShapes Go.ChangeAt Go.RowKit

theorem back1 (on off a : Int) (on0 : 0 ≤ on) (on1 : on ≤ 255) (off0 : 0 ≤ off) (off1 : off ≤ 255) (a0 : 0 ≤ a) (a1 : a ≤ 65535) :
    (D.mk false (wi off 0) (wi (1 + on) 0) false 0 0).see true a = ⟨false, off, 1 + on, true, a, a⟩ := by
  rw [wi_up (1 + on) 0 (by omega) (by omega), wi_up off 0 off0 (by omega)]
  have h : ¬ 1 + on ≤ 0 := by omega
  simp [D.see, wi_up a 0 a0 (by omega), h]
theorem back2 (on off a : Int) (on0 : 0 ≤ on) (on1 : on ≤ 255) (a0 : 0 ≤ a) (a1 : a ≤ 65535) :
    (D.mk false off (1 + on) true a a).see true (a + on) = ⟨false, off, 1 + on, true, a, a + on⟩ := by
  have h : ¬ 1 + on ≤ a + on - a := by omega
  simp [D.see, wi_up (a + on) a (by omega) (by omega), h]
theorem back3 (on off a : Int) (on0 : 0 ≤ on) (on1 : on ≤ 255) (a0 : 0 ≤ a) (a1 : a ≤ 65535) :
    (D.mk false off (1 + on) true a (a + on)).see false (a + on) = ⟨false, off, 1 + on, false, 0, a + on⟩ := by
  simp [D.see, wi_up (a + on) (a + on) (by omega) (by omega)]
theorem back4 (on off a : Int) (on0 : 0 ≤ on) (on1 : on ≤ 255) (off0 : 0 ≤ off) (off1 : off ≤ 255) (a0 : 0 ≤ a) (a1 : a ≤ 65535) :
    (D.mk false (wi off 0) (wi (1 + on) 0) false 0 0).see false (a + on) = ⟨false, off, 1 + on, false, 0, a + on⟩ := by
  rw [wi_up (1 + on) 0 (by omega) (by omega), wi_up off 0 off0 (by omega)]
  simp [D.see, wi_up (a + on) 0 (by omega) (by omega)]

theorem Two.drew {B b c : Nat} {d x : D} {W w : World} (h : Two B b c d x W w) : Two B b c d x W w.drew := h.drewN 1

set_option maxRecDepth 100000 in
set_option maxHeartbeats 4000000 in
theorem back_walk (on off a : Int) (a2 a3 : Option Addr) (l2 l3 c2 c3 : Nat) (f2 : Nat → Bool) (f3 : Nat → Int) (w : World)
    (on0 : 0 ≤ on) (on1 : on ≤ 255) (off0 : 0 ≤ off) (off1 : off ≤ 255) (ha0 : 0 ≤ a) (ha1 : a ≤ 65535)
    (r2 : Row w a2 l2 (fun i => .bool (f2 i))) (r3 : Row w a3 l3 (fun i => .int .u8 (f3 i))) (w3 : ∀ i, i < l3 → 0 ≤ f3 i ∧ f3 i ≤ 255) (s2 : l2 ≤ 300) :
    Calls Try.prog 5 #[.int .u8 on, .int .u8 off, .int .u16 a, .slice a2 l2 c2, .slice a3 l3 c3] w fun e w' => e = .returned (.bool true) ∧ Below w.heap.size w w' := by
  have m3 := r3.le
  unfold maxLen at m3
  have d2 : decide (300 < (l2 : Int)) = false := by simp; omega
  have R2 := Lib.hid r2
  have R3 := Lib.hid r3
  have W3 := Lib.hid w3
  clear r2 r3 w3
  go_enter Try.func5, Try.ntmps5
  go_wp2_with fail
  refine (head_any w).mono ?_
  rintro e w0 ⟨rfl, hb0⟩
  go_wp2_with fail
  refine (new_one hb0 hb0.size (1 + on) off).mono ?_
  rintro e w1 ⟨rfl, hb1, hB1, o1⟩
  clear hb0 hb1 hB1
  go_wp2_with fail
  refine (new_two o1 (1 + on) off).mono ?_
  rintro e w2 ⟨rfl, t2⟩
  clear o1
  go_wp2_with fail
  refine (see_fst t2 true a _ (back1 on off a on0 on1 off0 off1 ha0 ha1)).mono ?_
  rintro e w3 ⟨rfl, t3⟩
  go_wp2_with fail
  refine (see_fst t3 true (a + on) _ (back2 on off a on0 on1 ha0 ha1)).mono ?_
  rintro e w4 ⟨rfl, t4⟩
  go_wp2_with fail
  refine (see_fst t4 false (a + on) _ (back3 on off a on0 on1 ha0 ha1)).mono ?_
  rintro e w5 ⟨rfl, t5⟩
  go_wp2_with fail
  refine (see_snd t5 false (a + on) _ (back4 on off a on0 on1 off0 off1 ha0 ha1)).mono ?_
  rintro e w6 ⟨rfl, t6⟩
  clear t2 t3 t4 t5
  go_wp2_with fail
  have HT := Lib.hid t6
  clear t6
  go_loopw [15, 16] (fun t i wr => ∃ (k : Nat) (now : Int) (d : D), k ≤ l2 ∧ i = .int .i64 k ∧ t = .int .i64 now ∧ 0 ≤ now ∧ now ≤ 65790 + 255 * (k : Int) ∧ Two w.heap.size w0.heap.size w1.heap.size d d w wr) (fun _ i _ => l2 - (intOf i).toNat)
  case atStart => exact ⟨0, a + on, _, Nat.zero_le _, rfl, rfl, by omega, by omega, HT.out⟩
  case round =>
    obtain ⟨k, now, d, hk, rfl, rfl, n0, n1, t⟩ := hrel
    by_cases hlt : k < l2 ∧ k < l3
    · obtain ⟨hl2, hl3⟩ := hlt
      obtain ⟨b2, o2, e2, lt2, k2⟩ := R2.out.pos (by omega)
      have hw2 := k2 k hl2
      have hc2 := (t.fst.bel.cell (p := ⟨b2, o2 + k, none⟩) lt2).trans hw2
      clear k2
      subst e2
      obtain ⟨b3, o3, e3, lt3, k3⟩ := R3.out.pos (by omega)
      have hc3 := (t.fst.bel.cell (p := ⟨b3, o3 + k, none⟩) lt3).trans (k3 k hl3)
      clear k3
      subst e3
      obtain ⟨g0, g1⟩ := W3.out k hl3
      generalize f2 k = v at hc2 hw2
      obtain ⟨d', hd'⟩ : ∃ d', d.see v (now + f3 k) = d' := ⟨_, rfl⟩
      have HD := Lib.hid hd'
      have HW := Lib.hid hw2
      clear hd' hw2
      go_wp2_with fail
      go_region_with (first
        | (go_at_call_of 11 (some ({ block := w0.heap.size, off := 0 } : Addr)); refine (see_fst (by first | exact t.drew | exact t | assumption) _ _ _ HD.out).mono ?_; rintro e w' ⟨rfl, t'⟩; have hc' := (t'.fst.bel.cell (p := ⟨b2, o2 + k, none⟩) lt2).trans HW.out)
        | (go_at_call_of 11 (some ({ block := w1.heap.size, off := 0 } : Addr)); refine (see_snd (by first | exact t'.drew | exact t') _ _ _ HD.out).mono ?_; rintro e w' ⟨rfl, t'⟩; have hc' := (t'.fst.bel.cell (p := ⟨b2, o2 + k, none⟩) lt2).trans HW.out))
      all_goals
        go_wp2_with fail
        go_roundw
        case rel => exact ⟨k + 1, now + f3 k, d', by omega, by go_num, rfl, by omega, by omega, by first | assumption | exact Two.drew (by assumption)⟩
        case measure => simp [intOf]; omega
    · go_wp2_with fail
      all_goals
        refine (value_fst t).mono ?_
        rintro e w7 ⟨rfl, t7⟩
        go_wp2_with fail
        refine (value_snd t7).mono ?_
        rintro e w8 ⟨rfl, t8⟩
        go_wp2_with fail
        go_ret
        exact ⟨rfl, t8.fst.bel⟩
theorem back_big (on off a : Int) (a2 a3 : Option Addr) (l2 l3 c2 c3 : Nat) (w : World) (on0 : 0 ≤ on) (on1 : on ≤ 255) (off0 : 0 ≤ off) (off1 : off ≤ 255)
    (m2 : l2 ≤ maxLen) (s : 300 < l2) :
    Calls Try.prog 5 #[.int .u8 on, .int .u8 off, .int .u16 a, .slice a2 l2 c2, .slice a3 l3 c3] w fun e w' => e = .returned (.bool true) ∧ Below w.heap.size w w' := by
  unfold maxLen at m2
  have d2 : decide (300 < (l2 : Int)) = true := by simp; omega
  go_enter Try.func5, Try.ntmps5
  go_wp2_with fail
  refine (head_any w).mono ?_
  rintro e w0 ⟨rfl, hb0⟩
  go_wp2_with fail
  refine (new_one hb0 hb0.size (1 + on) off).mono ?_
  rintro e w1 ⟨rfl, hb1, hB1, o1⟩
  clear hb0 hb1 hB1
  go_wp2_with fail
  refine (new_two o1 (1 + on) off).mono ?_
  rintro e w2 ⟨rfl, t2⟩
  clear o1
  go_wp2_with fail
  go_ret
  exact ⟨rfl, t2.fst.bel⟩

theorem back_all (on off a : Int) (won : (Lit.int .u8 on).wf = true) (woff : (Lit.int .u8 off).wf = true) (wa : (Lit.int .u16 a).wf = true) (a2 a3 : Option Addr) (l2 l3 c2 c3 : Nat) (f2 : Nat → Bool) (f3 : Nat → Int) (w : World)
    (r2 : Row w a2 l2 (fun i => .bool (f2 i))) (r3 : Row w a3 l3 (fun i => .int .u8 (f3 i))) (w3 : ∀ i, i < l3 → (Lit.int .u8 (f3 i)).wf = true) :
    Calls Try.prog 5 #[.int .u8 on, .int .u8 off, .int .u16 a, .slice a2 l2 c2, .slice a3 l3 c3] w fun e w' => e = .returned (.bool true) ∧ Below w.heap.size w w' := by
  have x0 := bd_u8 won
  have x1 := bd_u8 woff
  have x2 := bd_u16 wa
  by_cases s : 300 < l2
  · exact back_big on off a a2 a3 l2 l3 c2 c3 w x0.1 x0.2 x1.1 x1.2 r2.le s
  · exact back_walk on off a a2 a3 l2 l3 c2 c3 f2 f3 w x0.1 x0.2 x1.1 x1.2 x2.1 x2.2 r2 r3 (fun i hi => bd_u8 (w3 i hi)) (by omega)

end Go.Proofs.Ytckmgknngpjklaa
