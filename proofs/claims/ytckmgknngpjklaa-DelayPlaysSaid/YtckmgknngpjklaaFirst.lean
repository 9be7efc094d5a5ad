/- The walk of DelayFirst. -/
import Derived.Test.YtckmgknngpjklaaBase
import Derived.Test.YtckmgknngpjklaaD
namespace Go.Proofs.Ytckmgknngpjklaa
set_option linter.unusedVariables false
open Go.ChangeShapes Go.WideShapes Go.ChangeAt Go.RowKit

theorem wi_up (n l : Int) (h : l ≤ n) (h1 : n ≤ 1099511627776) : wi n l = n := by unfold wi lim; split <;> split <;> omega

/-- Behind sees of true from 3 to now. -/
def dUp (on off now : Int) : D := if on ≤ now - 3 then ⟨true, off, on, false, 0, now⟩ else ⟨false, off, on, true, 3, now⟩
/-- Behind sees of false from a to now. -/
def dDn (on off a now : Int) : D := if off ≤ now - a then ⟨false, off, on, false, 0, now⟩ else ⟨true, off, on, true, a, now⟩

theorem dUp_new (on off : Int) (h : 0 ≤ on) (h1 : on ≤ 255) (k : 0 ≤ off) (k1 : off ≤ 255) : (D.mk false (wi off 0) (wi on 0) false 0 0).see true 3 = dUp on off 3 := by
  rw [wi_up on 0 h (by omega), wi_up off 0 k (by omega)]
  simp [D.see, wi_up 3 0 (by omega) (by omega), dUp]

theorem dUp_see (on off now n : Int) (h : now ≤ n) (h1 : n ≤ 100000) : (dUp on off now).see true n = dUp on off n := by
  unfold dUp
  have e : wi n now = n := wi_up n now h (by omega)
  by_cases a : on ≤ now - 3
  · rw [if_pos a, if_pos (show on ≤ n - 3 by omega)]
    simp [D.see, e]
  · rw [if_neg a]
    by_cases b : on ≤ n - 3
    · rw [if_pos b]; simp [D.see, e, b]
    · rw [if_neg b]; simp [D.see, e, b]

theorem dDn_new (on off a : Int) (h : a ≤ 100000) (ha : on ≤ a - 3) : (dUp on off a).see false a = dDn on off a a := by
  unfold dUp dDn
  have e : wi a a = a := wi_up a a (by omega) (by omega)
  rw [if_pos ha]
  by_cases b : off ≤ 0
  · rw [if_pos (by omega)]; simp [D.see, e, b]
  · rw [if_neg (by omega)]; simp [D.see, e, b]

theorem dDn_see (on off a now n : Int) (h : now ≤ n) (h1 : n ≤ 200000) : (dDn on off a now).see false n = dDn on off a n := by
  unfold dDn
  have e : wi n now = n := wi_up n now h (by omega)
  by_cases p : off ≤ now - a
  · rw [if_pos p, if_pos (show off ≤ n - a by omega)]
    simp [D.see, e]
  · rw [if_neg p]
    by_cases b : off ≤ n - a
    · rw [if_pos b]; simp [D.see, e, b]
    · rw [if_neg b]; simp [D.see, e, b]

theorem dUp_c (on off now : Int) : (dUp on off now).c = decide (on ≤ now - 3) := by
  unfold dUp; split <;> simp [*]
theorem dDn_c (on off a now : Int) : (dDn on off a now).c = decide (now - a < off) := by
  unfold dDn; split <;> simp <;> omega

theorem Row.pos {W : World} {a : Option Addr} {len : Nat} {V : Nat → Value} (h : Row W a len V) (hp : 0 < len) : ∃ b off, a = some ⟨b, off, none⟩ ∧ b < W.heap.size ∧ ∀ i, i < len → W.cell? ⟨b, off + i, none⟩ = some (V i) := by
  rcases h.at' with z | z
  · omega
  · exact z

theorem dUp_q1 (on off : Int) (on0 : 0 ≤ on) : (!(dUp on off 3).c == (on == 0)) = false := by
  rw [dUp_c]
  by_cases h : on = 0
  · simp [h]
  · have h' : ¬ on ≤ 0 := by omega
    simp [h, h']

theorem dDn_q1 (on off a : Int) (off0 : 0 ≤ off) : (!(dDn on off a a).c == (off != 0)) = false := by
  rw [dDn_c]
  by_cases h : off = 0
  · simp [h]
  · have h' : 0 < off := by omega
    simp [h, h']

set_option maxHeartbeats 2000000 in
theorem first_walk (on off : Int) (a2 a3 : Option Addr) (l2 l3 c2 c3 : Nat) (f2 f3 : Nat → Int) (w : World)
    (on0 : 0 ≤ on) (on1 : on ≤ 255) (off0 : 0 ≤ off) (off1 : off ≤ 255)
    (r2 : Row w a2 l2 (fun i => .int .u8 (f2 i))) (r3 : Row w a3 l3 (fun i => .int .u8 (f3 i))) (w2 : ∀ i, i < l2 → 0 ≤ f2 i ∧ f2 i ≤ 255) (w3 : ∀ i, i < l3 → 0 ≤ f3 i ∧ f3 i ≤ 255) (s2 : l2 ≤ 300) (s3 : l3 ≤ 300) :
    Calls Try.prog 7 #[.int .u8 on, .int .u8 off, .slice a2 l2 c2, .slice a3 l3 c3] w fun e w' => e = .returned (.bool true) ∧ Below w.heap.size w w' := by
  have d2 : decide (300 < (l2 : Int)) = false := by simp; omega
  have d3 : decide (300 < (l3 : Int)) = false := by simp; omega
  have q1 := dUp_q1 on off on0
  have R2 := Lib.hid r2
  have W2 := Lib.hid w2
  have R3 := Lib.hid r3
  have W3 := Lib.hid w3
  clear r2 w2 r3 w3
  · go_enter Try.func7, Try.ntmps7
    go_wp2_with fail
    refine (head_any w).mono ?_
    rintro e w0 ⟨rfl, hb0⟩
    go_wp2_with fail
    refine (new_one hb0 hb0.size on off).mono ?_
    rintro e w1 ⟨rfl, hb1, hB1, o1⟩
    clear hb0 hb1 hB1
    go_wp2_with fail
    refine (see_one o1 true 3 _ (dUp_new on off on0 on1 off0 off1)).mono ?_
    rintro e w2 ⟨rfl, o2⟩
    go_wp2_with fail
    have HO := Lib.hid o2
    clear o1 o2 q1
    go_loopw [11, 14] (fun t i wr => ∃ (k : Nat) (now : Int), k ≤ l2 ∧ i = .int .i64 k ∧ t = .int .i64 now ∧ 3 ≤ now ∧ now ≤ 3 + 255 * (k : Int) ∧ One w.heap.size w0.heap.size (dUp on off now) w wr) (fun _ i _ => l2 - (intOf i).toNat)
    case atStart => exact ⟨0, 3, Nat.zero_le _, rfl, rfl, by omega, by omega, HO.out⟩
    case round =>
      obtain ⟨k, now, hk, rfl, rfl, n0, n1, o⟩ := hrel
      by_cases hlt : k < l2
      · obtain ⟨b2, o2, e2, lt2, k2⟩ := R2.out.pos (by omega)
        have hcell := (o.bel.cell (p := ⟨b2, o2 + k, none⟩) lt2).trans (k2 k hlt)
        clear k2
        subst e2
        obtain ⟨g0, g1⟩ := W2.out k hlt
        go_wp2_with fail
        have q2 : (!(dUp on off (now + f2 k)).c == decide (on ≤ now + f2 k - 3)) = false := by rw [dUp_c]; simp
        refine (see_one o true _ (dUp on off (now + f2 k)) (dUp_see on off now _ (by omega) (by omega))).mono ?_
        rintro e w3 ⟨rfl, o3⟩
        go_wp2_with fail
        go_roundw
        case rel => exact ⟨k + 1, now + f2 k, by omega, by go_num, rfl, by omega, by omega, o3⟩
        case measure => simp [intOf]; omega
      · have hk' : k = l2 := by omega
        go_wp2_with fail
        refine (value_one o).mono ?_
        rintro e w3 ⟨rfl, o3⟩
        by_cases hon : on ≤ now - 3
        · have ec : (dUp on off now).c = true := by rw [dUp_c]; simpa using hon
          rw [ec]
          go_wp2_with fail
          have q3 := dDn_q1 on off now off0
          refine (see_one o3 false now _ (dDn_new on off now (by omega) hon)).mono ?_
          rintro e w4 ⟨rfl, o4⟩
          go_wp2_with fail
          have HO4 := Lib.hid o4
          clear o o3 o4 q3 ec
          go_loopw [11, 15] (fun t i wr => ∃ (j : Nat) (m : Int), j ≤ l3 ∧ i = .int .i64 j ∧ t = .int .i64 m ∧ now ≤ m ∧ m ≤ now + 255 * (j : Int) ∧ One w.heap.size w0.heap.size (dDn on off now m) w wr) (fun _ i _ => l3 - (intOf i).toNat)
          case atStart => exact ⟨0, now, Nat.zero_le _, rfl, rfl, by omega, by omega, HO4.out⟩
          case round =>
            obtain ⟨j, m, hj, rfl, rfl, p0, p1, o5⟩ := hrel
            by_cases hlt' : j < l3
            · obtain ⟨b3, o3, e3, lt3, k3⟩ := R3.out.pos (by omega)
              have hcell := (o5.bel.cell (p := ⟨b3, o3 + j, none⟩) lt3).trans (k3 j hlt')
              clear k3
              subst e3
              obtain ⟨g0, g1⟩ := W3.out j hlt'
              go_wp2_with fail
              have q2 : (!(dDn on off now (m + f3 j)).c == decide (m + f3 j - now < off)) = false := by rw [dDn_c]; simp
              refine (see_one o5 false _ (dDn on off now (m + f3 j)) (dDn_see on off now m _ (by omega) (by omega))).mono ?_
              rintro e w6 ⟨rfl, o6⟩
              go_wp2_with fail
              go_roundw
              case rel => exact ⟨j + 1, m + f3 j, by omega, by go_num, rfl, by omega, by omega, o6⟩
              case measure => simp [intOf]; omega
            · go_wp2_with fail
              go_ret
              exact ⟨rfl, o5.bel⟩
        · have ec : (dUp on off now).c = false := by rw [dUp_c]; simpa using hon
          rw [ec]
          have e3 : decide (now - 3 < on) = true := by simp; omega
          go_wp2_with fail
          go_ret
          exact ⟨rfl, o3.bel⟩
theorem first_big (on off : Int) (a2 a3 : Option Addr) (l2 l3 c2 c3 : Nat) (w : World) (on0 : 0 ≤ on) (on1 : on ≤ 255) (off0 : 0 ≤ off) (off1 : off ≤ 255)
    (m2 : l2 ≤ maxLen) (m3 : l3 ≤ maxLen) (s : 300 < l2 ∨ 300 < l3) :
    Calls Try.prog 7 #[.int .u8 on, .int .u8 off, .slice a2 l2 c2, .slice a3 l3 c3] w fun e w' => e = .returned (.bool true) ∧ Below w.heap.size w w' := by
  unfold maxLen at m2 m3
  by_cases s2 : 300 < l2
  · have d2 : decide (300 < (l2 : Int)) = true := by simp; omega
    go_enter Try.func7, Try.ntmps7
    go_wp2_with fail
    refine (head_any w).mono ?_
    rintro e w0 ⟨rfl, hb0⟩
    go_wp2_with fail
    refine (new_one hb0 hb0.size on off).mono ?_
    rintro e w1 ⟨rfl, hb1, hB1, o1⟩
    go_wp2_with fail
    go_ret
    exact ⟨rfl, hb1⟩
  · have d2 : decide (300 < (l2 : Int)) = false := by simp; omega
    have d3 : decide (300 < (l3 : Int)) = true := by simp; omega
    go_enter Try.func7, Try.ntmps7
    go_wp2_with fail
    refine (head_any w).mono ?_
    rintro e w0 ⟨rfl, hb0⟩
    go_wp2_with fail
    refine (new_one hb0 hb0.size on off).mono ?_
    rintro e w1 ⟨rfl, hb1, hB1, o1⟩
    go_wp2_with fail
    go_ret
    exact ⟨rfl, hb1⟩

theorem first_all (on off : Int) (won : (Lit.int .u8 on).wf = true) (woff : (Lit.int .u8 off).wf = true) (a2 a3 : Option Addr) (l2 l3 c2 c3 : Nat) (f2 f3 : Nat → Int) (w : World)
    (r2 : Row w a2 l2 (fun i => .int .u8 (f2 i))) (r3 : Row w a3 l3 (fun i => .int .u8 (f3 i))) (w2 : ∀ i, i < l2 → (Lit.int .u8 (f2 i)).wf = true) (w3 : ∀ i, i < l3 → (Lit.int .u8 (f3 i)).wf = true) :
    Calls Try.prog 7 #[.int .u8 on, .int .u8 off, .slice a2 l2 c2, .slice a3 l3 c3] w fun e w' => e = .returned (.bool true) ∧ Below w.heap.size w w' := by
  have x0 := bd_u8 won
  have x1 := bd_u8 woff
  by_cases s : 300 < l2 ∨ 300 < l3
  · exact first_big on off a2 a3 l2 l3 c2 c3 w x0.1 x0.2 x1.1 x1.2 r2.le r3.le s
  · exact first_walk on off a2 a3 l2 l3 c2 c3 f2 f3 w x0.1 x0.2 x1.1 x1.2 r2 r3 (fun i hi => bd_u8 (w2 i hi)) (fun i hi => bd_u8 (w3 i hi)) (by omega) (by omega)

end Go.Proofs.Ytckmgknngpjklaa
