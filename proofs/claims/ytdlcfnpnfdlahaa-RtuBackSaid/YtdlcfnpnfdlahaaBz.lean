/- The walk of RtuBack, where nothing is framed; and all of it. -/
import Derived.Test.YtdlcfnpnfdlahaaBl
namespace Go.Proofs.Ytdlcfnpnfdlahaa
set_option linter.unusedVariables false
open Go.ChangeShapes Go.WideShapes Go.ChangeAt Go.RowKit

set_option maxRecDepth 100000 in
set_option maxHeartbeats 4000000 in
theorem back_zero (u : Nat) (hu : u < 256) (a : Option Addr) (cap : Nat) (w : World) (h : ArgB w a 0 cap []) :
    Calls Try.prog 4 #[.int .u8 (u : Int), .slice a 0 cap] w fun e w' => e = .returned (.bool true) ∧ Below w.heap.size w w' := by
  have H := Lib.hid h
  clear h
  go_enter Try.func4, Try.ntmps4
  go_wp2_with fail
  refine (head_any w).mono ?_
  rintro e w0 ⟨rfl, b0⟩
  have B0 := Lib.hid b0
  have hs0 := b0.size
  have H0 := Lib.hid (H.out.below b0)
  clear b0 H
  go_wp2_with fail
  refine (put_any u a 0 cap [] w0 H0.out.row hu).mono ?_
  rintro e w1 ⟨b1, hif⟩
  rw [if_neg (by simp)] at hif
  subst hif
  have B1 := Lib.hid (B0.out.trans (b1.mono hs0))
  have H1 := Lib.hid (H0.out.below b1)
  have hs1 := B1.out.size
  clear b1 H0 B0
  go_wp2_with fail
  refine (get_any a 0 cap [] w1 H1.out).mono ?_
  rintro e w2 ⟨b2, hif⟩
  rw [show getR [] = .err 21 from rfl] at hif
  simp only at hif
  subst hif
  have B2 := Lib.hid (B1.out.trans (b2.mono hs1))
  clear b2 H1 B1
  go_wp2_with fail
  go_quiet (fail)
  go_wp2_with fail
  go_ret
  exact ⟨rfl, B2.out.trans (below_drewN _ _ _)⟩

theorem back_big (u : Int) (a : Option Addr) (len cap : Nat) (w : World) (hm : len ≤ maxLen) (hlen : 20000 < len) :
    Calls Try.prog 4 #[.int .u8 u, .slice a len cap] w fun e w' => e = .returned (.bool true) ∧ Below w.heap.size w w' := by
  unfold maxLen at hm
  have hd : decide (20000 < (len : Int)) = true := by simp; omega
  go_enter Try.func4, Try.ntmps4
  go_wp2_with fail
  refine (head_any w).mono ?_
  rintro e w0 ⟨rfl, b0⟩
  go_wp2_with fail
  go_ret
  exact ⟨rfl, b0⟩
theorem back_all (u : Int) (hu : (Lit.int .u8 u).wf = true) (a : Option Addr) (len cap : Nat) (L : List Nat) (w : World) (h : ArgB w a len cap L) :
    Calls Try.prog 4 #[.int .u8 u, .slice a len cap] w fun e w' => e = .returned (.bool true) ∧ Below w.heap.size w w' := by
  by_cases hl : 20000 < len
  · exact back_big u a len cap w h.row.le hl
  · have hb := bd_u8 hu
    obtain ⟨n, rfl⟩ := Int.eq_ofNat_of_zero_le hb.1
    by_cases h0 : len = 0
    · subst h0
      have hL := h.row.of_zero
      subst hL
      exact back_zero n (by omega) a cap w h
    · by_cases hc : 0 < len ∧ len ≤ 253
      · exact back_in n (by omega) a len cap L w h (by omega) hc
      · exact back_long n (by omega) a len cap L w h (by omega) hc h0
end Go.Proofs.Ytdlcfnpnfdlahaa
