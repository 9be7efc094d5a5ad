/- The walk of CrcBack. -/
import Derived.Test.YtkkhkcjgpefjiaaBytes
import Derived.Deep.RegionHeld
namespace Go.Proofs.Ytkkhkcjgpefjiaa
set_option linter.unusedVariables false
open Go.ChangeShapes Go.WideShapes Go.ChangeAt Go.RowKit

/-- A conversion, by a name that the walk does not lay open. -/
noncomputable def cvt (a : Option Addr) (len cap : Nat) (w : World) : Result Value := (convert 22 9 (.slice a len cap)).run Try.prog w
theorem cvt_any (w : World) (a : Option Addr) (len cap : Nat) (f : Nat → Nat) (h : Bys w a len f) : cvt a len cap w = .ok (.string (sOf (bl f len))) w := conv_any w a len cap f h
theorem cvt_eq (a : Option Addr) (len cap : Nat) : ∀ w, (convert 22 9 (.slice a len cap)).run Try.prog w = cvt a len cap w := fun _ => rfl

set_option maxRecDepth 100000 in
set_option maxHeartbeats 1200000 in
theorem back_walk (a : Option Addr) (len cap : Nat) (f : Nat → Nat) (w : World) (h : Arg w a len cap f) (hlen : len ≤ 20000) :
    Calls Try.prog 4 #[.slice a len cap] w fun e w' => e = .returned (.bool true) ∧ Below w.heap.size w w' := by
  have hd : decide (20000 < (len : Int)) = false := by simp; omega
  have H := Lib.hid h
  clear h
  go_enter Try.func4, Try.ntmps4
  go_wp2_with fail
  refine (head_any w).mono ?_
  rintro e w0 ⟨rfl, b0⟩
  have H0 := Lib.hid (H.out.below b0)
  have B0 := Lib.hid b0
  clear b0 H
  go_wp2_with fail
  refine (seal_any a len cap f _ H0.out.row H0.out.lt H0.out.nil (by omega)).mono ?_
  rintro e w1 ⟨g, he, ho, q1⟩
  subst he
  rw [sealL_len] at ho ⊢
  have O1 := Lib.hid ho
  have H1 := Lib.hid (H0.out.below q1)
  have B1 := Lib.hid (B0.out.trans (q1.mono B0.out.size))
  clear ho q1 H0 B0
  go_wp2_with fail
  have AS := Lib.hid (OwnR.arg O1.out (sealL_len f len) (fun i hi => sF_lt f len H1.out.lt i hi))
  refine (open_any _ (len + 2) (len + 2) (sF f len) _ AS.out (by omega)).mono ?_
  rintro e w2 ⟨q2, hif⟩
  rw [if_pos (sF_ok f len)] at hif
  obtain ⟨g2, he, ho2⟩ := hif
  subst he
  rw [show bl (sF f len) (len + 2 - 2) = bl f len from sF_bl f len, show len + 2 - 2 = len by omega] at ho2
  rw [show len + 2 - 2 = len by omega]
  have O2 := Lib.hid ho2
  have O12 := Lib.hid (O1.out.below q2)
  have H2 := Lib.hid (H1.out.below q2)
  have B2 := Lib.hid (B1.out.trans (q2.mono B1.out.size))
  clear ho2 q2 O1 H1 B1 AS
  go_wp2_with fail
  refine (open_any a len cap f _ H2.out (by omega)).mono ?_
  rintro e w3 ⟨q3, hif⟩
  have O13 := Lib.hid (O12.out.below q3)
  have O23 := Lib.hid (O2.out.below q3)
  have H3 := Lib.hid (H2.out.below q3)
  have B3 := Lib.hid (B2.out.trans (q3.mono B2.out.size))
  have Q3 := Lib.hid q3
  have h23 := q3.size
  clear O12 O2 H2 B2 q3
  have rx : Bys w3 (some ⟨g2, 0, none⟩) len (fun i => (bl f len).getD i 0) := by have := O23.out.bys; rw [bl_len] at this; exact this
  have kx : ∀ n, (convert 22 9 (.slice (some ⟨g2, 0, none⟩) len len)).run Try.prog (w3.drewN n) = .ok (.string (sOf (bl f len))) (w3.drewN n) := fun n => by
    have := conv_any (w3.drewN n) (some ⟨g2, 0, none⟩) len len (fun i => (bl f len).getD i 0) (rx.below (below_drewN _ _ n))
    rw [bl_bl] at this
    exact this
  have kb : ∀ n, (convert 22 9 (.slice a len cap)).run Try.prog (w3.drewN n) = .ok (.string (sOf (bl f len))) (w3.drewN n) := fun n => conv_any (w3.drewN n) a len cap f (H3.out.row.below (below_drewN _ _ n))
  clear rx
  generalize hS : sOf (bl f len) = S at kx kb
  have HS := Lib.hid hS
  clear hS
  cases hok : okF f len
  · rw [hok] at hif
    simp only [Bool.false_eq_true, if_false] at hif
    subst hif
    go_wp2_with fail
    go_quiet (fail)
    go_wp2_with fail
    go_ret
    exact ⟨rfl, B3.out.trans (below_drewN _ _ _)⟩
  · rw [hok] at hif
    simp only [if_true] at hif
    obtain ⟨g3, he, ho3⟩ := hif
    subst he
    obtain ⟨n, rfl⟩ : ∃ n, len = n + 2 := ⟨len - 2, by have : 2 ≤ len := by simp [okF] at hok; exact hok.1
                                                       omega⟩
    rw [show n + 2 - 2 = n by omega] at ho3 ⊢
    have O3 := Lib.hid ho3
    have hse := seal_open f n hok
    have HSE := Lib.hid hse
    have k1 : (convert 22 9 (.slice (some ⟨g2, 0, none⟩) (n + 2) (n + 2))).run Try.prog w3.drew = .ok (.string S) w3.drew := kx 1
    have k2 : (convert 22 9 (.slice a (n + 2) cap)).run Try.prog w3.drew = .ok (.string S) w3.drew := kb 1
    have kx4 : ∀ w4, Below w3.drew.heap.size w3.drew w4 → (convert 22 9 (.slice (some ⟨g2, 0, none⟩) (n + 2) (n + 2))).run Try.prog w4 = .ok (.string S) w4 := fun w4 hb => by
      have rx : Bys w4 (some ⟨g2, 0, none⟩) (n + 2) (fun i => (bl f (n + 2)).getD i 0) := by
        have := (O23.out.below (below_drewN _ _ 1)).below hb |>.bys
        rw [bl_len] at this
        exact this
      have := conv_any w4 (some ⟨g2, 0, none⟩) (n + 2) (n + 2) _ rx
      rw [bl_bl, HS.out] at this
      exact this
    have KX4 := Lib.hid kx4
    clear kx4
    have hA3 : Arg w3.drew (some ⟨g3, 0, none⟩) n n (fun i => (bl f n).getD i 0) := (OwnR.arg O3.out (bl_len f n) (fun i hi => by rw [bl_get f n i hi]; exact H3.out.lt i (by omega))).below (below_drewN _ _ 1)
    have A3 := Lib.hid hA3
    have H3d := Lib.hid (H3.out.below (below_drewN _ _ 1))
    clear kx kb hse hok ho3 hA3
    go_wp2_with fail
    have hwr : IntKind.i64.wrap ((n : Int) + 2 + 2) = (n : Int) + 2 + 2 := IntWalk.i64_in _ (by omega)
    go_region_held (fun w' => (convert 22 9 (.slice (some ⟨g2, 0, none⟩) (n + 2) (n + 2))).run Try.prog w' = .ok (.string S) w' ∧ (convert 22 9 (.slice a (n + 2) cap)).run Try.prog w' = .ok (.string S) w') (first | exact ⟨k1, k2⟩ | exact ⟨k3, k4⟩ | go_keep) ((go_at_call 14; refine (seal_any (some ⟨g3, 0, none⟩) n n (fun i => (bl f n).getD i 0) w3.drew A3.out.row A3.out.lt A3.out.nil (by omega)).mono ?_; rintro e w4 ⟨g4, he, ho4, q4⟩; subst he; rw [HSE.out] at ho4; have rs := ho4.bys; rw [bl_len] at rs; have k5 := conv_any w4 (some ⟨g4, 0, none⟩) (n + 2) (n + 2) (fun i => (bl f (n + 2)).getD i 0) rs; rw [bl_bl, HS.out] at k5; have k3 := KX4.out w4 q4; have k4 := conv_any w4 a (n + 2) cap f (H3d.out.row.below q4); rw [HS.out] at k4; rw [HSE.out, bl_len]; clear rs ho4))
    all_goals
      go_wp2_with fail
      go_ret
      exact ⟨rfl, B3.out.drew.trans (q4.mono B3.out.size)⟩

theorem back_big (a : Option Addr) (len cap : Nat) (w : World) (hm : len ≤ maxLen) (hlen : 20000 < len) :
    Calls Try.prog 4 #[.slice a len cap] w fun e w' => e = .returned (.bool true) ∧ Below w.heap.size w w' := by
  unfold maxLen at hm
  have hd : decide (20000 < (len : Int)) = true := by simp; omega
  go_enter Try.func4, Try.ntmps4
  go_wp2_with fail
  refine (head_any w).mono ?_
  rintro e w0 ⟨rfl, b0⟩
  go_wp2_with fail
  go_ret
  exact ⟨rfl, b0⟩

theorem back_all (a : Option Addr) (len cap : Nat) (f : Nat → Nat) (w : World) (h : Arg w a len cap f) :
    Calls Try.prog 4 #[.slice a len cap] w fun e w' => e = .returned (.bool true) ∧ Below w.heap.size w w' := by
  by_cases hl : 20000 < len
  · exact back_big a len cap w h.row.le hl
  · exact back_walk a len cap f w h (by omega)

end Go.Proofs.Ytkkhkcjgpefjiaa
