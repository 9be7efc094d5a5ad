/- The walk of CrcTells. -/
import Derived.Test.YtkkhkcjgpefjiaaT
import Derived.Deep.RegionLaw
import Derived.Deep.RegionHeld
namespace Go.Proofs.Ytkkhkcjgpefjiaa
set_option linter.unusedVariables false
open Go.ChangeShapes Go.WideShapes Go.ChangeAt Go.RowKit

theorem open_any' (a : Option Addr) (len cap : Nat) (f : Nat → Nat) (w : World) (h : Arg w a len cap f) (hl : len ≤ 100000) : Calls Try.prog 11 #[.slice a len cap] w (ROpenP w f len) := by
  by_cases h2 : len < 2
  · exact ropen_short a len cap f w h2
  · obtain ⟨n, rfl⟩ : ∃ n, len = n + 2 := ⟨len - 2, by omega⟩
    obtain ⟨b, off, rfl, _, _⟩ := h.row.pos (by omega)
    exact ropen_long b off n cap f w h.row h.lt h.le h.mx (by omega)

set_option maxRecDepth 100000 in
set_option maxHeartbeats 8000000 in
theorem tells_walk (a : Option Addr) (len cap : Nat) (f : Nat → Nat) (w : World) (h : Arg w a len cap f) (hlen : len ≤ 20000) :
    Calls Try.prog 3 #[.slice a len cap] w fun e w' => e = .returned (.bool true) ∧ Below w.heap.size w w' := by
  have hd : decide (20000 < (len : Int)) = false := by simp; omega
  have H := Lib.hid h
  clear h
  go_enter Try.func3, Try.ntmps3
  go_wp2_with fail
  refine (head_any w).mono ?_
  rintro e w0 ⟨rfl, b0⟩
  have H0 := Lib.hid (H.out.below b0)
  have B0 := Lib.hid b0
  clear b0 H
  go_wp2_with fail
  refine (open_any a len cap f _ H0.out (by omega)).mono ?_
  rintro e w1 ⟨q1, hif⟩
  have H1 := Lib.hid (H0.out.below q1)
  have B1 := Lib.hid (B0.out.trans (q1.mono B0.out.size))
  clear q1 H0 B0
  obtain ⟨x, xa, xl, xc, rfl, hx⟩ : ∃ (is : Bool) (xa : Option Addr) (xl xc : Nat), e = .returned (.tuple #[.slice xa xl xc, .bool is]) ∧ is = okF f len ∧ Bys w1 xa xl (fun i => (bl f xl).getD i 0) ∧ xl = if okF f len then len - 2 else 0 := by
    cases hok : okF f len
    · rw [hok] at hif
      exact ⟨false, none, 0, 0, hif, rfl, ⟨Nat.zero_le _, .inl rfl⟩, rfl⟩
    · rw [hok] at hif
      obtain ⟨g, he, ho⟩ := hif
      refine ⟨true, _, _, _, he, rfl, ?_, rfl⟩
      have := ho.bys
      rw [bl_len] at this
      exact this
  obtain ⟨rfl, hx1, hx2⟩ := hx
  have HX1 := Lib.hid hx1
  have HX2 := Lib.hid hx2
  clear hif hx1 hx2
  go_wp2_with fail
  refine (open_any' a len cap f _ H1.out (by omega)).mono ?_
  rintro e w2 ⟨q2, hif⟩
  have H2 := Lib.hid (H1.out.below q2)
  have B2 := Lib.hid (B1.out.trans (q2.mono B1.out.size))
  have HX3 := Lib.hid (HX1.out.below q2)
  clear q2 H1 B1 HX1
  obtain ⟨y, ya, yl, yc, rfl, hy⟩ : ∃ (is : Bool) (ya : Option Addr) (yl yc : Nat), e = .returned (.tuple #[.slice ya yl yc, .bool is]) ∧ is = okF f len ∧ Bys w2 ya yl (fun i => (bl f yl).getD i 0) ∧ yl = if okF f len then len - 2 else 0 := by
    cases hok : okF f len
    · rw [hok] at hif
      exact ⟨false, none, 0, 0, hif, rfl, ⟨Nat.zero_le _, .inl rfl⟩, rfl⟩
    · rw [hok] at hif
      obtain ⟨g, c, he, ho⟩ := hif
      exact ⟨true, _, _, _, he, rfl, ho, rfl⟩
  obtain ⟨rfl, hy1, hy2⟩ := hy
  have hxy : yl = xl := by rw [hy2, HX2.out]
  subst hxy
  have HY1 := Lib.hid hy1
  clear hif hy1 hy2 HX2
  generalize okF f len = ok
  have hcx : ∀ W, Below w2.heap.size w2 W → (convert 22 9 (.slice xa yl xc)).run Try.prog W = .ok (.string (sOf (bl f yl))) W := fun W hW => by
    have := conv_any W xa yl xc _ (HX3.out.below hW)
    rwa [bl_bl] at this
  have hcy : ∀ W, Below w2.heap.size w2 W → (convert 22 9 (.slice ya yl yc)).run Try.prog W = .ok (.string (sOf (bl f yl))) W := fun W hW => by
    have := conv_any W ya yl yc _ (HY1.out.below hW)
    rwa [bl_bl] at this
  generalize sOf (bl f yl) = SX at hcx hcy
  have HCX := Lib.hid hcx
  have HCY := Lib.hid hcy
  obtain ⟨SS, hSS⟩ : ∃ SS, SS = sOf (sealL f len) := ⟨_, rfl⟩
  have HSS := Lib.hid hSS
  have hsbl : bl (sF f len) (len + 2) = sealL f len := by
    have : (sealL f len).length = len + 2 := sealL_len f len
    refine List.ext_getElem? fun i => ?_
    by_cases hi : i < len + 2
    · simp [bl, hi, List.getElem?_eq_getElem (show i < (sealL f len).length by omega)]
    · rw [List.getElem?_eq_none (by rw [bl_len]; omega), List.getElem?_eq_none (by omega)]
  have HSBL := Lib.hid hsbl
  clear hcx hcy hSS hsbl HX3 HY1
  generalize hcr : crcF f len = cr
  have HCR := Lib.hid hcr
  clear hcr
  go_wp2_with fail
  have hdrew : Below w2.heap.size w2 w2.drew := (Below.refl _ _).drew
  have HDR := Lib.hid hdrew
  clear hdrew
  have kx0 := HCX.out w2.drew HDR.out
  have ky0 := HCY.out w2.drew HDR.out
  go_region_held (fun w' => (convert 22 9 (.slice xa yl xc)).run Try.prog w' = .ok (.string SX) w' ∧ (convert 22 9 (.slice ya yl yc)).run Try.prog w' = .ok (.string SX) w') (first | exact ⟨kx0, ky0⟩ | exact ⟨kx4, ky4⟩ | exact ⟨kx6, ky6⟩ | exact ⟨kx7, ky7⟩ | go_keep) (first
    | (go_at_call 12; refine (sum_any a len cap f _ (H2.out.below HDR.out).row H2.out.lt).mono ?_; rintro e w4 ⟨rfl, q4⟩; rw [HCR.out]; have QQ4 := Lib.hid (HDR.out.trans (q4.mono HDR.out.size)); have kx4 := HCX.out w4 QQ4.out; have ky4 := HCY.out w4 QQ4.out; clear q4)
    | (go_at_call 13; refine (rsum_any a len cap f _ (H2.out.below QQ4.out).row H2.out.lt).mono ?_; rintro e w5 ⟨rfl, rfl⟩; rw [HCR.out])
    | (go_at_call 14; refine (seal_any a len cap f _ (H2.out.below QQ4.out).row H2.out.lt H2.out.nil (by omega)).mono ?_; rintro e w6 ⟨g6, he, ho6, q6⟩; subst he; rw [sealL_len]; have rs := ho6.bys; rw [sealL_len] at rs; have RS := Lib.hid rs; have k34 := conv_any w6 (some ⟨g6, 0, none⟩) (len + 2) (len + 2) _ rs; rw [show bl (fun i => (sealL f len).getD i 0) (len + 2) = sealL f len from HSBL.out, ← HSS.out] at k34; have QQ6 := Lib.hid (QQ4.out.trans (q6.mono QQ4.out.size)); have kx6 := HCX.out w6 QQ6.out; have ky6 := HCY.out w6 QQ6.out; clear rs ho6 q6)
    | (go_at_call 15; refine (rseal_any a len cap f _ (H2.out.below QQ6.out).row H2.out.lt H2.out.nil (by omega)).mono ?_; rintro e w7 ⟨g7, c7, rfl, hb7, q7⟩; have k37 := conv_any w7 (some ⟨g7, 0, none⟩) (len + 2) c7 _ hb7; rw [HSBL.out, ← HSS.out] at k37; have k34b := conv_any w7 (some ⟨g6, 0, none⟩) (len + 2) (len + 2) _ (RS.out.below q7); rw [show bl (fun i => (sealL f len).getD i 0) (len + 2) = sealL f len from HSBL.out, ← HSS.out] at k34b; have QQ7 := Lib.hid (QQ6.out.trans (q7.mono QQ6.out.size)); have kx7 := HCX.out w7 QQ7.out; have ky7 := HCY.out w7 QQ7.out; clear hb7 q7))
  all_goals
    go_wp2_with fail
    go_ret
    exact ⟨rfl, B2.out.trans (QQ7.out.mono B2.out.size)⟩

theorem tells_big (a : Option Addr) (len cap : Nat) (w : World) (hm : len ≤ maxLen) (hlen : 20000 < len) :
    Calls Try.prog 3 #[.slice a len cap] w fun e w' => e = .returned (.bool true) ∧ Below w.heap.size w w' := by
  unfold maxLen at hm
  have hd : decide (20000 < (len : Int)) = true := by simp; omega
  go_enter Try.func3, Try.ntmps3
  go_wp2_with fail
  refine (head_any w).mono ?_
  rintro e w0 ⟨rfl, b0⟩
  go_wp2_with fail
  go_ret
  exact ⟨rfl, b0⟩

theorem tells_all (a : Option Addr) (len cap : Nat) (f : Nat → Nat) (w : World) (h : Arg w a len cap f) :
    Calls Try.prog 3 #[.slice a len cap] w fun e w' => e = .returned (.bool true) ∧ Below w.heap.size w w' := by
  by_cases hl : 20000 < len
  · exact tells_big a len cap w h.row.le hl
  · exact tells_walk a len cap f w h (by omega)

end Go.Proofs.Ytkkhkcjgpefjiaa
