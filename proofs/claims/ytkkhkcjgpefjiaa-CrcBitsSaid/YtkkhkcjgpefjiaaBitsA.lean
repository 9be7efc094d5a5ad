/- The walk of CrcBits, by the place of the bit in its byte. -/
import Derived.Test.YtkkhkcjgpefjiaaBits
namespace Go.Proofs.Ytkkhkcjgpefjiaa
set_option linter.unusedVariables false
open Go.ChangeShapes Go.WideShapes Go.ChangeAt Go.RowKit

set_option maxRecDepth 100000 in
set_option maxHeartbeats 4000000 in
theorem bits_walk3 (a : Option Addr) (len cap : Nat) (f : Nat → Nat) (at' q : Nat) (tw : Bool) (w : World) (h : Arg w a len cap f) (hlen : len ≤ 4000) (ht : at' ≤ 65535) (hm : at' % (8 * (len + 2) - 1) = 8 * q + 3) :
    Calls Try.prog 5 #[.slice a len cap, .int .u16 (at' : Int), .bool tw] w fun e w' => e = .returned (.bool true) ∧ Below w.heap.size w w' := by
  have hd : decide (4000 < (len : Int)) = false := by simp; omega
  have hKl : 8 * q + 3 + 2 ≤ 8 * (len + 2) := by have := Nat.mod_lt at' (show 0 < 8 * (len + 2) - 1 by omega); omega
  obtain ⟨K, hKd⟩ : ∃ K : Nat, K = 8 * q + 3 := ⟨_, rfl⟩
  have hK : ((at' : Int) % (8 * ((len : Int) + 2) - 1)) = (K : Int) := by
    have e : (8 * ((len : Int) + 2) - 1) = ((8 * (len + 2) - 1 : Nat) : Int) := by omega
    rw [e, ← Int.natCast_emod, hm, hKd]
  have HK := Lib.hid hK
  have HKD := Lib.hid hKd
  clear hm hK hKd
  have H := Lib.hid h
  clear h
  go_enter Try.func5, Try.ntmps5
  go_wp2_with fail
  refine (head_any w).mono ?_
  rintro e w0 ⟨rfl, b0⟩
  have H0 := Lib.hid (H.out.below b0)
  have B0 := Lib.hid b0
  clear b0 H
  go_wp2_with fail
  refine (seal_any a len cap f _ H0.out.row H0.out.lt H0.out.nil (by omega)).mono ?_
  rintro e w1 ⟨g, he, ho, q1⟩
  subst he
  rw [sealL_len] at ho ⊢
  have O1 := Lib.hid (show OwnR w0.heap.size w1 g (len + 2) (sealL f len) from ho)
  have HL := Lib.hid H0.out.lt
  have B1 := Lib.hid (B0.out.trans (q1.mono B0.out.size))
  have hs1 := B1.out.size
  clear ho q1 H0 B0
  go_wp2_with (at_builtin; refine wpList_copy_in rfl (.tmp 30) (.tmp 31) rfl w1 rfl g (len + 2) w0.heap.size (sealL f len) (len + 2) (sealL_len f len) rfl O1.out (by omega) (by omega) ?_)
  intro gx cx wx ox bx
  have hcx : len + 2 ≤ cx ∧ cx ≤ maxLen := by obtain ⟨cur, _, _, h1, h2, _⟩ := ox.at; rw [sealL_len] at h1; exact ⟨h1, h2⟩
  have hgx : w1.heap.size ≤ gx := by obtain ⟨cur, h, _⟩ := ox.at; exact h
  obtain ⟨hc1, hc2⟩ := hcx
  unfold maxLen at hc2
  rw [HK.out]
  have hq : (K : Int) / 8 = (q : Int) := by have := HKD.out; omega
  have hj : (K : Int) % 8 = 3 := by have := HKD.out; omega
  have hK0 : (0 : Int) ≤ (K : Int) := by omega
  have hK1 : (K : Int) ≤ 100000 := by have := HKD.out; omega
  obtain ⟨c0, f0⟩ := ox.cell q (by rw [sealL_len]; omega)
  have hv0 : sF f len q < 256 := sF_lt f len HL.out q (by omega)
  have hvv : (sealL f len).getD q 0 = sF f len q := rfl
  rw [hvv] at c0
  clear hvv
  generalize hx0 : sF f len q = v0 at c0 hv0
  have HV0 := Lib.hid hx0
  have OX := Lib.hid ox
  have BX := Lib.hid bx
  clear ox bx hx0
  cases tw
  · go_wp2_with fail
    go_region
    go_wp2_with fail
    have hfl := flip_one f len q 8 HL.out (by omega) (by omega) (by omega) (v0 ^^^ 8) (by rw [HV0.out])
    have AX := OwnR.arg (OX.out.put q _ (v0 ^^^ 8) (bits_xor_u8_nat v0 8 hv0 (by omega))).drew (by rw [List.length_set, sealL_len]) hfl.2
    have b3 := (BX.out.setCell (p := ⟨gx, q, none⟩) hgx (.int .u8 (bits .xor .u8 (v0 : Int) 8))).drew
    have HF := Lib.hid hfl.1
    have B3 := Lib.hid (B1.out.trans (b3.mono hs1))
    clear hfl b3
    refine (open_any _ (len + 2) cx _ _ AX (by omega)).mono ?_
    rintro e w4 ⟨q4, hif⟩
    rw [if_neg (by rw [HF.out]; decide)] at hif
    subst hif
    have B4 := Lib.hid (B3.out.trans (q4.mono B3.out.size))
    clear AX q4
    go_wp2_with fail
    go_ret
    exact ⟨rfl, B4.out⟩
  · have hq2 : ((K : Int) + 1) / 8 = (q : Int) := by have := HKD.out; omega
    have hj2 : ((K : Int) + 1) % 8 = 4 := by have := HKD.out; omega
    go_wp2_with fail
    go_region
    go_wp2_with fail
    go_region
    go_wp2_with fail
    have hv2 : v0 ^^^ 8 < 256 := Nat.xor_lt_two_pow (n := 8) hv0 (by omega)
    have hfl := flip_one f len q (8 ^^^ 16) HL.out (by omega) (by decide) (by decide) ((v0 ^^^ 8) ^^^ 16) (by rw [HV0.out, Nat.xor_assoc])
    have oy := ((OX.out.put q _ (v0 ^^^ 8) (bits_xor_u8_nat v0 8 hv0 (by omega))).put q (bits .xor .u8 (bits .xor .u8 (v0 : Int) 8) 16) ((v0 ^^^ 8) ^^^ 16) (by rw [show bits .xor .u8 (v0 : Int) 8 = ((v0 ^^^ 8 : Nat) : Int) from bits_xor_u8_nat v0 8 hv0 (by omega)]; exact bits_xor_u8_nat (v0 ^^^ 8) 16 hv2 (by omega))).drew.drew
    rw [List.set_set] at oy
    have AX := OwnR.arg oy (by rw [List.length_set, sealL_len]) hfl.2
    have b3 := ((BX.out.setCell (p := ⟨gx, q, none⟩) hgx (.int .u8 (bits .xor .u8 (v0 : Int) 8))).setCell (p := ⟨gx, q, none⟩) hgx (.int .u8 (bits .xor .u8 (bits .xor .u8 (v0 : Int) 8) 16))).drew.drew
    have HF := Lib.hid hfl.1
    have B3 := Lib.hid (B1.out.trans (b3.mono hs1))
    clear hfl b3 oy
    refine (open_any _ (len + 2) cx _ _ AX (by omega)).mono ?_
    rintro e w4 ⟨q4, hif⟩
    rw [if_neg (by rw [HF.out]; decide)] at hif
    subst hif
    have B4 := Lib.hid (B3.out.trans (q4.mono B3.out.size))
    clear AX q4
    go_wp2_with fail
    go_ret
    exact ⟨rfl, B4.out⟩

end Go.Proofs.Ytkkhkcjgpefjiaa
