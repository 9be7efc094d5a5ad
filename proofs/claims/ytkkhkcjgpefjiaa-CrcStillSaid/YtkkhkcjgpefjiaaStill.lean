/- The walk of CrcStill. -/
import Derived.Test.YtkkhkcjgpefjiaaBytesW
namespace Go.Proofs.Ytkkhkcjgpefjiaa
set_option linter.unusedVariables false
open Go.ChangeShapes Go.WideShapes Go.ChangeAt Go.RowKit

theorem OwnR.put {B : Nat} {w : World} {g cap : Nat} {L : List Nat} (h : OwnR B w g cap L) (k : Nat) (E : Int) (m : Nat) (hE : E = (m : Int)) : OwnR B (w.setCell ⟨g, k, none⟩ (.int .u8 E)) g cap (L.set k m) := by
  subst hE; exact h.set k m

theorem OwnR.len {B : Nat} {w : World} {g cap n : Nat} {L : List Nat} (h : OwnR B w g cap L) (hn : L.length = n) : Bys w (some ⟨g, 0, none⟩) n (fun i => L.getD i 0) := by subst hn; exact h.bys

set_option maxRecDepth 100000 in
set_option maxHeartbeats 4000000 in
theorem still_walk (a : Option Addr) (len cap : Nat) (f : Nat → Nat) (w : World) (h : Arg w a len cap f) (hlen : len ≤ 9000) :
    Calls Try.prog 8 #[.slice a len cap] w fun e w' => e = .returned (.bool true) ∧ Below w.heap.size w w' := by
  have hd : decide (9000 < (len : Int)) = false := by simp; omega
  have H := Lib.hid h
  clear h
  go_enter Try.func8, Try.ntmps8
  go_wp2_with fail
  refine (head_any w).mono ?_
  rintro e w0 ⟨rfl, b0⟩
  have H0 := Lib.hid (H.out.below b0)
  have B0 := Lib.hid b0
  clear b0 H
  have k0 := conv_any w0 a len cap f H0.out.row
  go_wp2_with fail
  clear k0
  refine (seal_any a len cap f _ H0.out.row H0.out.lt H0.out.nil (by omega)).mono ?_
  rintro e w1 ⟨g, he, ho, q1⟩
  subst he
  rw [sealL_len] at ho ⊢
  have O1 := Lib.hid (show OwnR w0.heap.size w1 g (len + 2) (sealL f len) from ho)
  have H1 := Lib.hid (H0.out.below q1)
  have B1 := Lib.hid (B0.out.trans (q1.mono B0.out.size))
  have hs1 := B1.out.size
  clear ho q1 H0 B0
  go_wp2_with fail
  have AS := Lib.hid (OwnR.arg O1.out (sealL_len f len) (fun i hi => sF_lt f len H1.out.lt i hi))
  refine (open_any _ (len + 2) (len + 2) (sF f len) _ AS.out (by omega)).mono ?_
  rintro e w2 ⟨q2, hif⟩
  rw [if_pos (sF_ok f len)] at hif
  obtain ⟨g2, he, ho2⟩ := hif
  subst he
  rw [show bl (sF f len) (len + 2 - 2) = bl f len from sF_bl f len, show len + 2 - 2 = len by omega] at ho2
  rw [show len + 2 - 2 = len by omega]
  have hg2 : w1.heap.size ≤ g2 := by obtain ⟨cur, h, _⟩ := ho2.at; exact h
  have O2 := Lib.hid ho2
  have Q2 := Lib.hid q2
  have k1 := conv_any w2 (some ⟨g, 0, none⟩) (len + 2) (len + 2) (sF f len) (AS.out.row.below q2)
  clear ho2 q2
  go_wp2_with fail
  clear k1
  go_loopw [9] (fun i wr => ∃ (k : Nat) (X : List Nat), k ≤ len ∧ i = .int .i64 k ∧ X.length = len ∧ (∀ i, i < len → X.getD i 0 < 256) ∧ OwnR w1.heap.size wr g2 len X ∧ Below w1.heap.size w1 wr) (fun i _ => len - (intOf i).toNat)
  case atStart => exact ⟨0, bl f len, Nat.zero_le _, rfl, bl_len f len, (fun i hi => by rw [bl_get f len i hi]; exact H1.out.lt i hi), O2.out, Q2.out⟩
  case round =>
    obtain ⟨k, X, hk, rfl, hXl, hXb, oX, qX⟩ := hrel
    by_cases hlt : k < len
    · obtain ⟨c0, f0⟩ := oX.cell k (by omega)
      have hb0 := hXb k hlt
      have OX := Lib.hid oX
      have QX := Lib.hid qX
      have HXL := Lib.hid hXl
      have HXB := Lib.hid hXb
      clear oX qX hXl hXb
      generalize X.getD k 0 = v at c0 hb0
      go_wp2_with fail
      go_roundw
      case rel =>
        refine ⟨k + 1, X.set k ((v + 1) % 256), by omega, by go_num, by simpa using HXL.out, ?_, OX.out.put k _ _ ?_, QX.out.setCell (p := ⟨g2, k, none⟩) hg2 _⟩
        · intro i hi
          simp only [List.getD]
          by_cases p : i = k
          · subst p; rw [List.getElem?_set_self (by rw [HXL.out]; exact hlt)]; simp; omega
          · rw [List.getElem?_set_ne (fun q => p q.symm)]; exact HXB.out i hi
        · go_arith
      case measure => simp [intOf]; omega
    · have OX := Lib.hid oX
      have QX := Lib.hid qX
      clear oX qX hXl hXb
      go_wp2_with fail
      refine (open_any _ (len + 2) (len + 2) (sF f len) _ (AS.out.below QX.out) (by omega)).mono ?_
      rintro e w4 ⟨q4, hif⟩
      rw [if_pos (sF_ok f len)] at hif
      obtain ⟨g4, he, ho4⟩ := hif
      subst he
      rw [show bl (sF f len) (len + 2 - 2) = bl f len from sF_bl f len, show len + 2 - 2 = len by omega] at ho4
      rw [show len + 2 - 2 = len by omega]
      have b4 : Below w1.heap.size w1 w4 := QX.out.trans (q4.mono QX.out.size)
      have kb := conv_any w4 a len cap f (H1.out.row.below b4)
      have ks := conv_any w4 (some ⟨g, 0, none⟩) (len + 2) (len + 2) (sF f len) (AS.out.row.below b4)
      have ky := conv_any w4 (some ⟨g4, 0, none⟩) len len (fun i => (bl f len).getD i 0) (ho4.len (bl_len f len))
      rw [bl_bl] at ky
      have B4 := Lib.hid (B1.out.trans (b4.mono hs1))
      clear b4 q4 ho4
      go_wp2_with fail
      go_ret
      exact ⟨rfl, B4.out⟩

theorem still_big (a : Option Addr) (len cap : Nat) (w : World) (hm : len ≤ maxLen) (hlen : 9000 < len) :
    Calls Try.prog 8 #[.slice a len cap] w fun e w' => e = .returned (.bool true) ∧ Below w.heap.size w w' := by
  unfold maxLen at hm
  have hd : decide (9000 < (len : Int)) = true := by simp; omega
  go_enter Try.func8, Try.ntmps8
  go_wp2_with fail
  refine (head_any w).mono ?_
  rintro e w0 ⟨rfl, b0⟩
  go_wp2_with fail
  go_ret
  exact ⟨rfl, b0⟩

theorem still_all (a : Option Addr) (len cap : Nat) (f : Nat → Nat) (w : World) (h : Arg w a len cap f) :
    Calls Try.prog 8 #[.slice a len cap] w fun e w' => e = .returned (.bool true) ∧ Below w.heap.size w w' := by
  by_cases hl : 9000 < len
  · exact still_big a len cap w h.row.le hl
  · exact still_walk a len cap f w h (by omega)

end Go.Proofs.Ytkkhkcjgpefjiaa
