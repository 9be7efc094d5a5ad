/- The walk of CrcBytes. -/
import Derived.Test.YtkkhkcjgpefjiaaBytes
namespace Go.Proofs.Ytkkhkcjgpefjiaa
set_option linter.unusedVariables false
open Go.ChangeShapes Go.WideShapes Go.ChangeAt Go.RowKit

set_option maxRecDepth 100000 in
set_option maxHeartbeats 4000000 in
theorem bytes_walk (a : Option Addr) (len cap : Nat) (f : Nat → Nat) (at' one two' : Nat) (w : World) (h : Arg w a len cap f) (hlen : len ≤ 4000) (ht : at' ≤ 65535) (h1 : one < 256) (h2 : two' < 256) :
    Calls Try.prog 7 #[.slice a len cap, .int .u16 (at' : Int), .int .u8 (one : Int), .int .u8 (two' : Int)] w fun e w' => e = .returned (.bool true) ∧ Below w.heap.size w w' := by
  have hd : decide (4000 < (len : Int)) = false := by simp; omega
  have H := Lib.hid h
  clear h
  go_enter Try.func7, Try.ntmps7
  go_wp2_with fail
  refine (head_any w).mono ?_
  rintro e w0 ⟨rfl, b0⟩
  have H0 := Lib.hid (H.out.below b0)
  have B0 := Lib.hid b0
  clear b0 H
  go_wp2_with fail
  refine (seal_any a len cap f _ H0.out.row H0.out.lt H0.out.nil (by omega)).mono ?_
  rintro e w1 ⟨g, he, ho, q1⟩
  subst he
  rw [sealL_len] at ho ⊢
  have O1 := Lib.hid (show OwnR w0.heap.size w1 g (len + 2) (sealL f len) from ho)
  have HL := Lib.hid H0.out.lt
  have B1 := Lib.hid (B0.out.trans (q1.mono B0.out.size))
  have hs1 := B1.out.size
  clear ho q1 H0 B0
  go_wp2_with (at_builtin; refine wpList_copy_in rfl (.tmp 31) (.tmp 32) rfl w1 rfl g (len + 2) w0.heap.size (sealL f len) (len + 2) (sealL_len f len) rfl O1.out (by omega) (by omega) ?_)
  intro gx cx wx ox bx
  obtain ⟨k, hk⟩ : ∃ k : Nat, ((at' : Int) % ((len : Int) + 2 - 1)) = (k : Int) := ⟨((at' : Int) % ((len : Int) + 2 - 1)).toNat, (Int.toNat_of_nonneg (Int.emod_nonneg _ (by omega))).symm⟩
  have hkl : k ≤ len := by have := Int.emod_lt_of_pos (at' : Int) (show (0 : Int) < (len : Int) + 2 - 1 by omega); omega
  rw [hk]
  clear hk
  have B2 := Lib.hid (B1.out.trans (bx.mono hs1))
  have hgx : w1.heap.size ≤ gx := by obtain ⟨cur, h, _⟩ := ox.at; exact h
  have hcx : len + 2 ≤ cx ∧ cx ≤ maxLen := by obtain ⟨cur, _, _, h1, h2, _⟩ := ox.at; rw [sealL_len] at h1; exact ⟨h1, h2⟩
  obtain ⟨hc1, hc2⟩ := hcx
  unfold maxLen at hc2
  -- the first byte
  obtain ⟨c0, f0⟩ := ox.cell k (by rw [sealL_len]; omega)
  have hl0 := sF_lt f len HL.out k (by omega)
  have hx0 := bits_xor_u8_nat (sF f len k) one hl0 h1
  have ox1 := ox.set k (sF f len k ^^^ one)
  have hx0' : ((sealL f len).getD k 0) = sF f len k := rfl
  rw [hx0'] at c0
  generalize hv0 : sF f len k = v0 at c0 hx0 ox1
  clear hx0'
  obtain ⟨c1, f1⟩ := ox1.cell (k + 1) (by simp [sealL_len]; omega)
  have hg1 : ((sealL f len).set k (v0 ^^^ one)).getD (k + 1) 0 = sF f len (k + 1) := by
    simp only [List.getD]
    rw [List.getElem?_set_ne (by omega)]
  rw [hg1] at c1
  have hl1 := sF_lt f len HL.out (k + 1) (by omega)
  have hx1 := bits_xor_u8_nat (sF f len (k + 1)) two' hl1 h2
  have ox2 := ox1.set (k + 1) (sF f len (k + 1) ^^^ two')
  generalize hv1 : sF f len (k + 1) = v1 at c1 hx1 ox2
  have HV0 := Lib.hid hv0
  have HV1 := Lib.hid hv1
  have OX2 := Lib.hid ox2
  have BX := Lib.hid ((bx.setCell (p := ⟨gx, k, none⟩) hgx (.int .u8 ((v0 ^^^ one : Nat) : Int))).setCell (p := ⟨gx, k + 1, none⟩) hgx (.int .u8 ((v1 ^^^ two' : Nat) : Int)))
  clear hv0 hv1 ox1 ox2 ox bx hg1 hl0 hl1
  generalize hy0 : v0 ^^^ one = y0 at hx0 OX2 BX c1 f1
  generalize hy1 : v1 ^^^ two' = y1 at hx1 OX2 BX
  have HY0 := Lib.hid hy0
  have HY1 := Lib.hid hy1
  clear hy0 hy1
  go_wp2_with fail
  generalize ((wx.setCell ⟨gx, k, none⟩ (.int .u8 (y0 : Int))).setCell ⟨gx, k + 1, none⟩ (.int .u8 (y1 : Int))) = wz at OX2 BX ⊢
  have hXl : (((sealL f len).set k y0).set (k + 1) y1).length = len + 2 := by simp [sealL_len]
  have hX : ∀ i, i < len + 2 → (((sealL f len).set k y0).set (k + 1) y1).getD i 0 = sF f len i ^^^ two k one two' i := by
    intro i hi
    have e1 := HY0.out
    have e2 := HY1.out
    rw [← HV0.out] at e1
    rw [← HV1.out] at e2
    simp only [List.getD, two]
    by_cases p : i = k + 1
    · subst p
      rw [List.getElem?_set_self (by simp [sealL_len]; omega), if_neg (by omega), if_pos rfl]
      exact e2.symm
    · rw [List.getElem?_set_ne (fun q => p q.symm)]
      by_cases p2 : i = k
      · subst p2
        rw [List.getElem?_set_self (by simp [sealL_len]; omega), if_pos rfl]
        exact e1.symm
      · rw [List.getElem?_set_ne (fun q => p2 q.symm), if_neg p2, if_neg p, Nat.xor_zero]
  have hok := two_ok (sF f len) len k one two' (fun i hi => sF_lt f len HL.out i hi) (sF_ok f len) hkl h1 h2 _ hX
  have hXlt : ∀ i, i < len + 2 → (((sealL f len).set k y0).set (k + 1) y1).getD i 0 < 256 := by
    intro i hi
    rw [hX i hi]
    refine Nat.xor_lt_two_pow (n := 8) (sF_lt f len HL.out i hi) ?_
    unfold two; split <;> (try split) <;> omega
  have AX := Lib.hid (OwnR.arg OX2.out hXl hXlt)
  have HOK := Lib.hid hok
  have B3 := Lib.hid (B1.out.trans (BX.out.mono hs1))
  clear hX hok hXlt hXl OX2 c0 c1 f0 f1 hx0 hx1
  refine (open_any _ (len + 2) cx _ _ AX.out (by omega)).mono ?_
  rintro e w4 ⟨q4, hif⟩
  have B4 := Lib.hid (B3.out.trans (q4.mono B3.out.size))
  rw [HOK.out] at hif
  by_cases z1 : one = 0
  · have t1 : ((one : Int) == 0) = true := by simp [z1]
    by_cases z2 : two' = 0
    · have t2 : ((two' : Int) == 0) = true := by simp [z2]
      rw [if_pos (by simp [z1, z2])] at hif
      obtain ⟨g5, he, _⟩ := hif
      subst he
      clear z1 z2
      go_wp2_with fail
      go_ret
      exact ⟨rfl, B4.out⟩
    · have t2 : ((two' : Int) == 0) = false := by simp; omega
      rw [if_neg (by simp [z2])] at hif
      subst hif
      clear z1 z2
      go_wp2_with fail
      go_ret
      exact ⟨rfl, B4.out⟩
  · have t1 : ((one : Int) == 0) = false := by simp; omega
    rw [if_neg (by simp [z1])] at hif
    subst hif
    clear z1
    go_wp2_with fail
    go_ret
    exact ⟨rfl, B4.out⟩
theorem bytes_big (a : Option Addr) (len cap : Nat) (at' one two' : Int) (w : World) (hm : len ≤ maxLen) (hlen : 4000 < len) :
    Calls Try.prog 7 #[.slice a len cap, .int .u16 at', .int .u8 one, .int .u8 two'] w fun e w' => e = .returned (.bool true) ∧ Below w.heap.size w w' := by
  unfold maxLen at hm
  have hd : decide (4000 < (len : Int)) = true := by simp; omega
  go_enter Try.func7, Try.ntmps7
  go_wp2_with fail
  refine (head_any w).mono ?_
  rintro e w0 ⟨rfl, b0⟩
  go_wp2_with fail
  go_ret
  exact ⟨rfl, b0⟩

theorem bytes_all (a : Option Addr) (len cap : Nat) (f : Nat → Nat) (at' one two' : Int) (w : World) (h : Arg w a len cap f) (ht : (Lit.int .u16 at').wf = true) (h1 : (Lit.int .u8 one).wf = true) (h2 : (Lit.int .u8 two').wf = true) :
    Calls Try.prog 7 #[.slice a len cap, .int .u16 at', .int .u8 one, .int .u8 two'] w fun e w' => e = .returned (.bool true) ∧ Below w.heap.size w w' := by
  by_cases hl : 4000 < len
  · exact bytes_big a len cap at' one two' w h.row.le hl
  · have x0 := bd_u16 ht
    have x1 := bd_u8 h1
    have x2 := bd_u8 h2
    obtain ⟨n, rfl⟩ := Int.eq_ofNat_of_zero_le x0.1
    obtain ⟨p, rfl⟩ := Int.eq_ofNat_of_zero_le x1.1
    obtain ⟨q, rfl⟩ := Int.eq_ofNat_of_zero_le x2.1
    exact bytes_walk a len cap f n p q w h (by omega) (by omega) (by omega) (by omega)

theorem arg_bytes {H : Type} {enc : TypeId × Value → H} {w : World} {fuel : Nat} {a : Option Addr} {len cap : Nat} {x : DataW H × List MemPlace} (h : DataW.trod enc Try.prog w 0 (fun _ => true) true fuel 22 [.slice a len cap] = some x) :
    ∃ f : Nat → Nat, Arg w a len cap f := by
  rcases open_ints (k := .u8) Try.underlying22 Try.underlying5 (by kernel_rfl) h with ⟨hcs, _⟩ | ⟨y, l, c, zs, hcs, _, hl, hm, hz, _, hcell, hwz⟩
  · simp at hcs
    obtain ⟨rfl, rfl, rfl⟩ := hcs
    exact ⟨fun _ => 0, ⟨Nat.zero_le _, .inl rfl⟩, fun i hi => absurd hi (Nat.not_lt_zero _), fun _ => ⟨rfl, rfl⟩, Nat.le_refl _, Nat.zero_le _⟩
  · simp at hcs
    obtain ⟨rfl, rfl, rfl⟩ := hcs
    have hz' : zs.length = cap := by simpa using hz
    have hb : ∀ i, i < len → 0 ≤ zs.getD i 0 ∧ zs.getD i 0 ≤ 255 := by
      intro i hi
      refine bd_u8 (hwz _ ?_)
      have hi' : i < zs.length := by omega
      simp [List.getD, List.getElem?_eq_getElem hi']
    refine ⟨fun i => (zs.getD i 0).toNat, Row.mk_of (Nat.le_trans hl hm) (fun i hi => ?_), fun i hi => ?_, (fun q => by cases q), hl, hm⟩
    · rw [hcell i (by omega)]
      simp only [Int.toNat_of_nonneg (hb i hi).1]
    · have := hb i hi
      show (zs.getD i 0).toNat < 256
      omega

end Go.Proofs.Ytkkhkcjgpefjiaa
