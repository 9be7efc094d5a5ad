/- The walk of RtuBack. -/
import Derived.Test.YtdlcfnpnfdlahaaTw
import Derived.Deep.RegionHeld
namespace Go.Proofs.Ytdlcfnpnfdlahaa
set_option linter.unusedVariables false
open Go.ChangeShapes Go.WideShapes Go.ChangeAt Go.RowKit

theorem get_put (u : Nat) (P : List Nat) (h0 : 0 < P.length) (h1 : P.length ≤ 253) : getR (sealN (u :: P)) = .ok u P := by
  have hl : (sealN (u :: P)).length = P.length + 3 := by rw [sealN_len]; simp
  unfold getR
  rw [hl, if_neg (by omega), if_neg (by omega), if_pos (okN_seal _)]
  have e1 : (sealN (u :: P)).getD 0 0 = u := rfl
  have e2 : ((sealN (u :: P)).drop 1).take (P.length + 3 - 3) = P := by
    have : (sealN (u :: P)).drop 1 = P ++ [crcF (fn (u :: P)) (u :: P).length % 256, crcF (fn (u :: P)) (u :: P).length / 256] := rfl
    rw [this, show P.length + 3 - 3 = P.length by omega, List.take_append_of_le_length (Nat.le_refl _), List.take_length]
  rw [e1, e2]
theorem put_get {L : List Nat} {u : Nat} {P : List Nat} (h : getR L = .ok u P) : pL u P = L := by
  unfold getR at h
  by_cases h1 : 256 < L.length
  · rw [if_pos h1] at h; cases h
  · by_cases h2 : L.length < 4
    · rw [if_neg h1, if_pos h2] at h; cases h
    · rw [if_neg h1, if_neg h2] at h
      by_cases h3 : okN L = true
      · rw [if_pos h3] at h
        cases h
        obtain ⟨_, hs⟩ := seal_okN h3
        have hl : ((L.drop 1).take (L.length - 3)).length = L.length - 3 := by rw [List.length_take, List.length_drop]; omega
        have hc : L.getD 0 0 :: (L.drop 1).take (L.length - 3) = L.take (L.length - 2) := by
          cases L with
          | nil => simp at h2
          | cons x xs =>
            simp only [List.length_cons, List.drop_succ_cons, List.drop_zero]
            rw [show xs.length + 1 - 2 = (xs.length + 1 - 3) + 1 by simp at h2; omega, List.take_succ_cons]
            rfl
        unfold pL
        rw [if_pos (by rw [hl]; omega), hc]
        exact hs
      · rw [if_neg h3] at h; cases h
theorem getR_by {L : List Nat} {u : Nat} {P : List Nat} (h : getR L = .ok u P) (hb : ∀ b ∈ L, b < 256) : u < 256 ∧ ∀ b ∈ P, b < 256 := by
  unfold getR at h
  (repeat' split at h) <;> cases h
  exact ⟨getD_lt hb 0, fun b hx => hb b (List.mem_of_mem_drop (List.mem_of_mem_take hx))⟩
theorem getR_err {L : List Nat} {c : Nat} (h : getR L = .err c) : c ≠ 0 := by
  unfold getR at h
  (repeat' split at h) <;> cases h <;> omega

set_option maxRecDepth 100000 in
set_option maxHeartbeats 8000000 in
theorem back_in (u : Nat) (hu : u < 256) (a : Option Addr) (len cap : Nat) (L : List Nat) (w : World) (h : ArgB w a len cap L) (hlen : len ≤ 20000) (hc : 0 < len ∧ len ≤ 253) :
    Calls Try.prog 4 #[.int .u8 (u : Int), .slice a len cap] w fun e w' => e = .returned (.bool true) ∧ Below w.heap.size w w' := by
  have hd : decide (20000 < (len : Int)) = false := by simp; omega
  have hn := h.row.ln
  have hP := pL_len u L
  have hgp := get_put u L
  have hpl : ∀ h : 0 < L.length ∧ L.length ≤ 253, pL u L = sealN (u :: L) := fun h => by unfold pL; rw [if_pos h]
  rw [hn] at hP hgp hpl
  have HP := Lib.hid hP
  have GP := Lib.hid hgp
  have HPL := Lib.hid hpl
  have H := Lib.hid h
  have k1 := fun w a len cap h => put_q u a len cap L w h hu
  unfold PutQ at k1
  have K1 := Lib.hid k1
  clear h hP hgp k1 hpl hn
  go_enter Try.func4, Try.ntmps4
  go_wp2_with fail
  refine (head_any w).mono ?_
  rintro e w0 ⟨rfl, b0⟩
  have B0 := Lib.hid b0
  have hs0 := b0.size
  have H0 := Lib.hid (H.out.below b0)
  clear b0 H
  go_wp2_with fail
  refine (K1.out w0 a len cap H0.out.row).mono ?_
  rintro e w1 ⟨fa, fc, rfl, af, nf, b1⟩
  have B1 := Lib.hid (B0.out.trans (b1.mono hs0))
  have H1 := Lib.hid (H0.out.below b1)
  have AF := Lib.hid af
  have hs1 := B1.out.size
  clear b1 af nf K1 H0 B0
  -- the second half, from whatever world
  have hlast : ∀ (w2 : World), Below w.heap.size w w2 → ArgB w2 a len cap L → True := fun _ _ _ => trivial
  clear hlast
  · have t0 : 0 < len := hc.1
    have t1 : decide ((len : Int) ≤ 253) = true := by simp; omega
    have t3 : decide ((0 : Int) < (len : Int) + 3) = true := by simp; omega
    have hl3 : (pL u L).length = len + 3 := by rw [HP.out, if_pos hc]
    have hpl := HPL.out hc
    have hgp := GP.out hc.1 hc.2
    rw [hpl] at AF hl3 ⊢
    rw [hl3] at AF ⊢
    have AF' := Lib.hid AF.out
    have hgp' := Lib.hid hgp
    clear hc hpl hgp hl3 AF HP GP HPL
    go_wp2_with fail
    refine (get_any fa (len + 3) fc _ w1 AF'.out).mono ?_
    rintro e w2 ⟨b2, hif⟩
    rw [hgp'.out] at hif
    simp only at hif
    obtain ⟨g2, k2, rfl, ho2⟩ := hif
    have H2 := Lib.hid (H1.out.below b2)
    have B2 := Lib.hid (B1.out.trans (b2.mono hs1))
    have hs2 := B2.out.size
    have hx2 := conv_bys (cap := k2) (ho2.bys H1.out.row.by')
    have hn := H1.out.row.ln
    rw [hn] at hx2 ⊢
    have hy2 := conv_bys (cap := cap) H2.out.row
    have X2 := Lib.hid hx2
    clear b2 ho2 hn H1 B1 AF' hgp'
    go_wp2_with fail
    have GB := Lib.hid (fun (x : Nat) (Q : List Nat) (hq : getR L = .ok x Q) => getR_by hq H2.out.row.by')
    refine (get_any a len cap L _ H2.out).mono ?_
    rintro e w3 ⟨b3, hif⟩
    have H3 := Lib.hid (H2.out.below b3)
    have B3 := Lib.hid (B2.out.trans (b3.mono hs2))
    have hs3 := B3.out.size
    cases hg : getR L with
    | err c =>
      rw [hg] at hif
      simp only at hif
      subst hif
      have hc0 := getR_err hg
      have t4 : ((c : Int) != 0) = true := by simp; omega
      have t5 : ((c : Int) == 0) = false := by simp; omega
      clear b3 hg H2 B2 hc0
      go_wp2_with fail
      go_quiet (fail)
      go_wp2_with fail
      go_ret
      exact ⟨rfl, B3.out.trans (below_drewN _ _ _)⟩
    | ok x Q =>
      rw [hg] at hif
      simp only at hif
      obtain ⟨g3, k3, rfl, ho3⟩ := hif
      obtain ⟨hx, hQ⟩ := GB.out x Q hg
      have PG := Lib.hid (put_get hg)
      have O3 := Lib.hid (ho3.bys hQ)
      have hB3 := (fun w' (hw : Below w3.heap.size w3 w') => conv_bys (cap := cap) (H3.out.row.below hw))
      generalize hSS : strN L = SS at hB3
      have HSS := Lib.hid hSS
      have HB3 := Lib.hid hB3
      clear hSS hB3
      try clear hx2 hy2 X2
      clear b3 hg H2 B2 ho3 GB hQ
      generalize Q.length = q at *
      go_wp2_with fail
      have ky : (convert 22 9 (.slice a len cap)).run Try.prog w3.drew = .ok (.string SS) w3.drew := HB3.out _ (below_drewN _ _ 1)
      have OD := Lib.hid (show Bys w3.drew (some ⟨g3, 0, none⟩) q Q from O3.out.below (W' := w3.drew) (below_drewN w3.heap.size w3 1))
      first | go_region_held (fun w' => (convert 22 9 (.slice a len cap)).run Try.prog w' = .ok (.string SS) w') (first | exact ky | exact ky4 | go_keep) (first | (go_at_call 12; refine (put_q x (some ⟨g3, 0, none⟩) q k3 Q w3.drew OD.out hx).mono ?_; rintro e w4 ⟨pa, pc, rfl, pf, _, q4⟩; have hz4 := conv_bys (cap := pc) pf.row; rw [PG.out, HSS.out] at hz4; have ky4 := HB3.out w4 ((below_drewN w3.heap.size w3 1).trans q4); rw [PG.out]; clear pf) | (rw [if_neg (by exact (nofun : ¬ (none = some true)))])) | fail
      all_goals
        go_wp2_with fail
        go_ret
        exact ⟨rfl, B3.out.drew.trans (q4.mono hs3)⟩
end Go.Proofs.Ytdlcfnpnfdlahaa
