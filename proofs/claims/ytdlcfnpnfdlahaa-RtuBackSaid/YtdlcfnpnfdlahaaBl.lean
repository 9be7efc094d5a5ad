/- The walk of RtuBack, where nothing is framed. -/
import Derived.Test.YtdlcfnpnfdlahaaBk
namespace Go.Proofs.Ytdlcfnpnfdlahaa
set_option linter.unusedVariables false
open Go.ChangeShapes Go.WideShapes Go.ChangeAt Go.RowKit

set_option maxRecDepth 100000 in
set_option maxHeartbeats 8000000 in
theorem back_long (u : Nat) (hu : u < 256) (a : Option Addr) (len cap : Nat) (L : List Nat) (w : World) (h : ArgB w a len cap L) (hlen : len ≤ 20000) (hc : ¬ (0 < len ∧ len ≤ 253)) (h0 : ¬ len = 0) :
    Calls Try.prog 4 #[.int .u8 (u : Int), .slice a len cap] w fun e w' => e = .returned (.bool true) ∧ Below w.heap.size w w' := by
  have hd : decide (20000 < (len : Int)) = false := by simp; omega
  have hn := h.row.ln
  have hP := pL_len u L
  have hgp := get_put u L
  have hpl : ∀ h : 0 < L.length ∧ L.length ≤ 253, pL u L = sealN (u :: L) := fun h => by unfold pL; rw [if_pos h]
  rw [hn] at hP hgp hpl
  have HP := Lib.hid hP
  have GP := Lib.hid hgp
  have HPL := Lib.hid hpl
  have H := Lib.hid h
  have k1 := fun w a len cap h => put_q u a len cap L w h hu
  unfold PutQ at k1
  have K1 := Lib.hid k1
  clear h hP hgp k1 hpl hn
  go_enter Try.func4, Try.ntmps4
  go_wp2_with fail
  refine (head_any w).mono ?_
  rintro e w0 ⟨rfl, b0⟩
  have B0 := Lib.hid b0
  have hs0 := b0.size
  have H0 := Lib.hid (H.out.below b0)
  clear b0 H
  go_wp2_with fail
  refine (K1.out w0 a len cap H0.out.row).mono ?_
  rintro e w1 ⟨fa, fc, rfl, af, nf, b1⟩
  have B1 := Lib.hid (B0.out.trans (b1.mono hs0))
  have H1 := Lib.hid (H0.out.below b1)
  have AF := Lib.hid af
  have hs1 := B1.out.size
  clear b1 af nf K1 H0 B0
  -- the second half, from whatever world
  have hlast : ∀ (w2 : World), Below w.heap.size w w2 → ArgB w2 a len cap L → True := fun _ _ _ => trivial
  clear hlast
  · have hl0 : (pL u L).length = 0 := by rw [HP.out, if_neg hc]
    rw [hl0]
    have H2 := H1
    have B2 := B1
    have hs2 := hs1
    clear AF HP GP HPL hl0
    · have t0 : 0 < len := by omega
      have t1 : decide ((len : Int) ≤ 253) = false := by simp; omega
      clear hc h0
      go_wp2_with fail
      have GB := Lib.hid (fun (x : Nat) (Q : List Nat) (hq : getR L = .ok x Q) => getR_by hq H2.out.row.by')
      refine (get_any a len cap L _ H2.out).mono ?_
      rintro e w3 ⟨b3, hif⟩
      have H3 := Lib.hid (H2.out.below b3)
      have B3 := Lib.hid (B2.out.trans (b3.mono hs2))
      have hs3 := B3.out.size
      cases hg : getR L with
      | err c =>
        rw [hg] at hif
        simp only at hif
        subst hif
        have hc0 := getR_err hg
        have t4 : ((c : Int) != 0) = true := by simp; omega
        have t5 : ((c : Int) == 0) = false := by simp; omega
        clear b3 hg H2 B2 hc0
        go_wp2_with fail
        go_quiet (fail)
        go_wp2_with fail
        go_ret
        exact ⟨rfl, B3.out.trans (below_drewN _ _ _)⟩
      | ok x Q =>
        rw [hg] at hif
        simp only at hif
        obtain ⟨g3, k3, rfl, ho3⟩ := hif
        obtain ⟨hx, hQ⟩ := GB.out x Q hg
        have PG := Lib.hid (put_get hg)
        have O3 := Lib.hid (ho3.bys hQ)
        have hB3 := (fun w' (hw : Below w3.heap.size w3 w') => conv_bys (cap := cap) (H3.out.row.below hw))
        generalize hSS : strN L = SS at hB3
        have HSS := Lib.hid hSS
        have HB3 := Lib.hid hB3
        clear hSS hB3
        clear b3 hg H2 B2 ho3 GB hQ
        generalize Q.length = q at *
        go_wp2_with fail
        have ky : (convert 22 9 (.slice a len cap)).run Try.prog w3.drew = .ok (.string SS) w3.drew := HB3.out _ (below_drewN _ _ 1)
        have OD := Lib.hid (show Bys w3.drew (some ⟨g3, 0, none⟩) q Q from O3.out.below (W' := w3.drew) (below_drewN w3.heap.size w3 1))
        first | go_region_held (fun w' => (convert 22 9 (.slice a len cap)).run Try.prog w' = .ok (.string SS) w') (first | exact ky | exact ky4 | go_keep) (first | (go_at_call 12; refine (put_q x (some ⟨g3, 0, none⟩) q k3 Q w3.drew OD.out hx).mono ?_; rintro e w4 ⟨pa, pc, rfl, pf, _, q4⟩; have hz4 := conv_bys (cap := pc) pf.row; rw [PG.out, HSS.out] at hz4; have ky4 := HB3.out w4 ((below_drewN w3.heap.size w3 1).trans q4); rw [PG.out]; clear pf) | (rw [if_neg (by exact (nofun : ¬ (none = some true)))])) | fail
        all_goals
          go_wp2_with fail
          go_ret
          exact ⟨rfl, B3.out.drew.trans (q4.mono hs3)⟩

end Go.Proofs.Ytdlcfnpnfdlahaa
