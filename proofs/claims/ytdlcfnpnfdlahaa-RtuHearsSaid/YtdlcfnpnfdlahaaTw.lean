/- The walk of RtuTwo. -/
import Derived.Test.YtdlcfnpnfdlahaaH
namespace Go.Proofs.Ytdlcfnpnfdlahaa
set_option linter.unusedVariables false
open Go.ChangeShapes Go.WideShapes Go.ChangeAt Go.RowKit

theorem by_app {L M : List Nat} (h : ∀ b ∈ L, b < 256) (h' : ∀ b ∈ M, b < 256) : ∀ b ∈ L ++ M, b < 256 := by
  intro b hb
  rcases List.mem_append.1 hb with z | z
  · exact h b z
  · exact h' b z
/-- What Put makes: a frame, or nothing. -/
def pL (u : Nat) (P : List Nat) : List Nat := if 0 < P.length ∧ P.length ≤ 253 then sealN (u :: P) else []
def PutQ (w : World) (u : Nat) (P : List Nat) (e : Ending) (w' : World) : Prop :=
  ∃ fa fc, e = .returned (.slice fa (pL u P).length fc) ∧ ArgB w' fa (pL u P).length fc (pL u P) ∧ (∀ b off, fa = some ⟨b, off, none⟩ → w.heap.size ≤ b) ∧ Below w.heap.size w w'
theorem put_q (u : Nat) (a : Option Addr) (n cap : Nat) (P : List Nat) (w : World) (h : Bys w a n P) (hu : u < 256) :
    Calls Try.prog 12 #[.int .u8 (u : Int), .slice a n cap] w (PutQ w u P) := by
  refine (put_any u a n cap P w h hu).mono ?_
  rintro e w1 ⟨hb, hif⟩
  unfold PutQ pL
  by_cases hc : 0 < P.length ∧ P.length ≤ 253
  · rw [if_pos hc] at hif ⊢
    obtain ⟨g, c, rfl, ho⟩ := hif
    have hl : (sealN (u :: P)).length = P.length + 3 := by rw [sealN_len]; simp
    rw [hl]
    refine ⟨some ⟨g, 0, none⟩, c, rfl, ho.arg (sealN_by (by_cons hu h.by')), ?_, hb⟩
    intro b off e
    obtain ⟨_, _, hg, _⟩ := ho.at
    simp only [Option.some.injEq, Addr.mk.injEq, and_true] at e
    omega
  · rw [if_neg hc] at hif ⊢
    subst hif
    exact ⟨none, 0, rfl, ⟨Bys.nil _ _, fun _ => ⟨rfl, rfl⟩, Nat.le_refl _, Nat.zero_le _⟩, (fun b off e => by cases e), hb⟩
theorem pL_len (u : Nat) (P : List Nat) : (pL u P).length = if 0 < P.length ∧ P.length ≤ 253 then P.length + 3 else 0 := by
  unfold pL
  split
  · rw [sealN_len]; simp
  · rfl

theorem crcF_app (F G : List Nat) (m : Nat) : crcF (fn (F ++ G)) (F.length + m) = crcI (crcF (fn F) F.length) (fn G) m := by
  induction m with
  | zero =>
    exact crcF_congr _ _ _ fun i hi => by simp only [fn, List.getD]; rw [List.getElem?_append_left hi]
  | succ m ih =>
    rw [← Nat.add_assoc]
    simp only [crcF, crcI]
    rw [ih]
    congr 2
    simp only [fn, List.getD]
    rw [List.getElem?_append_right (by omega), show F.length + m - F.length = m by omega]
theorem crcI_zeros (c n : Nat) (hc : c < 65536) (h : crcI c (fun _ => 0) n = 0) : c = 0 := by
  induction n with
  | zero => exact h
  | succ n ih =>
    simp only [crcI, Nat.xor_zero] at h
    exact ih (halves_zero 8 _ (crcI_lt c _ _ hc fun i _ => by omega) h)
theorem okN_crc {L : List Nat} (h2 : 2 ≤ L.length) (hb : ∀ b ∈ L, b < 256) : okN L = decide (crcF (fn L) L.length = 0) := by
  obtain ⟨n, hn⟩ : ∃ n, L.length = n + 2 := ⟨L.length - 2, by omega⟩
  unfold okN
  rw [hn]
  exact ok_res (fn L) n fun i _ => getD_lt hb i
theorem two_no (A B : List Nat) (hA : ∀ b ∈ A, b < 256) (hB : ∀ b ∈ B, b < 256) : okN (sealN A ++ sealN B) = false := by
  have hAl := sealN_len A
  have hBl := sealN_len B
  have bA := sealN_by hA
  have bB := sealN_by hB
  have oA := okN_seal A
  have oB := okN_seal B
  rw [okN_crc (by omega) bA] at oA
  rw [okN_crc (by omega) bB] at oB
  simp only [decide_eq_true_eq] at oA oB
  rw [okN_crc (by rw [List.length_append]; omega) (by_app bA bB)]
  rw [List.length_append, crcF_app, oA]
  simp only [decide_eq_false_iff_not]
  intro h0
  have hx := crcI_xor 0 65535 (fn (sealN B)) (fn (sealN B)) (sealN B).length
  rw [crcI_F, oB, h0, Nat.xor_self, Nat.zero_xor] at hx
  have : (fun i => fn (sealN B) i ^^^ fn (sealN B) i) = fun _ => 0 := by funext i; exact Nat.xor_self _
  rw [this] at hx
  exact absurd (crcI_zeros 65535 _ (by omega) hx) (by omega)
theorem two_sil (u : Nat) (P Q : List Nat) (hu : u < 256) (hP : ∀ b ∈ P, b < 256) (hQ : ∀ b ∈ Q, b < 256) (h1 : (pL u P).length ≠ 0) (h2 : (pL u Q).length ≠ 0) : sil (pL u P ++ pL u Q) = .err (if 256 < (pL u P).length + (pL u Q).length then 22 else 23) := by
  have e1 : pL u P = sealN (u :: P) := by unfold pL at h1 ⊢; split at h1 <;> simp_all
  have e2 : pL u Q = sealN (u :: Q) := by unfold pL at h2 ⊢; split at h2 <;> simp_all
  rw [e1, e2]
  have h := two_no (u :: P) (u :: Q) (by_cons hu hP) (by_cons hu hQ)
  have hl : (sealN (u :: P) ++ sealN (u :: Q)).length = (sealN (u :: P)).length + (sealN (u :: Q)).length := List.length_append
  have l1 := sealN_len (u :: P)
  have l2 := sealN_len (u :: Q)
  have hne : sealN (u :: P) ++ sealN (u :: Q) ≠ [] := by intro e; rw [e] at hl; simp at hl; omega
  unfold sil getR
  rw [if_neg hne, hl, h]
  by_cases h1 : 256 < (sealN (u :: P)).length + (sealN (u :: Q)).length
  · rw [if_pos h1, if_pos h1]
  · rw [if_neg h1, if_neg h1, if_neg (by omega), if_neg (by simp)]

set_option maxRecDepth 100000 in
set_option maxHeartbeats 4000000 in
theorem two_walk (u : Nat) (hu : u < 256) (a : Option Addr) (len cap : Nat) (P : List Nat) (b : Option Addr) (len2 cap2 : Nat) (Q : List Nat) (w : World) (h : ArgB w a len cap P) (h2 : ArgB w b len2 cap2 Q) :
    Calls Try.prog 8 #[.int .u8 (u : Int), .slice a len cap, .slice b len2 cap2] w fun e w' => e = .returned (.bool true) ∧ Below w.heap.size w w' := by
  have hsil := two_sil u P Q hu h.row.by' h2.row.by'
  have hP := pL_len u P
  have hQ := pL_len u Q
  have hn := h.row.ln
  have hn2 := h2.row.ln
  have hP' : (pL u P).length ≤ 256 ∧ ((pL u P).length ≠ 0 → len ≤ 253) := by rw [hP, hn]; split <;> omega
  have hQ' : (pL u Q).length ≤ 256 ∧ ((pL u Q).length ≠ 0 → len2 ≤ 253) := by rw [hQ, hn2]; split <;> omega
  have SI := Lib.hid hsil
  have H := Lib.hid h
  have H2 := Lib.hid h2
  have k1 := fun w a len cap h => put_q u a len cap P w h hu
  have k2 := fun w a len cap h => put_q u a len cap Q w h hu
  unfold PutQ at k1 k2
  have K1 := Lib.hid k1
  have K2 := Lib.hid k2
  clear h h2 hsil k1 k2 hP hQ hn hn2
  generalize pL u P = F at *
  generalize pL u Q = G at *
  generalize hfl : F.length = fl at *
  generalize hgl : G.length = gl at *
  have FL := Lib.hid hfl
  have GL := Lib.hid hgl
  clear hfl hgl
  go_enter Try.func8, Try.ntmps8
  go_wp2_with fail
  refine (head_any w).mono ?_
  rintro e w0 ⟨rfl, b0⟩
  have B0 := Lib.hid b0
  have hs0 := b0.size
  have H0 := Lib.hid (H.out.below b0)
  have H02 := Lib.hid (H2.out.below b0)
  clear b0 H H2
  go_wp2_with fail
  refine (new_any w0).mono ?_
  rintro e w1 ⟨rfl, e1, b1⟩
  have B1 := Lib.hid (B0.out.trans (b1.mono hs0))
  have E1 := Lib.hid e1
  have H1 := Lib.hid (H0.out.below b1)
  have H12 := Lib.hid (H02.out.below b1)
  have hs1 := b1.size
  have hlt1 := e1.lt
  clear b1 e1 H0 H02
  go_wp2_with fail
  refine (K1.out w1 a len cap H1.out.row).mono ?_
  rintro e w2 ⟨fa, fc, rfl, af, nf, b2⟩
  have B2 := Lib.hid (B1.out.trans (b2.mono B1.out.size))
  have E2 := Lib.hid (E1.out.below b2)
  have H22 := Lib.hid (H12.out.below b2)
  have AF := Lib.hid af
  have NF := Lib.hid nf
  have hs2 := b2.size
  clear b2 E1 H12 af nf K1
  go_wp2_with fail
  refine (K2.out w2 b len2 cap2 H22.out.row).mono ?_
  rintro e w3 ⟨ga, gc, rfl, ag, ng, b3⟩
  have B3 := Lib.hid (B2.out.trans (b3.mono B2.out.size))
  have E3 := Lib.hid (E2.out.below b3)
  have AF3 := Lib.hid (AF.out.below b3)
  have AG := Lib.hid ag
  have NG := Lib.hid ng
  have hs3 := b3.size
  clear b3 E2 AF ag ng K2
  by_cases hz : fl = 0 ∨ gl = 0
  · cases hd : decide (600 < wrap64 ((len : Int) + (len2 : Int)))
    · by_cases hf0 : fl = 0
      · have d2 : ((fl : Int) == 0) = true := by simp [hf0]
        clear hf0 hz hP' hQ'
        go_wp2_with fail
        go_ret
        exact ⟨rfl, B3.out⟩
      · have d2 : ((fl : Int) == 0) = false := by simp; omega
        have d3 : ((gl : Int) == 0) = true := by simp; omega
        clear hf0 hz hP' hQ'
        go_wp2_with fail
        go_ret
        exact ⟨rfl, B3.out⟩
    · clear hz hP' hQ'
      go_wp2_with fail
      go_ret
      exact ⟨rfl, B3.out⟩
  · have hf0 : fl ≠ 0 := by omega
    have hg0 : gl ≠ 0 := by omega
    have l1 := hP'.2 hf0
    have l2 := hQ'.2 hg0
    have l3 := hP'.1
    have l4 := hQ'.1
    have d1 : decide (600 < (len : Int) + (len2 : Int)) = false := by simp; omega
    have d2 : ((fl : Int) == 0) = false := by simp; omega
    have d3 : ((gl : Int) == 0) = false := by simp; omega
    clear hz hP' hQ'
    have hsil := Lib.hid (SI.out hf0 hg0)
    clear hf0 hg0
    go_wp2_with fail
    refine (hear_any E3.out fa fl fc F AF3.out.row (by omega)).mono ?_
    rintro e w4 ⟨rfl, e4, f4⟩
    have E4 := Lib.hid (show Er w0.heap.size w4 w0.heap.size F from e4)
    have F4 := Lib.hid f4
    have AG4 := Lib.hid (AG.out.row.fr f4 (fun b off _ e => by have := NG.out b off e; omega))
    have hs4 := f4.size
    clear e4 f4
    go_wp2_with fail
    refine (hear_any E4.out ga gl gc G AG4.out (by omega)).mono ?_
    rintro e w5 ⟨rfl, e5, f5⟩
    have E5 := Lib.hid e5
    have F5 := Lib.hid (F4.out.trans f5)
    have hs5 := f5.size
    clear e5 f5
    go_wp2_with fail
    refine (sil_any E5.out (by omega)).mono ?_
    rintro e w6 ⟨_, f6, hif⟩
    rw [hsil.out] at hif
    have hne : decide (F ++ G ≠ []) = true := by
      have : (F ++ G).length ≠ 0 := by rw [List.length_append, FL.out, GL.out]; simp at d2; omega
      simp only [decide_eq_true_eq]
      intro e
      rw [e] at this
      exact this rfl
    rw [hne] at hif
    simp only at hif
    have HB := Lib.hid (B3.out.trans ((F5.out.trans f6).below (by omega : w.heap.size ≤ w0.heap.size) B3.out.size))
    clear hne hsil
    by_cases hlong : 256 < fl + gl
    · have d4 : decide (256 < (fl : Int) + (gl : Int)) = true := by simp; omega
      rw [if_pos hlong] at hif
      subst hif
      go_wp2_with fail
      go_ret
      exact ⟨rfl, HB.out⟩
    · have d4 : decide (256 < (fl : Int) + (gl : Int)) = false := by simp; omega
      rw [if_neg hlong] at hif
      subst hif
      go_wp2_with fail
      go_ret
      exact ⟨rfl, HB.out⟩

theorem two_all (u : Int) (hu : (Lit.int .u8 u).wf = true) (a : Option Addr) (len cap : Nat) (P : List Nat) (b : Option Addr) (len2 cap2 : Nat) (Q : List Nat) (w : World) (h : ArgB w a len cap P) (h2 : ArgB w b len2 cap2 Q) :
    Calls Try.prog 8 #[.int .u8 u, .slice a len cap, .slice b len2 cap2] w fun e w' => e = .returned (.bool true) ∧ Below w.heap.size w w' := by
  have hb := bd_u8 hu
  obtain ⟨n, rfl⟩ := Int.eq_ofNat_of_zero_le hb.1
  exact two_walk n (by omega) a len cap P b len2 cap2 Q w h h2
end Go.Proofs.Ytdlcfnpnfdlahaa
