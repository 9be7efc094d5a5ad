/- The walk of RtuSpoilt: a frame that is cut; and all of it. -/
import Derived.Test.YtdlcfnpnfdlahaaSpB
import Derived.Test.YtdlcfnpnfdlahaaSpC
import Derived.Test.YtdlcfnpnfdlahaaQT
namespace Go.Proofs.Ytdlcfnpnfdlahaa
set_option linter.unusedVariables false
open Go.ChangeShapes Go.WideShapes Go.ChangeAt Go.RowKit

/-- The document's opening, of whatever bytes. -/
def ROpenQ (w : World) (L : List Nat) (e : Ending) (w' : World) : Prop :=
  Below w.heap.size w w' ∧ ∃ (a : Option Addr) (l c : Nat), e = .returned (.tuple #[.slice a l c, .bool (okN L)]) ∧ (okN L = true → l = L.length - 2 ∧ ∃ g, a = some ⟨g, 0, none⟩ ∧ RowB w' (some ⟨g, 0, none⟩) (L.length - 2) (fun i => (bl (fn L) (L.length - 2)).getD i 0))
theorem ropen_q (a : Option Addr) (len cap : Nat) (L : List Nat) (w : World) (h : ArgB w a len cap L) (hl : len ≤ 100000) : Calls Try.prog 23 #[.slice a len cap] w (ROpenQ w L) := by
  have hn := h.row.ln
  subst hn
  have key : ∀ e w', ROpenP w (fn L) L.length e w' → ROpenQ w L e w' := by
    rintro e w' ⟨hb, hif⟩
    refine ⟨hb, ?_⟩
    unfold okN
    cases hok : okF (fn L) L.length with
    | true =>
      rw [hok, if_pos rfl] at hif
      obtain ⟨g, c, he, hr⟩ := hif
      exact ⟨_, _, _, he, fun _ => ⟨rfl, g, rfl, hr⟩⟩
    | false =>
      rw [hok, if_neg (by simp)] at hif
      exact ⟨_, _, _, hif, fun e => by cases e⟩
  by_cases h2 : L.length < 2
  · exact (ropen_short a L.length cap (fn L) w h2).mono key
  · obtain ⟨n, hn⟩ : ∃ n, L.length = n + 2 := ⟨L.length - 2, by omega⟩
    obtain ⟨b, off, rfl, _, _⟩ := h.row.pos (by omega)
    have hr := h.row.q
    have hle := h.le
    rw [hn] at hr hle ⊢
    rw [hn] at key
    exact (ropen_long b off n cap (fn L) w hr (fun i _ => getD_lt h.row.by' i) hle h.mx (by omega)).mono key

set_option maxRecDepth 100000 in
set_option maxHeartbeats 4000000 in
theorem spoilt_cut (u : Nat) (hu : u < 256) (a : Option Addr) (len cap : Nat) (P : List Nat) (at' : Nat) (w : World) (h : ArgB w a len cap P) (h0 : 0 < len) (h1 : len ≤ 253) (ht : at' ≤ 65535) :
    Calls Try.prog 7 #[.int .u8 (u : Int), .slice a len cap, .int .u16 (at' : Int), .bool true] w fun e w' => e = .returned (.bool true) ∧ Below w.heap.size w w' := by
  have hn := h.row.ln
  obtain ⟨m, hmd⟩ : ∃ m : Nat, m = at' % (len + 3) := ⟨_, rfl⟩
  have hml : m < len + 3 := by rw [hmd]; exact Nat.mod_lt _ (by omega)
  have hK : ((at' : Int) % ((len : Int) + 3)) = (m : Int) := by
    have e : ((len : Int) + 3) = ((len + 3 : Nat) : Int) := by omega
    rw [e, ← Int.natCast_emod, hmd]
  have hFb := sealN_by (by_cons hu h.row.by')
  have hFl : (sealN (u :: P)).length = len + 3 := by rw [sealN_len]; simp [hn]
  have hif0 : 0 < P.length ∧ P.length ≤ 253 := by omega
  have d1 : decide (253 < (len : Int)) = false := by simp; omega
  have d2 : ((len : Int) + 3 == 0) = false := by simp; omega
  have hm1 : (m : Int) ≤ (len : Int) + 3 := by omega
  have H := Lib.hid h
  have FB := Lib.hid hFb
  have FL := Lib.hid hFl
  have IF0 := Lib.hid hif0
  have HN := Lib.hid hn
  clear hmd h hFb hFl hif0 hn
  go_enter Try.func7, Try.ntmps7
  go_wp2_with fail
  refine (head_any w).mono ?_
  rintro e w0 ⟨rfl, b0⟩
  have B0 := Lib.hid b0
  have hs0 := b0.size
  have H0 := Lib.hid (H.out.below b0)
  clear b0 H
  go_wp2_with fail
  refine (put_any u a len cap P w0 H0.out.row hu).mono ?_
  rintro e w1 ⟨b1, hif⟩
  rw [if_pos IF0.out, HN.out] at hif
  obtain ⟨g1, k1, rfl, ho1⟩ := hif
  have hA1 := ho1.arg FB.out
  have hk1 := hA1.le
  have hk2 := hA1.mx
  unfold maxLen at hk2
  have hcut : ArgB w1 (some ⟨g1, 0, none⟩) m k1 ((sealN (u :: P)).take m) := ⟨hA1.row.take m (by omega), (fun e => by cases e), by omega, hA1.mx⟩
  have hXl : ((sealN (u :: P)).take m).length = m := by rw [List.length_take, FL.out]; omega
  have A1 := Lib.hid hcut
  have XL := Lib.hid hXl
  have B1 := Lib.hid (B0.out.trans (b1.mono hs0))
  have hs1 := B1.out.size
  clear b1 ho1 H0 B0 IF0 hA1 hcut hXl
  generalize (sealN (u :: P)).take m = X at *
  go_wp2_with fail
  refine (get_any _ m k1 X _ A1.out).mono ?_
  rintro e w2 ⟨b2, hif⟩
  have A2 := Lib.hid (A1.out.below b2)
  have B2 := Lib.hid (B1.out.trans (b2.mono hs1))
  have hs2 := B2.out.size
  clear b2 A1 B1
  have hgr : getR X = if m < 4 then .err 21 else if okN X = true then .ok (X.getD 0 0) ((X.drop 1).take (m - 3)) else .err 23 := by
    unfold getR
    rw [XL.out, if_neg (by omega)]
  rw [hgr] at hif
  clear hgr
  by_cases h4 : m < 4
  · rw [if_pos h4] at hif
    simp only at hif
    subst hif
    have d4 : decide ((m : Int) < 4) = true := by simp; omega
    go_wp2_with fail
    refine (ropen_q _ m k1 X _ A2.out (by omega)).mono ?_
    rintro e w3 ⟨b3, xa, xl, xc, rfl, _⟩
    have B3 := Lib.hid (B2.out.trans (b3.mono hs2))
    clear b3
    generalize okN X = ok
    go_wp2_with fail
    go_ret
    exact ⟨rfl, B3.out⟩
  · rw [if_neg h4] at hif
    have d4 : decide ((m : Int) < 4) = false := by simp; omega
    cases hok : okN X with
    | true =>
      rw [hok, if_pos rfl] at hif
      simp only at hif
      obtain ⟨g2, k2, rfl, _⟩ := hif
      have OK := Lib.hid hok
      clear hok
      go_wp2_with fail
      refine (ropen_q _ m k1 X _ A2.out (by omega)).mono ?_
      rintro e w3 ⟨b3, xa, xl, xc, rfl, _⟩
      rw [OK.out]
      have B3 := Lib.hid (B2.out.trans (b3.mono hs2))
      clear b3
      go_wp2_with fail
      go_ret
      exact ⟨rfl, B3.out⟩
    | false =>
      rw [hok, if_neg (by simp)] at hif
      simp only at hif
      subst hif
      have OK := Lib.hid hok
      clear hok
      go_wp2_with fail
      refine (ropen_q _ m k1 X _ A2.out (by omega)).mono ?_
      rintro e w3 ⟨b3, xa, xl, xc, rfl, _⟩
      rw [OK.out]
      have B3 := Lib.hid (B2.out.trans (b3.mono hs2))
      clear b3
      go_wp2_with fail
      go_ret
      exact ⟨rfl, B3.out⟩

set_option maxRecDepth 100000 in
set_option maxHeartbeats 4000000 in
theorem spoilt_none (u : Nat) (hu : u < 256) (a : Option Addr) (len cap : Nat) (P : List Nat) (at' : Int) (ct : Bool) (w : World) (h : ArgB w a len cap P) (h0 : ¬ (0 < len ∧ len ≤ 253)) :
    Calls Try.prog 7 #[.int .u8 (u : Int), .slice a len cap, .int .u16 at', .bool ct] w fun e w' => e = .returned (.bool true) ∧ Below w.heap.size w w' := by
  have hl := h.row.le
  unfold maxLen at hl
  have hn := h.row.ln
  have HN := Lib.hid hn
  have H := Lib.hid h
  clear h hn
  go_enter Try.func7, Try.ntmps7
  go_wp2_with fail
  refine (head_any w).mono ?_
  rintro e w0 ⟨rfl, b0⟩
  have B0 := Lib.hid b0
  have hs0 := b0.size
  have H0 := Lib.hid (H.out.below b0)
  clear b0 H
  go_wp2_with fail
  refine (put_any u a len cap P w0 H0.out.row hu).mono ?_
  rintro e w1 ⟨b1, hif⟩
  rw [if_neg (by rw [HN.out]; exact h0)] at hif
  subst hif
  have B1 := Lib.hid (B0.out.trans (b1.mono hs0))
  clear b1
  by_cases hb : 253 < len
  · have d1 : decide (253 < (len : Int)) = true := by simp; omega
    go_wp2_with fail
    go_ret
    exact ⟨rfl, B1.out⟩
  · have d1 : decide (253 < (len : Int)) = false := by simp; omega
    go_wp2_with fail
    go_ret
    exact ⟨rfl, B1.out⟩

theorem spoilt_all (u : Int) (hu : (Lit.int .u8 u).wf = true) (a : Option Addr) (len cap : Nat) (P : List Nat) (at' : Int) (ha : (Lit.int .u16 at').wf = true) (ct : Bool) (w : World) (h : ArgB w a len cap P) :
    Calls Try.prog 7 #[.int .u8 u, .slice a len cap, .int .u16 at', .bool ct] w fun e w' => e = .returned (.bool true) ∧ Below w.heap.size w w' := by
  have hb := bd_u8 hu
  have hb2 := bd_u16 ha
  obtain ⟨u, rfl⟩ := Int.eq_ofNat_of_zero_le hb.1
  obtain ⟨t, rfl⟩ := Int.eq_ofNat_of_zero_le hb2.1
  by_cases h0 : 0 < len ∧ len ≤ 253
  · cases ct with
    | true => exact spoilt_cut u (by omega) a len cap P t w h h0.1 h0.2 (by omega)
    | false =>
      obtain ⟨q, j, hj, hm⟩ : ∃ q j, j < 8 ∧ t % (8 * (len + 3)) = 8 * q + j := ⟨t % (8 * (len + 3)) / 8, t % (8 * (len + 3)) % 8, Nat.mod_lt _ (by omega), by omega⟩
      have : j = 0 ∨ j = 1 ∨ j = 2 ∨ j = 3 ∨ j = 4 ∨ j = 5 ∨ j = 6 ∨ j = 7 := by omega
      rcases this with rfl | rfl | rfl | rfl | rfl | rfl | rfl | rfl
      · exact bit0 u (by omega) a len cap P t q w h h0.1 h0.2 (by omega) hm
      · exact bit1 u (by omega) a len cap P t q w h h0.1 h0.2 (by omega) hm
      · exact bit2 u (by omega) a len cap P t q w h h0.1 h0.2 (by omega) hm
      · exact bit3 u (by omega) a len cap P t q w h h0.1 h0.2 (by omega) hm
      · exact bit4 u (by omega) a len cap P t q w h h0.1 h0.2 (by omega) hm
      · exact bit5 u (by omega) a len cap P t q w h h0.1 h0.2 (by omega) hm
      · exact bit6 u (by omega) a len cap P t q w h h0.1 h0.2 (by omega) hm
      · exact bit7 u (by omega) a len cap P t q w h h0.1 h0.2 (by omega) hm
  · exact spoilt_none u (by omega) a len cap P t ct w h h0
end Go.Proofs.Ytdlcfnpnfdlahaa
