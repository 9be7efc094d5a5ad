/- The document's Put; the walk of RtuTells. -/
import Derived.Test.YtdlcfnpnfdlahaaRg
import Derived.Deep.RegionHeld
namespace Go.Proofs.Ytdlcfnpnfdlahaa
set_option linter.unusedVariables false
open Go.ChangeShapes Go.WideShapes Go.ChangeAt Go.RowKit

/-- What Put gives, of whatever room. -/
def RPutQ (w : World) (u : Nat) (P : List Nat) (e : Ending) (w' : World) : Prop :=
  ∃ fa fc, e = .returned (.slice fa (pL u P).length fc) ∧ Bys w' fa (pL u P).length (pL u P) ∧ Below w.heap.size w w'

set_option maxRecDepth 100000 in
set_option maxHeartbeats 2000000 in
theorem rput_q (u : Nat) (a : Option Addr) (n cap : Nat) (P : List Nat) (w : World) (h : ArgB w a n cap P) (hu : u < 256) :
    Calls Try.prog 13 #[.int .u8 (u : Int), .slice a n cap] w (RPutQ w u P) := by
  have hn := h.row.ln
  have hl := h.row.le
  unfold maxLen at hl
  by_cases hc : 0 < n ∧ n ≤ 253
  · obtain ⟨h0, h1⟩ := hc
    have hpl : pL u P = sealN (u :: P) := by unfold pL; rw [if_pos (by omega)]
    have hfl : (pL u P).length = n + 3 := by rw [pL_len, if_pos (by omega), hn]
    have d1 : ((n : Int) == 0) = false := by simp; omega
    have d2 : decide (253 < (n : Int)) = false := by simp; omega
    unfold RPutQ
    rw [hfl, hpl]
    have H := Lib.hid h
    have HN := Lib.hid hn
    clear h hpl hfl hn
    go_enter Try.func13, Try.ntmps13
    go_wp2_with (at_builtin; refine wpList_append_bys rfl (.tmp 14) (.tmp 15) rfl w.heap.size _ ?hB (.slice (some ⟨w.heap.size, 0, none⟩) 1 1) 1 [u] rfl ?own a n cap P rfl ?hby ?nil ?le ?_)
    case hB => simp
    case own => exact own_of_block (L := [u]) (Nat.le_refl _) (by simp [maxLen]) (heap_alloc_new w _)
    case nil => exact fun e => (H.out.nil e).2
    case le => omega
    case hby => exact H.out.row.below ((Below.refl _ _).alloc (Nat.le_refl _) _)
    intro v2 w2 ho2 hg2 hn2 hk2
    have b2 : Below w.heap.size w w2 := ((Below.refl _ _).alloc (Nat.le_refl _) _).grown hg2 (by simp) (fun k hk => by simp [Value.ownBlock] at hk; omega)
    obtain ⟨g2, k2, rfl, ho2'⟩ := owns_cases ho2 (by omega)
    have A2 := Lib.hid (ho2'.arg (by simpa using by_cons hu H.out.row.by'))
    have B2 := Lib.hid b2
    have hs2 := b2.size
    clear ho2 hg2 hn2 hk2 b2 ho2'
    have hle : 1 + n ≤ 100000 := by omega
    go_wp2_with fail
    refine (rseal_any _ (1 + n) k2 _ _ A2.out.q.row A2.out.q.lt A2.out.nil hle).mono ?_
    rintro e w3 ⟨g3, k3, rfl, hr3, b3⟩
    have hLl : (u :: P).length = 1 + n := by simp [HN.out]; omega
    have hby : Bys w3 (some ⟨g3, 0, none⟩) (1 + n + 2) (sealN (u :: P)) := by
      refine row_bys ?_ (by rw [sealN_len, hLl]) (sealN_by (by_cons hu H.out.row.by'))
      have e1 : sealL (fn (u :: P)) (1 + n) = sealN (u :: P) := by rw [← hLl]; exact sealN_eq _
      have h2 := hr3
      unfold sF at h2
      have e2 : sealL (fun i => (([] : List Nat) ++ [u] ++ P).getD i 0) (1 + n) = sealN (u :: P) := e1
      first
        | (rw [← e1]; exact h2)
        | (simp only [List.nil_append, List.singleton_append] at h2; rw [← e1]; exact h2)
    have HBY := Lib.hid hby
    have HB := Lib.hid (B2.out.trans (b3.mono hs2))
    clear hr3 b3 hby hLl
    rw [show 1 + n + 2 = n + 3 by omega] at HBY ⊢
    go_wp2_with fail
    go_ret
    exact ⟨_, _, rfl, HBY.out, HB.out⟩
  · have hpl : pL u P = [] := by unfold pL; rw [if_neg (by omega)]
    unfold RPutQ
    rw [hpl]
    clear hpl h hn
    by_cases h0 : n = 0
    · subst h0
      go_enter Try.func13, Try.ntmps13
      go_wp2_with fail
      go_ret
      exact ⟨none, 0, rfl, Bys.nil _ _, Below.refl _ _⟩
    · have d1 : ((n : Int) == 0) = false := by simp; omega
      have d2 : decide (253 < (n : Int)) = true := by simp; omega
      go_enter Try.func13, Try.ntmps13
      go_wp2_with fail
      go_ret
      exact ⟨none, 0, rfl, Bys.nil _ _, Below.refl _ _⟩

def gU (L : List Nat) : Nat := match getR L with | .err _ => 0 | .ok u _ => u
def gP (L : List Nat) : List Nat := match getR L with | .err _ => [] | .ok _ P => P
def gC (L : List Nat) : Nat := match getR L with | .err c => c | .ok _ _ => 0
def GetU (w : World) (L : List Nat) (e : Ending) (w' : World) : Prop :=
  ∃ xa xl xc, e = .returned (.tuple #[.int .u8 (gU L : Nat), .slice xa xl xc, .int .i64 (gC L : Nat)]) ∧ Bys w' xa xl (gP L) ∧ Below w.heap.size w w'
theorem getR_by' {L : List Nat} {u : Nat} {P : List Nat} (h : getR L = .ok u P) (hb : ∀ b ∈ L, b < 256) : u < 256 ∧ ∀ b ∈ P, b < 256 := by
  unfold getR at h
  (repeat' split at h) <;> cases h
  exact ⟨getD_lt hb 0, fun b hx => hb b (List.mem_of_mem_drop (List.mem_of_mem_take hx))⟩
theorem get_u (a : Option Addr) (len cap : Nat) (L : List Nat) (w : World) (h : ArgB w a len cap L) : Calls Try.prog 10 #[.slice a len cap] w (GetU w L) := by
  refine (get_any a len cap L w h).mono ?_
  rintro e w1 ⟨hb, hif⟩
  unfold GetU gU gP gC
  cases hr : getR L with
  | err c => rw [hr] at hif; exact ⟨_, _, _, hif, Bys.nil _ _, hb⟩
  | ok u P => rw [hr] at hif; obtain ⟨g, k, he, ho⟩ := hif; exact ⟨_, _, _, he, ho.bys (getR_by' hr h.row.by').2, hb⟩
theorem rget_u (a : Option Addr) (len cap : Nat) (L : List Nat) (w : World) (h : ArgB w a len cap L) : Calls Try.prog 11 #[.slice a len cap] w (GetU w L) := by
  refine (rget_any a len cap L w h).mono ?_
  rintro e w1 ⟨hb, hif⟩
  unfold GetU gU gP gC
  cases hr : getR L with
  | err c => rw [hr] at hif; exact ⟨_, _, _, hif, Bys.nil _ _, hb⟩
  | ok u P => rw [hr] at hif; obtain ⟨g, k, he, ho⟩ := hif; exact ⟨_, _, _, he, ho.1, hb⟩

set_option maxRecDepth 100000 in
set_option maxHeartbeats 8000000 in
theorem tells_walk (u : Nat) (hu : u < 256) (a : Option Addr) (len cap : Nat) (L : List Nat) (w : World) (h : ArgB w a len cap L) (hlen : len ≤ 20000) :
    Calls Try.prog 3 #[.int .u8 (u : Int), .slice a len cap] w fun e w' => e = .returned (.bool true) ∧ Below w.heap.size w w' := by
  have hd : decide (20000 < (len : Int)) = false := by simp; omega
  have H := Lib.hid h
  clear h
  go_enter Try.func3, Try.ntmps3
  go_wp2_with fail
  refine (head_any w).mono ?_
  rintro e w0 ⟨rfl, b0⟩
  have H0 := Lib.hid (H.out.below b0)
  have B0 := Lib.hid b0
  clear b0 H
  go_wp2_with fail
  refine (get_u a len cap L _ H0.out).mono ?_
  rintro e w1 ⟨xa, xl, xc, rfl, hx1, q1⟩
  have H1 := Lib.hid (H0.out.below q1)
  have B1 := Lib.hid (B0.out.trans (q1.mono B0.out.size))
  have HX1 := Lib.hid hx1
  clear q1 H0 B0 hx1
  go_wp2_with fail
  refine (rget_u a len cap L _ H1.out).mono ?_
  rintro e w2 ⟨ya, yl, yc, rfl, hy2, q2⟩
  have H2 := Lib.hid (H1.out.below q2)
  have B2 := Lib.hid (B1.out.trans (q2.mono B1.out.size))
  have HX2 := Lib.hid (HX1.out.below q2)
  have HY2 := Lib.hid hy2
  have hs2 := B2.out.size
  clear q2 H1 B1 HX1 hy2
  have hcx : ∀ W, Below w2.heap.size w2 W → (convert 22 9 (.slice xa xl xc)).run Try.prog W = .ok (.string (strN (gP L))) W := fun W hW => conv_bys (HX2.out.below hW)
  have hcy : ∀ W, Below w2.heap.size w2 W → (convert 22 9 (.slice ya yl yc)).run Try.prog W = .ok (.string (strN (gP L))) W := fun W hW => conv_bys (HY2.out.below hW)
  generalize strN (gP L) = SX at hcx hcy
  have HCX := Lib.hid hcx
  have HCY := Lib.hid hcy
  obtain ⟨SS, hSS⟩ : ∃ SS, SS = strN (pL u L) := ⟨_, rfl⟩
  have HSS := Lib.hid hSS
  clear hcx hcy hSS HX2 HY2
  generalize gU L = gu
  generalize gC L = gc
  have k1 := fun w a len cap h => put_q u a len cap L w h hu
  have k2 := fun w a len cap h => rput_q u a len cap L w h hu
  unfold PutQ at k1
  unfold RPutQ at k2
  have K1 := Lib.hid k1
  have K2 := Lib.hid k2
  clear k1 k2
  generalize hpl : pL u L = F at *
  generalize hfl : F.length = fl at *
  clear hpl hfl
  go_wp2_with fail
  have hdrew : Below w2.heap.size w2 w2.drew := (Below.refl _ _).drew
  have HDR := Lib.hid hdrew
  clear hdrew
  have kx0 := HCX.out w2.drew HDR.out
  have ky0 := HCY.out w2.drew HDR.out
  go_region_held (fun w' => (convert 22 9 (.slice xa xl xc)).run Try.prog w' = .ok (.string SX) w' ∧ (convert 22 9 (.slice ya yl yc)).run Try.prog w' = .ok (.string SX) w') (first | exact ⟨kx0, ky0⟩ | exact ⟨kx4, ky4⟩ | exact ⟨kx6, ky6⟩ | go_keep) (first
    | (go_at_call 12; refine (K1.out _ a len cap (H2.out.below HDR.out).row).mono ?_; rintro e w4 ⟨pa, pc, rfl, pf, _, q4⟩; have QQ4 := Lib.hid (HDR.out.trans (q4.mono HDR.out.size)); have kx4 := HCX.out w4 QQ4.out; have ky4 := HCY.out w4 QQ4.out; have PF := Lib.hid pf; have hz4 := conv_bys (cap := pc) pf.row; rw [← HSS.out] at hz4; clear q4 pf)
    | (go_at_call 13; refine (K2.out _ a len cap (H2.out.below QQ4.out)).mono ?_; rintro e w6 ⟨ra, rc, rfl, rf, q6⟩; have QQ6 := Lib.hid (QQ4.out.trans (q6.mono QQ4.out.size)); have kx6 := HCX.out w6 QQ6.out; have ky6 := HCY.out w6 QQ6.out; have hz6 := conv_bys (cap := rc) rf; rw [← HSS.out] at hz6; have hz5 := conv_bys (cap := pc) (PF.out.row.below q6); rw [← HSS.out] at hz5; clear rf q6))
  all_goals
    go_wp2_with fail
    go_ret
    exact ⟨rfl, B2.out.trans (QQ6.out.mono hs2)⟩

theorem tells_big (u : Int) (a : Option Addr) (len cap : Nat) (w : World) (hm : len ≤ maxLen) (hlen : 20000 < len) :
    Calls Try.prog 3 #[.int .u8 u, .slice a len cap] w fun e w' => e = .returned (.bool true) ∧ Below w.heap.size w w' := by
  unfold maxLen at hm
  have hd : decide (20000 < (len : Int)) = true := by simp; omega
  go_enter Try.func3, Try.ntmps3
  go_wp2_with fail
  refine (head_any w).mono ?_
  rintro e w0 ⟨rfl, b0⟩
  go_wp2_with fail
  go_ret
  exact ⟨rfl, b0⟩
theorem tells_all (u : Int) (hu : (Lit.int .u8 u).wf = true) (a : Option Addr) (len cap : Nat) (L : List Nat) (w : World) (h : ArgB w a len cap L) :
    Calls Try.prog 3 #[.int .u8 u, .slice a len cap] w fun e w' => e = .returned (.bool true) ∧ Below w.heap.size w w' := by
  by_cases hl : 20000 < len
  · exact tells_big u a len cap w h.row.le hl
  · have hb := bd_u8 hu
    obtain ⟨n, rfl⟩ := Int.eq_ofNat_of_zero_le hb.1
    exact tells_walk n (by omega) a len cap L w h (by omega)
end Go.Proofs.Ytdlcfnpnfdlahaa
