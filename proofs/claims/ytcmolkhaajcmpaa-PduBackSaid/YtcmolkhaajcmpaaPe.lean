/- PduBack. -/
import Derived.Test.YtcmolkhaajcmpaaPd
namespace Go.Proofs.Ytcmolkhaajcmpaa
set_option linter.unusedVariables false
set_option linter.unusedSimpArgs false
open Go.ChangeShapes Go.WideShapes Go.ChangeAt Go.RowKit

theorem getQ_ok {L : List Nat} {w : World} {vs : Option Addr} {vn vc : Nat} (h : ArgW w vs vn vc (getQ L).V) (hb : ∀ b ∈ L, b < 256) : (wsl (getQ L) vs vn vc).ok w := by
  by_cases hc : getC L = 0
  · have hq : getQ L = dq (fo ((L.getD 0 0 : Nat) : Int)) L := by unfold getQ; rw [if_pos hc]
    have hl := getN_lt (fo ((L.getD 0 0 : Nat) : Int)) L hb
    have h0 := getD_lt hb 0
    refine ⟨h, ?_, ?_, ?_, ?_⟩
    · rw [hq]; exact wfk (by show (0 : Int) ≤ ((L.getD 0 0 : Nat) : Int); omega) (by show ((L.getD 0 0 : Nat) : Int) ≤ 100000; omega)
    · rw [hq]; exact wfk (by show (0 : Int) ≤ ((getN _ L).ad : Int); omega) (by show ((getN _ L).ad : Int) ≤ 100000; omega)
    · rw [hq]; exact wfk (by show (0 : Int) ≤ ((getN _ L).q : Int); omega) (by show ((getN _ L).q : Int) ≤ 100000; omega)
    · rw [hq]; exact wfk (by show (0 : Int) ≤ ((getN _ L).to : Int); omega) (by show ((getN _ L).to : Int) ≤ 100000; omega)
  · refine ⟨h, ?_, ?_, ?_, ?_⟩ <;> rw [getq_z hc] <;> (show (Lit.int .i64 0).wf = true) <;> decide
theorem sameR_wsl (g r : Rq) (vs : Option Addr) (vn vc : Nat) : sameR (wsl g vs vn vc) r = sameR g r := rfl
def BackP (w : World) (e : Ending) (w' : World) : Prop := e = .returned (.bool true) ∧ Below w.heap.size w w'
set_option maxRecDepth 100000 in
set_option maxHeartbeats 8000000 in
theorem back_any (r : Rq) (b : Option Addr) (m d : Nat) (LB : List Nat) (w : World) (hr : r.ok w) (hB : ArgB w b m d LB) : Calls Try.prog 3 #[rv r, .slice b m d] w (BackP w) := by
  obtain ⟨P, hP⟩ : ∃ P, P = (BackP w : Ending → World → Prop) := ⟨_, rfl⟩
  rw [← hP]
  have HP := Lib.hid hP
  have hvl := hr.arg.row.ln
  have hle := hr.arg.row.le
  have hle2 := hB.row.le
  have hbl := hB.row.ln
  unfold maxLen at hle hle2
  have HR := Lib.hid hr
  have HBB := Lib.hid hB
  clear hP hr hB
  obtain ⟨fc, ad, q, vs, vn, vc, V, rto⟩ := r
  simp only [rv]
  simp only at hvl hle
  have bw : Below w.heap.size w (w.alloc (.cells #[.int .i64 fc, .int .i64 ad, .int .i64 q, .slice vs vn vc, .int .i64 rto] 24 (0, 0))) := (Below.refl _ _).alloc (Nat.le_refl _) _
  have bk := heap_alloc_new w (.cells #[.int .i64 fc, .int .i64 ad, .int .i64 q, .slice vs vn vc, .int .i64 rto] 24 (0, 0))
  have BW := Lib.hid bw
  have BK := Lib.hid bk
  clear bw bk
  go_enter Try.func3, Try.ntmps3
  go_wp2_with fail
  refine (head_any _).mono ?_
  rintro e w1 ⟨rfl, z1⟩
  obtain ⟨c0, c1, c2, c3, c4⟩ := cells5 (low_of z1 BK.out)
  have Z1 := Lib.hid (BW.out.trans (z1.mono BW.out.size))
  have PA := Lib.hid (put_any ⟨fc, ad, q, vs, vn, vc, V, rto⟩ w1 (HR.out.below Z1.out))
  simp only [rv] at PA
  have K1 := Lib.hid (low_of z1 BK.out)
  clear z1
  by_cases x1 : 3000 < vn
  · have e1 : decide ((3000 : Int) < (vn : Int)) = true := by simp; omega
    go_wp2_with fail
    rw [HP.out]
    exact ⟨rfl, Z1.out⟩
  have e1 : decide ((3000 : Int) < (vn : Int)) = false := by simp; omega
  by_cases x2 : 3000 < m
  · have e2 : decide ((3000 : Int) < (m : Int)) = true := by simp; omega
    go_wp2_with fail
    rw [HP.out]
    exact ⟨rfl, Z1.out⟩
  have e2 : decide ((3000 : Int) < (m : Int)) = false := by simp; omega
  have hm3 : m ≤ 3000 := by omega
  have HBL := Lib.hid hbl
  have HVL := Lib.hid hvl
  clear hbl hvl
  go_wp2_with fail
  refine PA.out.mono ?_
  rintro e w2 ⟨v, rfl, ho, z2⟩
  have K2 := Lib.hid (low_of z2 K1.out)
  obtain ⟨d0, d1, d2, d3, d4⟩ := cells5 K2.out
  have Z2 := Lib.hid (Z1.out.trans (z2.mono Z1.out.size))
  have RA := Lib.hid (right_any ⟨fc, ad, q, vs, vn, vc, V, rto⟩ w2 (HR.out.below Z2.out))
  simp only [rv] at RA
  clear z2 c0 c1 c2 c3 c4 PA
  cases hrr : rightR ⟨fc, ad, q, vs, vn, vc, V, rto⟩ with
  | false =>
    rw [hrr] at ho RA
    obtain ⟨pa, pc, rfl, _, _⟩ := OwnV.argB ho (by simp)
    simp only [List.length_nil]
    clear ho hrr
    go_wp2_with fail
    refine RA.out.mono ?_
    rintro e w3 ⟨rfl, z3⟩
    have Z3 := Lib.hid (Z2.out.trans (z3.mono Z2.out.size))
    clear z3 RA d0 d1 d2 d3 d4
    have GB := Lib.hid (get_any b m d LB w3 (HBB.out.below Z3.out) (by omega))
    go_wp2_with fail
    refine GB.out.mono ?_
    rintro e wA ⟨vsA, vnA, vcA, rfl, hAA, zA⟩
    have ZA := Lib.hid (Z3.out.trans (zA.mono Z3.out.size))
    have OKA := Lib.hid (getQ_ok hAA HBB.out.row.by')
    have hcl := getC_le LB
    by_cases hc0 : getC LB = 0
    · have hgt := got hc0
      rw [hc0]
      have HGT := Lib.hid hgt
      generalize getQ LB = gA at *
      obtain ⟨fcA, adA, qA, _, _, _, VA, toA⟩ := gA
      simp only [wsl, rv] at OKA ⊢
      have alA := (Below.refl wA.heap.size wA).alloc (Nat.le_refl _) (.cells #[.int .i64 fcA, .int .i64 adA, .int .i64 qA, .slice vsA vnA vcA, .int .i64 toA] 24 (0, 0))
      have kA := heap_alloc_new wA (.cells #[.int .i64 fcA, .int .i64 adA, .int .i64 qA, .slice vsA vnA vcA, .int .i64 toA] 24 (0, 0))
      have BA := Lib.hid alA
      have KA := Lib.hid kA
      have ZB := Lib.hid (ZA.out.trans (alA.mono ZA.out.size))
      clear hgt hAA zA hcl kA hc0
      have hcv : ∀ w', Below wA.heap.size wA w' → (convert 25 9 (.slice b m d)).run Try.prog w' = .ok (.string (strN LB)) w' := fun w' h => conv_bys (HBB.out.below (ZA.out.trans (h.mono ZA.out.size))).row
      obtain ⟨SX, hsx⟩ : ∃ s, s = strN LB := ⟨_, rfl⟩
      rw [← hsx] at hcv
      obtain ⟨g, hg⟩ : ∃ g, g = wA.heap.size := ⟨_, rfl⟩
      obtain ⟨W, hW⟩ : ∃ W, W = wA.alloc (.cells #[.int .i64 fcA, .int .i64 adA, .int .i64 qA, .slice vsA vnA vcA, .int .i64 toA] 24 (0, 0)) := ⟨_, rfl⟩
      have KS : Hid (∀ w', Gd W w' → w'.cell? ⟨g, 0, none⟩ = some (.int .i64 fcA) ∧ w'.cell? ⟨g, 1, none⟩ = some (.int .i64 adA) ∧ w'.cell? ⟨g, 2, none⟩ = some (.int .i64 qA) ∧ w'.cell? ⟨g, 3, none⟩ = some (.slice vsA vnA vcA) ∧ w'.cell? ⟨g, 4, none⟩ = some (.int .i64 toA) ∧ (convert 25 9 (.slice b m d)).run Try.prog w' = .ok (.string SX) w') := Lib.hid (by
        intro w' h
        rw [hW] at h
        have h' : Below _ _ w' := h
        obtain ⟨h0, h1, h2, h3, h4⟩ := cells5 (low_of h' KA.out)
        rw [hg]
        exact ⟨h0, h1, h2, h3, h4, hcv w' (alA.trans (h'.mono alA.size))⟩)
      have RA2 : Hid (∀ w', Gd W w' → Calls Try.prog 10 #[.agg #[.int .i64 fcA, .int .i64 adA, .int .i64 qA, .slice vsA vnA vcA, .int .i64 toA]] w' (fun e w5 => e = .returned (.bool true) ∧ Below w'.heap.size w' w5)) := Lib.hid (by
        intro w' h
        have := right_any ⟨fcA, adA, qA, vsA, vnA, vcA, VA, toA⟩ w' ((OKA.out.below alA).below (by rw [hW] at h; exact h))
        rw [show rightR ⟨fcA, adA, qA, vsA, vnA, vcA, VA, toA⟩ = true from HGT.out.1] at this
        exact this)
      have PA2 : Hid (∀ w', Gd W w' → Calls Try.prog 9 #[.agg #[.int .i64 fcA, .int .i64 adA, .int .i64 qA, .slice vsA vnA vcA, .int .i64 toA]] w' (fun e w5 => ∃ a c, e = .returned (.slice a m c) ∧ (convert 25 9 (.slice a m c)).run Try.prog w5 = .ok (.string SX) w5 ∧ Below w'.heap.size w' w5)) := Lib.hid (by
        intro w' h
        refine (put_any ⟨fcA, adA, qA, vsA, vnA, vcA, VA, toA⟩ w' ((OKA.out.below alA).below (by rw [hW] at h; exact h))).mono ?_
        rintro e w5 ⟨v, rfl, ho, z5⟩
        rw [show rightR ⟨fcA, adA, qA, vsA, vnA, vcA, VA, toA⟩ = true from HGT.out.1, if_pos rfl, show putR (fo fcA) ⟨fcA, adA, qA, vsA, vnA, vcA, VA, toA⟩ = LB from HGT.out.2] at ho
        obtain ⟨a, c, rfl, hA, _⟩ := OwnV.argB ho HBB.out.row.by'
        rw [HBL.out] at hA
        refine ⟨a, c, by rw [HBL.out], ?_, z5⟩
        rw [hsx]
        exact conv_bys hA.row)
      have ZW : Hid (Below w.heap.size w W) := Lib.hid (by rw [hW]; exact ZB.out)
      have HWW := Lib.hid hW
      have g0 : Gd W W.drew := (Below.refl _ _).drew
      have h0 := KS.out _ g0
      have HG := Lib.hid hg
      clear hW hg alA hcv hsx
      go_wp2_with fail
      rw [← HWW.out, ← HG.out]
      go_region_held (fun w' => w'.cell? ⟨g, 0, none⟩ = some (.int .i64 fcA) ∧ w'.cell? ⟨g, 1, none⟩ = some (.int .i64 adA) ∧ w'.cell? ⟨g, 2, none⟩ = some (.int .i64 qA) ∧ w'.cell? ⟨g, 3, none⟩ = some (.slice vsA vnA vcA) ∧ w'.cell? ⟨g, 4, none⟩ = some (.int .i64 toA) ∧ (convert 25 9 (.slice b m d)).run Try.prog w' = .ok (.string SX) w') (first | exact h0 | exact s5 | exact s6 | go_keep) (first
        | (go_at_call 10; refine (RA2.out _ g0).mono ?_; rintro e w5 ⟨rfl, z5⟩; have q5 : Gd W w5 := Gd.step g0 z5; have s5 := KS.out w5 q5; clear z5)
        | (go_at_call 9; refine (PA2.out _ q5).mono ?_; rintro e w6 ⟨a6, c6, rfl, cv6, z6⟩; have q6 : Gd W w6 := Gd.step q5 z6; have s6 := KS.out w6 q6; clear z6))
      all_goals
        go_wp2_with fail
        rw [HP.out]
        exact ⟨rfl, ZW.out.trans (Below.mono q6 ZW.out.size)⟩
    · rw [getq_z hc0] at OKA ⊢
      obtain ⟨c, hc⟩ : ∃ c, c = getC LB := ⟨_, rfl⟩
      rw [← hc] at hc0 hcl ⊢
      simp only [wsl, rv, zq] at OKA ⊢
      have alA := (Below.refl wA.heap.size wA).alloc (Nat.le_refl _) (.cells #[.int .i64 0, .int .i64 0, .int .i64 0, .slice vsA vnA vcA, .int .i64 0] 24 (0, 0))
      obtain ⟨h0, h1, h2, h3, h4⟩ := cells5 (heap_alloc_new wA (.cells #[.int .i64 0, .int .i64 0, .int .i64 0, .slice vsA vnA vcA, .int .i64 0] 24 (0, 0)))
      have SZ := Lib.hid (same_any ⟨0, 0, 0, vsA, vnA, vcA, [], 0⟩ zq _ (OKA.out.below alA) (zok _))
      have HSZ : Hid (sameR ⟨0, 0, 0, vsA, vnA, vcA, [], 0⟩ ⟨0, 0, 0, none, 0, 0, [], 0⟩ = true) := Lib.hid rfl
      simp only [rv, zq] at SZ
      have ZB := Lib.hid (ZA.out.trans (alA.mono ZA.out.size))
      have t1 : ((c : Int) != 0) = true := by simp; omega
      have t2 : decide ((1 : Int) ≤ (c : Int)) = true := by simp; omega
      have t3 : decide ((c : Int) ≤ (3 : Int)) = true := by simp; omega
      clear hc hAA zA alA
      go_wp2_with fail
      refine SZ.out.mono ?_
      rintro e wC ⟨rfl, zC⟩
      rw [HSZ.out]
      have ZC := Lib.hid (ZB.out.trans (zC.mono ZB.out.size))
      clear zC h0 h1 h2 h3 h4 SZ
      go_wp2_with fail
      rw [HP.out]
      exact ⟨rfl, ZC.out⟩
  | true =>
    have hrt := rt_of hrr
    rw [hrr, if_pos rfl] at ho
    rw [hrr] at RA
    simp only at ho hrt
    generalize hL : putR (fo fc) ⟨fc, ad, q, vs, vn, vc, V, rto⟩ = L at ho hrt
    have hby : ∀ b ∈ L, b < 256 := by rw [← hL]; exact put_by hrt.k HR.out hrt.hh (fc_of hrt.k).1 (fc_of hrt.k).2.1
    have hlen := hrt.len
    have hne := hrt.head.1
    have hbk := hrt.back HR.out.arg.row.by'
    have BKK := Lib.hid hbk
    obtain ⟨pa, pc, rfl, hA, hge⟩ := OwnV.argB ho hby
    obtain ⟨n, hn⟩ : ∃ n, n = L.length := ⟨_, rfl⟩
    rw [← hn] at hA ⊢
    have hn0 : 0 < n := by rw [hn]; exact List.length_pos_iff.2 hne
    have hn3 : n ≤ 253 := by omega
    have HA := Lib.hid hA
    have HN := Lib.hid hn
    have HBY := Lib.hid hby
    have f1 : decide ((0 : Int) < (n : Int)) = true := by simp; omega
    have f2 : decide ((253 : Int) < (n : Int)) = false := by simp; omega
    clear hL ho hrt hlen hne hA hge hn hby hrr hbk
    go_wp2_with fail
    refine RA.out.mono ?_
    rintro e w3 ⟨rfl, z3⟩
    have Z3 := Lib.hid (Z2.out.trans (z3.mono Z2.out.size))
    have K3 := Lib.hid (low_of z3 K2.out)
    have GP := Lib.hid (get_any pa n pc L w3 (HA.out.below z3) (by omega))
    clear z3 RA d0 d1 d2 d3 d4
    go_wp2_with fail
    refine GP.out.mono ?_
    rintro e w4 ⟨vs4, vn4, vc4, rfl, hA4, z4⟩
    rw [BKK.out.1]
    have OK4 := Lib.hid (getQ_ok hA4 HBY.out)
    have hs4 : sameR (wsl (getQ L) vs4 vn4 vc4) ⟨fc, ad, q, vs, vn, vc, V, rto⟩ = true := BKK.out.2
    generalize getQ L = g4 at *
    obtain ⟨fc4, ad4, q4, _, _, _, V4, to4⟩ := g4
    simp only [wsl, rv] at OK4 hs4 ⊢
    have Z4 := Lib.hid (Z3.out.trans (z4.mono Z3.out.size))
    have K4 := Lib.hid (low_of z4 K3.out)
    have al4 := (Below.refl w4.heap.size w4).alloc (Nat.le_refl _) (.cells #[.int .i64 fc4, .int .i64 ad4, .int .i64 q4, .slice vs4 vn4 vc4, .int .i64 to4] 24 (0, 0))
    have k4 := low_of al4 K4.out
    obtain ⟨d0, d1, d2, d3, d4⟩ := cells5 k4
    obtain ⟨h0, h1, h2, h3, h4⟩ := cells5 (heap_alloc_new w4 (.cells #[.int .i64 fc4, .int .i64 ad4, .int .i64 q4, .slice vs4 vn4 vc4, .int .i64 to4] 24 (0, 0)))
    have SA := Lib.hid (same_any ⟨fc4, ad4, q4, vs4, vn4, vc4, V4, to4⟩ ⟨fc, ad, q, vs, vn, vc, V, rto⟩ _ (OK4.out.below al4) (HR.out.below (Z4.out.trans (al4.mono Z4.out.size))))
    have HS4 := Lib.hid hs4
    simp only [rv] at SA
    have Z4' := Lib.hid (Z4.out.trans (al4.mono Z4.out.size))
    clear hs4 hA4 z4 al4 k4
    go_wp2_with fail
    refine SA.out.mono ?_
    rintro e w5 ⟨rfl, z5⟩
    rw [HS4.out]
    have Z5 := Lib.hid (Z4'.out.trans (z5.mono Z4'.out.size))
    clear z5 SA d0 d1 d2 d3 d4 h0 h1 h2 h3 h4
    have GB := Lib.hid (get_any b m d LB w5 (HBB.out.below Z5.out) (by omega))
    go_wp2_with fail
    refine GB.out.mono ?_
    rintro e wA ⟨vsA, vnA, vcA, rfl, hAA, zA⟩
    have ZA := Lib.hid (Z5.out.trans (zA.mono Z5.out.size))
    have OKA := Lib.hid (getQ_ok hAA HBB.out.row.by')
    have hcl := getC_le LB
    by_cases hc0 : getC LB = 0
    · have hgt := got hc0
      rw [hc0]
      have HGT := Lib.hid hgt
      generalize getQ LB = gA at *
      obtain ⟨fcA, adA, qA, _, _, _, VA, toA⟩ := gA
      simp only [wsl, rv] at OKA ⊢
      have alA := (Below.refl wA.heap.size wA).alloc (Nat.le_refl _) (.cells #[.int .i64 fcA, .int .i64 adA, .int .i64 qA, .slice vsA vnA vcA, .int .i64 toA] 24 (0, 0))
      have kA := heap_alloc_new wA (.cells #[.int .i64 fcA, .int .i64 adA, .int .i64 qA, .slice vsA vnA vcA, .int .i64 toA] 24 (0, 0))
      have BA := Lib.hid alA
      have KA := Lib.hid kA
      have ZB := Lib.hid (ZA.out.trans (alA.mono ZA.out.size))
      clear hgt hAA zA hcl kA hc0
      have hcv : ∀ w', Below wA.heap.size wA w' → (convert 25 9 (.slice b m d)).run Try.prog w' = .ok (.string (strN LB)) w' := fun w' h => conv_bys (HBB.out.below (ZA.out.trans (h.mono ZA.out.size))).row
      obtain ⟨SX, hsx⟩ : ∃ s, s = strN LB := ⟨_, rfl⟩
      rw [← hsx] at hcv
      obtain ⟨g, hg⟩ : ∃ g, g = wA.heap.size := ⟨_, rfl⟩
      obtain ⟨W, hW⟩ : ∃ W, W = wA.alloc (.cells #[.int .i64 fcA, .int .i64 adA, .int .i64 qA, .slice vsA vnA vcA, .int .i64 toA] 24 (0, 0)) := ⟨_, rfl⟩
      have KS : Hid (∀ w', Gd W w' → w'.cell? ⟨g, 0, none⟩ = some (.int .i64 fcA) ∧ w'.cell? ⟨g, 1, none⟩ = some (.int .i64 adA) ∧ w'.cell? ⟨g, 2, none⟩ = some (.int .i64 qA) ∧ w'.cell? ⟨g, 3, none⟩ = some (.slice vsA vnA vcA) ∧ w'.cell? ⟨g, 4, none⟩ = some (.int .i64 toA) ∧ (convert 25 9 (.slice b m d)).run Try.prog w' = .ok (.string SX) w') := Lib.hid (by
        intro w' h
        rw [hW] at h
        have h' : Below _ _ w' := h
        obtain ⟨h0, h1, h2, h3, h4⟩ := cells5 (low_of h' KA.out)
        rw [hg]
        exact ⟨h0, h1, h2, h3, h4, hcv w' (alA.trans (h'.mono alA.size))⟩)
      have RA2 : Hid (∀ w', Gd W w' → Calls Try.prog 10 #[.agg #[.int .i64 fcA, .int .i64 adA, .int .i64 qA, .slice vsA vnA vcA, .int .i64 toA]] w' (fun e w5 => e = .returned (.bool true) ∧ Below w'.heap.size w' w5)) := Lib.hid (by
        intro w' h
        have := right_any ⟨fcA, adA, qA, vsA, vnA, vcA, VA, toA⟩ w' ((OKA.out.below alA).below (by rw [hW] at h; exact h))
        rw [show rightR ⟨fcA, adA, qA, vsA, vnA, vcA, VA, toA⟩ = true from HGT.out.1] at this
        exact this)
      have PA2 : Hid (∀ w', Gd W w' → Calls Try.prog 9 #[.agg #[.int .i64 fcA, .int .i64 adA, .int .i64 qA, .slice vsA vnA vcA, .int .i64 toA]] w' (fun e w5 => ∃ a c, e = .returned (.slice a m c) ∧ (convert 25 9 (.slice a m c)).run Try.prog w5 = .ok (.string SX) w5 ∧ Below w'.heap.size w' w5)) := Lib.hid (by
        intro w' h
        refine (put_any ⟨fcA, adA, qA, vsA, vnA, vcA, VA, toA⟩ w' ((OKA.out.below alA).below (by rw [hW] at h; exact h))).mono ?_
        rintro e w5 ⟨v, rfl, ho, z5⟩
        rw [show rightR ⟨fcA, adA, qA, vsA, vnA, vcA, VA, toA⟩ = true from HGT.out.1, if_pos rfl, show putR (fo fcA) ⟨fcA, adA, qA, vsA, vnA, vcA, VA, toA⟩ = LB from HGT.out.2] at ho
        obtain ⟨a, c, rfl, hA, _⟩ := OwnV.argB ho HBB.out.row.by'
        rw [HBL.out] at hA
        refine ⟨a, c, by rw [HBL.out], ?_, z5⟩
        rw [hsx]
        exact conv_bys hA.row)
      have ZW : Hid (Below w.heap.size w W) := Lib.hid (by rw [hW]; exact ZB.out)
      have HWW := Lib.hid hW
      have g0 : Gd W W.drew := (Below.refl _ _).drew
      have h0 := KS.out _ g0
      have HG := Lib.hid hg
      clear hW hg alA hcv hsx
      go_wp2_with fail
      rw [← HWW.out, ← HG.out]
      go_region_held (fun w' => w'.cell? ⟨g, 0, none⟩ = some (.int .i64 fcA) ∧ w'.cell? ⟨g, 1, none⟩ = some (.int .i64 adA) ∧ w'.cell? ⟨g, 2, none⟩ = some (.int .i64 qA) ∧ w'.cell? ⟨g, 3, none⟩ = some (.slice vsA vnA vcA) ∧ w'.cell? ⟨g, 4, none⟩ = some (.int .i64 toA) ∧ (convert 25 9 (.slice b m d)).run Try.prog w' = .ok (.string SX) w') (first | exact h0 | exact s5 | exact s6 | go_keep) (first
        | (go_at_call 10; refine (RA2.out _ g0).mono ?_; rintro e w5 ⟨rfl, z5⟩; have q5 : Gd W w5 := Gd.step g0 z5; have s5 := KS.out w5 q5; clear z5)
        | (go_at_call 9; refine (PA2.out _ q5).mono ?_; rintro e w6 ⟨a6, c6, rfl, cv6, z6⟩; have q6 : Gd W w6 := Gd.step q5 z6; have s6 := KS.out w6 q6; clear z6))
      all_goals
        go_wp2_with fail
        rw [HP.out]
        exact ⟨rfl, ZW.out.trans (Below.mono q6 ZW.out.size)⟩
    · rw [getq_z hc0] at OKA ⊢
      obtain ⟨c, hc⟩ : ∃ c, c = getC LB := ⟨_, rfl⟩
      rw [← hc] at hc0 hcl ⊢
      simp only [wsl, rv, zq] at OKA ⊢
      have alA := (Below.refl wA.heap.size wA).alloc (Nat.le_refl _) (.cells #[.int .i64 0, .int .i64 0, .int .i64 0, .slice vsA vnA vcA, .int .i64 0] 24 (0, 0))
      obtain ⟨h0, h1, h2, h3, h4⟩ := cells5 (heap_alloc_new wA (.cells #[.int .i64 0, .int .i64 0, .int .i64 0, .slice vsA vnA vcA, .int .i64 0] 24 (0, 0)))
      have SZ := Lib.hid (same_any ⟨0, 0, 0, vsA, vnA, vcA, [], 0⟩ zq _ (OKA.out.below alA) (zok _))
      have HSZ : Hid (sameR ⟨0, 0, 0, vsA, vnA, vcA, [], 0⟩ ⟨0, 0, 0, none, 0, 0, [], 0⟩ = true) := Lib.hid rfl
      simp only [rv, zq] at SZ
      have ZB := Lib.hid (ZA.out.trans (alA.mono ZA.out.size))
      have t1 : ((c : Int) != 0) = true := by simp; omega
      have t2 : decide ((1 : Int) ≤ (c : Int)) = true := by simp; omega
      have t3 : decide ((c : Int) ≤ (3 : Int)) = true := by simp; omega
      clear hc hAA zA alA
      go_wp2_with fail
      refine SZ.out.mono ?_
      rintro e wC ⟨rfl, zC⟩
      rw [HSZ.out]
      have ZC := Lib.hid (ZB.out.trans (zC.mono ZB.out.size))
      clear zC h0 h1 h2 h3 h4 SZ
      go_wp2_with fail
      rw [HP.out]
      exact ⟨rfl, ZC.out⟩
end Go.Proofs.Ytcmolkhaajcmpaa
