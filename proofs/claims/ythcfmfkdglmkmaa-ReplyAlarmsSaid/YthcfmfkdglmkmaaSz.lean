/- ReplySizes. -/
import Derived.Test.YthcfmfkdglmkmaaYb
import Derived.Lib.SmallJoins
namespace Go.Proofs.Ythcfmfkdglmkmaa
set_option linter.unusedVariables false
set_option linter.unusedSimpArgs false
open Go.ChangeShapes Go.WideShapes Go.ChangeAt Go.RowKit

def nOf (r : Rq) : Nat := if rdF r = true then (if biF r = true then 2 + (r.q.toNat + 7) / 8 else 2 + 2 * r.q.toNat) else if r.fc = 22 then 7 else 5
theorem ok_right {r : Rq} {c : Int} {V : List Nat} (h : okR r c V = true) : rightR r = true ∧ mayB r.q (rdF r) (biF r) c V = true := by
  unfold okR at h
  simpa using h
theorem repN_zero {r : Rq} {V : List Nat} (h : okR r 0 V = true) : (repN r 0 V).length = nOf r ∧ (repN r 0 V).getD 0 0 = r.fc.toNat := by
  obtain ⟨hr, hm⟩ := ok_right h
  obtain ⟨hk, hf1, hf2, hq1, hq2⟩ := right_facts hr
  have hrt := rt_of hr
  have hd := hrt.head
  have hft := (fit_of hrt.hh).1
  unfold mayB at hm
  unfold repN nOf
  rw [if_neg (by simp)]
  by_cases hrd : rdF r = true
  · rw [if_pos hrd, if_pos hrd]
    rw [if_neg (by simp [hrd])] at hm
    simp at hm
    by_cases hbi : biF r = true
    · rw [if_pos hbi, if_pos hbi]
      have := bits_len V
      exact ⟨by simp only [List.length_cons]; omega, rfl⟩
    · rw [if_neg hbi, if_neg hbi]
      have := wb_len V
      exact ⟨by simp only [List.length_cons]; omega, rfl⟩
  · rw [if_neg hrd, if_neg hrd]
    have h5 := put5 hr (by simpa using hrd)
    have hhd : (putR (fo r.fc) r).getD 0 0 = r.fc.toNat := by have := hd.2; omega
    by_cases hq : 0 < r.q
    · rw [if_pos hq]
      have h22 : ¬ r.fc = 22 := by
        intro e
        have := hft.qle
        rw [e] at this
        have h0 : (fo 22).q = 0 := by decide
        omega
      rw [if_neg h22]
      refine ⟨by rw [List.length_take]; omega, ?_⟩
      rw [← hhd]
      match putR (fo r.fc) r, h5 with
      | x :: l, _ => rfl
    · rw [if_neg hq]
      refine ⟨?_, hhd⟩
      rw [hrt.len.1]
      have hz := hft.qge
      unfold rdF at hrd
      generalize putR (fo r.fc) r = L
      unfold lenF
      generalize fo r.fc = f at hk hrd hz
      unfold formOf at hk
      repeat' split at hk
      all_goals first | (cases hk; done) | (injection hk with hk; subst hk; simp at hrd hz ⊢; try omega)
theorem repN_code {r : Rq} {c : Int} {V : List Nat} (h : okR r c V = true) (hc : c ≠ 0) : repN r c V = [r.fc.toNat + 128, c.toNat] ∧ 1 ≤ c ∧ c ≤ 4 := by
  obtain ⟨hr, hm⟩ := ok_right h
  unfold mayB at hm
  rw [if_pos (.inl hc)] at hm
  simp [hc, isEx] at hm
  exact ⟨by unfold repN; rw [if_pos hc], by omega, by omega⟩
theorem ok_len {r : Rq} {c : Int} {V : List Nat} (h : okR r c V = true) : V.length ≤ 2000 := by
  obtain ⟨hr, hm⟩ := ok_right h
  have := right_facts hr
  unfold mayB at hm
  split at hm
  · simp at hm; rw [hm.1]; simp
  · simp at hm; omega
set_option maxRecDepth 100000 in
set_option maxHeartbeats 8000000 in
theorem sizes_any (r : Rq) (p : Rp) (w : World) (hr : r.ok w) (hp : p.ok w) : Calls Try.prog 6 #[rv r, rpv p] w (BoolB w true) := by
  obtain ⟨P, hP⟩ : ∃ P, P = (BoolB w true : Ending → World → Prop) := ⟨_, rfl⟩
  rw [← hP]
  have FIN : Hid (∀ W', Below w.heap.size w W' → P (.returned (.bool true)) W') := Lib.hid (fun W' h => by rw [hP]; exact ⟨rfl, h⟩)
  have HG := Lib.hid (fun W (h : Below w.heap.size w W) => great_any r p W (hr.below h) (hp.below h))
  have HPU := Lib.hid (fun W (h : Below w.heap.size w W) => putQ_any r p W (hr.below h) (hp.below h))
  have HRI := Lib.hid (fun W (h : Below w.heap.size w W) => rightA_any r p W (hr.below h) (hp.below h))
  have HBY : Hid (∀ b ∈ (if okR r p.code p.V = true then repN r p.code p.V else []), b < 256) := Lib.hid (by
    split
    · rename_i h
      exact repN_by hr (ok_right h).1 (ok_right h).2 hp.arg.row.by' (ok_len h)
    · intro b hb; simp at hb)
  have HZ := Lib.hid (fun (h : okR r p.code p.V = true) (e : p.code = 0) => by rw [e] at h; have := repN_zero h; rw [← e] at this; exact this)
  have HC := Lib.hid (fun (h : okR r p.code p.V = true) (e : p.code ≠ 0) => repN_code h e)
  have HRF := Lib.hid (fun (h : okR r p.code p.V = true) => right_facts (ok_right h).1)
  obtain ⟨RL, hRL⟩ : ∃ L, L = repN r p.code p.V := ⟨_, rfl⟩
  rw [← hRL] at HPU HBY HC HZ
  clear hRL hP hr hp
  obtain ⟨ok, hok⟩ : ∃ b, b = okR r p.code p.V := ⟨_, rfl⟩
  rw [← hok] at HPU HRI HBY HC HZ HRF
  clear hok
  obtain ⟨gb, hgb⟩ : ∃ b, b = greatB r.V p.V := ⟨_, rfl⟩
  rw [← hgb] at HG
  clear hgb
  have HN : Hid (nOf r = if rdF r = true then (if biF r = true then 2 + (r.q.toNat + 7) / 8 else 2 + 2 * r.q.toNat) else if r.fc = 22 then 7 else 5) := Lib.hid rfl
  have HRB : Hid (ok = true → rdF r = rd14 r.fc ∧ biF r = bi14 r.fc) := Lib.hid (fun h => by
    have h1 := reads14_fo (HRF.out h).1
    exact ⟨h1.1.symm, h1.2.symm⟩)
  have RD := Lib.hid (fun W => reads14_any r.fc W)
  generalize nOf r = nn at HZ HN
  obtain ⟨fc, ad, q, vs, vn, vc, V, rto⟩ := r
  obtain ⟨code, us, un, uc, U⟩ := p
  simp only [rv, rpv] at HG HPU HRI HZ HC HRF HN HRB RD ⊢
  obtain ⟨W, hW⟩ : ∃ W, W = (w.alloc (.cells #[.int .i64 fc, .int .i64 ad, .int .i64 q, .slice vs vn vc, .int .i64 rto] 24 (0, 0))).alloc (.cells #[.int .i64 code, .slice us un uc] 26 (0, 0)) := ⟨_, rfl⟩
  have k1 := alloc_bq w (.cells #[.int .i64 fc, .int .i64 ad, .int .i64 q, .slice vs vn vc, .int .i64 rto] 24 (0, 0))
  have k2 := alloc_bq (w.alloc (.cells #[.int .i64 fc, .int .i64 ad, .int .i64 q, .slice vs vn vc, .int .i64 rto] 24 (0, 0))) (.cells #[.int .i64 code, .slice us un uc] 26 (0, 0))
  have bw := k1.trans (k2.mono k1.size)
  have hx := low_of k2 (heap_alloc_new w (.cells #[.int .i64 fc, .int .i64 ad, .int .i64 q, .slice vs vn vc, .int .i64 rto] 24 (0, 0)))
  have hy := heap_alloc_new (w.alloc (.cells #[.int .i64 fc, .int .i64 ad, .int .i64 q, .slice vs vn vc, .int .i64 rto] 24 (0, 0))) (.cells #[.int .i64 code, .slice us un uc] 26 (0, 0))
  rw [World.size_alloc] at hy
  rw [← hW] at bw hx hy
  have HX := Lib.hid hx
  have HY := Lib.hid hy
  have BW := Lib.hid bw
  have HW := Lib.hid hW
  have HD := head_any W
  clear k1 k2 bw hx hy hW
  go_enter Try.func6, Try.ntmps6
  go_upto_region 1 with fail
  rw [← HW.out]
  go_wp2_with fail
  refine HD.mono ?_
  rintro e w1 ⟨rfl, z1⟩
  have B1 := Lib.hid (BW.out.trans (Below.mono z1 BW.out.size))
  have X1 := Lib.hid (low_of z1 HX.out)
  have Y1 := Lib.hid (low_of z1 HY.out)
  have G1 := HG.out w1 B1.out
  obtain ⟨c0, c1, c2, c3, c4⟩ := cells5 X1.out
  obtain ⟨y0, y1⟩ := cells2q Y1.out
  clear z1 HD
  go_wp2_with fail
  refine G1.mono ?_
  rintro e w2 ⟨rfl, z2⟩
  have B2 := Lib.hid (B1.out.trans (Below.mono z2 B1.out.size))
  have X2 := Lib.hid (low_of z2 X1.out)
  have Y2 := Lib.hid (low_of z2 Y1.out)
  clear z2 G1 c0 c1 c2 c3 c4 y0 y1
  cases gb with
  | true =>
    go_wp2_with fail
    exact FIN.out _ B2.out
  | false =>
    have P2 := HPU.out w2 B2.out
    obtain ⟨c0, c1, c2, c3, c4⟩ := cells5 X2.out
    obtain ⟨y0, y1⟩ := cells2q Y2.out
    go_wp2_with fail
    refine P2.mono ?_
    rintro e w3 ⟨v3, rfl, ho, z3⟩
    have B3 := Lib.hid (B2.out.trans (Below.mono z3 B2.out.size))
    have X3 := Lib.hid (low_of z3 X2.out)
    have Y3 := Lib.hid (low_of z3 Y2.out)
    obtain ⟨a3, d3, hv3, ab3, _⟩ := OwnV.argB ho HBY.out
    subst hv3
    have A3 := Lib.hid ab3.row
    clear z3 P2 c0 c1 c2 c3 c4 y0 y1 ho ab3
    obtain ⟨c0, c1, c2, c3, c4⟩ := cells5 X3.out
    obtain ⟨y0, y1⟩ := cells2q Y3.out
    cases ok with
    | false =>
      have R3 := HRI.out w3 B3.out
      simp only [Bool.false_eq_true, if_false, List.length_nil] at A3 ⊢
      go_wp2_with fail
      refine R3.mono ?_
      rintro e w4 ⟨rfl, z4⟩
      have B4 := Lib.hid (B3.out.trans (Below.mono z4 B3.out.size))
      clear z4
      go_wp2_with fail
      exact FIN.out _ B4.out
    | true =>
      simp only [if_true] at A3 ⊢
      obtain ⟨_, hf1, hf2, hq1, hq2⟩ := HRF.out (by trivial)
      obtain ⟨fc, rfl⟩ : ∃ k : Nat, fc = (k : Int) := ⟨fc.toNat, by omega⟩
      obtain ⟨q, rfl⟩ : ∃ k : Nat, q = (k : Int) := ⟨q.toNat, by omega⟩
      by_cases hc : code = 0
      · subst hc
        obtain ⟨hl, hd⟩ := HZ.out (by trivial) rfl
        obtain ⟨hb1, hb2⟩ := HRB.out (by trivial)
        have hN := HN.out
        rw [hb1, hb2] at hN
        simp only [Int.toNat_natCast] at hN hd
        have h5 : 2 ≤ nn := by rw [hN]; repeat' split
                               all_goals omega
        have hAA := A3.out
        rw [hl] at hAA ⊢
        obtain ⟨b, off, rfl, hbl, hcc⟩ := hAA.pos (by omega)
        have e0 : w3.cell? ⟨b, off, none⟩ = some (.int .u8 (fc : Int)) := by have := hcc 0 (by omega); rw [hd] at this; exact this
        have i0 : IntKind.i64.wrap (fc : Int) = (fc : Int) := IntWalk.i64_in _ (by omega)
        have RD3 := RD.out w3
        have HNN := Lib.hid hN
        have n0 : ((nn : Int) == 0) = false := by simp; omega
        have d0 : (0 : Int) < (nn : Int) := by omega
        have s1 : wrap64 ((q : Int) + 7) = (q : Int) + 7 := by unfold wrap64; omega
        have s2 : wrap64 (2 * (q : Int)) = 2 * (q : Int) := by unfold wrap64; omega
        have s3 : wrap64 (2 + 2 * (q : Int)) = 2 + 2 * (q : Int) := by unfold wrap64; omega
        have s4 : wrap64 (2 + ((q : Int) + 7) / 8) = 2 + ((q : Int) + 7) / 8 := by unfold wrap64; omega
        clear hl hd hb1 hb2 hN hAA hcc h5 HZ HC HRF
        obtain ⟨rd, hrd⟩ : ∃ b, b = rd14 (fc : Int) := ⟨_, rfl⟩
        obtain ⟨bi, hbi⟩ : ∃ b, b = bi14 (fc : Int) := ⟨_, rfl⟩
        have HIMP : bi = true → rd = true := by rw [hrd, hbi]; unfold rd14 bi14; simp; omega
        have H22 : rd = true → ¬ fc = 22 := by rw [hrd]; unfold rd14; simp; omega
        rw [← hrd, ← hbi] at HNN RD3
        clear hrd hbi HRB
        go_upto_region 9 with fail
        cases rd with
        | true =>
          have h22 : ¬ fc = 22 := H22 rfl
          have h22' : ((fc : Int) == 22) = false := by simp; omega
          clear H22 HIMP
          cases bi with
          | true =>
            have t1 : ((nn : Int) == 2 + ((q : Int) + 7) / 8) = true := by have := HNN.out; simp at this; simp; omega
            go_wp2_with fail
            refine RD3.mono ?_
            rintro e w4 ⟨rfl, rfl⟩
            go_upto_region 17 with fail
            go_quiet (fail)
            go_wp2_with fail
            exact FIN.out _ (below_drewN B3.out _)
          | false =>
            have t1 : ((nn : Int) == 2 + 2 * (q : Int)) = true := by have := HNN.out; simp at this; simp; omega
            go_wp2_with fail
            refine RD3.mono ?_
            rintro e w4 ⟨rfl, rfl⟩
            go_upto_region 17 with fail
            go_quiet (fail)
            go_wp2_with fail
            exact FIN.out _ (below_drewN B3.out _)
        | false =>
          have hbf : bi = false := by cases bi with
            | false => rfl
            | true => exact absurd (HIMP rfl) (by simp)
          subst hbf
          clear H22 HIMP
          by_cases h22 : fc = 22
          · have h22' : ((fc : Int) == 22) = true := by simp; omega
            have t1 : ((nn : Int) == 7) = true := by have := HNN.out; simp [h22] at this; simp; omega
            clear h22
            go_wp2_with fail
            refine RD3.mono ?_
            rintro e w4 ⟨rfl, rfl⟩
            go_upto_region 17 with fail
            go_quiet (fail)
            go_wp2_with fail
            exact FIN.out _ (below_drewN B3.out _)
          · have h22' : ((fc : Int) == 22) = false := by simp; omega
            have t1 : ((nn : Int) == 5) = true := by have := HNN.out; rw [if_neg (by simp), if_neg (by omega)] at this; simp; omega
            go_wp2_with fail
            refine RD3.mono ?_
            rintro e w4 ⟨rfl, rfl⟩
            go_upto_region 17 with fail
            go_quiet (fail)
            go_wp2_with fail
            exact FIN.out _ (below_drewN B3.out _)
      · obtain ⟨hl, hk1, hk2⟩ := HC.out (by trivial) hc
        obtain ⟨code, rfl⟩ : ∃ k : Nat, code = (k : Int) := ⟨code.toNat, by omega⟩
        simp only [Int.toNat_natCast] at hl
        subst hl
        obtain ⟨b, off, rfl, hbl, hcc⟩ := A3.out.pos (by simp)
        have e0 : w3.cell? ⟨b, off, none⟩ = some (.int .u8 ((fc + 128 : Nat) : Int)) := hcc 0 (by simp)
        have e1 : w3.cell? ⟨b, off + 1, none⟩ = some (.int .u8 (code : Int)) := hcc 1 (by simp)
        have i0 : IntKind.i64.wrap ((fc + 128 : Nat) : Int) = ((fc + 128 : Nat) : Int) := IntWalk.i64_in _ (by omega)
        have i0' : IntKind.i64.wrap ((fc : Int) + 128) = (fc : Int) + 128 := IntWalk.i64_in _ (by omega)
        have i1 : IntKind.i64.wrap (code : Int) = (code : Int) := IntWalk.i64_in _ (by omega)
        have s1 : wrap64 ((fc : Int) + 128) = (fc : Int) + 128 := by unfold wrap64; omega
        have t1 : (((code : Nat) : Int) != 0) = true := by simp; omega
        have n0 : ¬ code = 0 := by omega
        clear hcc hc hk1 hk2 HZ HC HRF HRB
        go_upto_region 8 with fail
        go_quiet (fail)
        go_wp2_with fail
        exact FIN.out _ (below_drewN B3.out _)
end Go.Proofs.Ythcfmfkdglmkmaa
