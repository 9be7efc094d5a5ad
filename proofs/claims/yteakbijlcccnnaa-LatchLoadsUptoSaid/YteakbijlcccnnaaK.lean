/- The document's Trip and Reset. -/
import Derived.Test.YteakbijlcccnnaaJ
namespace Go.Proofs.Yteakbijlcccnnaa
set_option linter.unusedVariables false
open Go.ChangeShapes Go.WideShapes Go.ChangeAt Go.RowKit
attribute [local go_sem ↓] Go.wp_at_zero Go.wp_at_succ

theorem Rt.upd {C t gb eb n : Nat} {w w' : World} {G : List Int} {S S' : List La} (h : Rt C w t gb eb n G S) (f : Fs [eb] w w') (ok : Ok G S') (wt : ∀ i, (Lit.int .i64 (sg S' i).tm).wf = true) (row : Lb w' eb n S') : Rt C w' t gb eb n G S' := by
  obtain ⟨ga, gc, ec, q1, q2⟩ := h.blk
  have ha := h.apart
  exact ⟨h.ht, h.he, h.ln, h.le, h.wg, wt, ok, ⟨ga, gc, ec, (f.block t h.lt (by simp; exact ha.1)).trans q1, q2⟩, fun h0 => (h.gs h0).same (f.block gb (h.gs h0).lt (by simp; exact (ha.2 h0).2)), row⟩
def RTripP (C : Nat) (w : World) (t gb eb n : Nat) (G : List Int) (S : List La) (i now : Int) (e : Ending) (w' : World) : Prop :=
  e = .returned (.bool (trB S n i)) ∧ Rt C w' t gb eb n G (trS G S n i now) ∧ Fs [eb] w w'
theorem rtrip_same {C t gb eb n : Nat} {w : World} {G : List Int} {S : List La} (h : Rt C w t gb eb n G S) (i now : Int) (hb : trB S n i = false) : RTripP C w t gb eb n G S i now (.returned (.bool false)) w := by
  refine ⟨by rw [hb], ?_, Fs.refl _ _⟩
  unfold trS
  rw [hb]
  exact h
theorem rtrip_none {C t gb eb n : Nat} {w : World} {G : List Int} {S : List La} (h : Rt C w t gb eb n G S) (i now : Int) (hi : ¬ (0 ≤ i ∧ i < (n : Int))) :
    Calls Try.prog 15 #[.pointer (some ⟨t, 0, none⟩), .int .i64 i, .int .i64 now] w (RTripP C w t gb eb n G S i now) := by
  have hb : (decide (0 ≤ i) && decide (i < (n : Int))) = false := by simp; omega
  have HP := Lib.hid (rtrip_same h i now (by unfold trB; rw [hb]; rfl))
  have HB := Lib.hid hb
  have H := Lib.hid h
  clear h hb hi
  go_enter Try.func15, Try.ntmps15
  go_wp2_with fail
  refine (there_any H.out i).mono ?_
  rintro e w1 ⟨rfl, rfl⟩
  rw [HB.out]
  go_wp2_with fail
  go_ret
  exact HP.out
theorem rtrip_set {C t gb eb n : Nat} {w : World} {G : List Int} {S : List La} (h : Rt C w t gb eb n G S) (k : Nat) (now : Int) (hk : k < n) (hs : (sg S k).st = true) :
    Calls Try.prog 15 #[.pointer (some ⟨t, 0, none⟩), .int .i64 (k : Int), .int .i64 now] w (RTripP C w t gb eb n G S (k : Int) now) := by
  have hb : (decide (0 ≤ (k : Int)) && decide ((k : Int) < (n : Int))) = true := by simp; omega
  have HP := Lib.hid (rtrip_same h (k : Int) now (by unfold trB; rw [hb, Int.toNat_natCast, hs]; rfl))
  obtain ⟨gc, ec, c0, c1, h1, h2, h3, h4, q0, q1, q2, q3, g0, g1, g2⟩ := h.mem hk
  rw [hs] at q1
  have HB := Lib.hid hb
  have H := Lib.hid h
  clear h hb hs
  go_enter Try.func15, Try.ntmps15
  go_wp2_with fail
  refine (there_any H.out (k : Int)).mono ?_
  rintro e w1 ⟨rfl, rfl⟩
  rw [HB.out]
  go_wp2_with fail
  go_ret
  exact HP.out
set_option maxRecDepth 100000 in
set_option maxHeartbeats 8000000 in
theorem rtrip_yes {C t gb eb n : Nat} {w : World} {G : List Int} {S : List La} (h : Rt C w t gb eb n G S) (k : Nat) (now : Int) (hnow : (Lit.int .i64 now).wf = true) (hk : k < n) (hs : (sg S k).st = false) :
    Calls Try.prog 15 #[.pointer (some ⟨t, 0, none⟩), .int .i64 (k : Int), .int .i64 now] w (RTripP C w t gb eb n G S (k : Int) now) := by
  have hb : (decide (0 ≤ (k : Int)) && decide ((k : Int) < (n : Int))) = true := by simp; omega
  have hkg : k < G.length := by rw [h.ln]; exact hk
  have htr : trB S n (k : Int) = true := by unfold trB; rw [hb, Int.toNat_natCast, hs]; rfl
  have hfin : ∀ w w', Below w.heap.size w w' → True := fun _ _ _ => trivial
  have hle := h.le
  unfold maxLen at hle
  have HB := Lib.hid hb
  have H := Lib.hid h
  have SS := Lib.hid hs
  have KN := Lib.hid hkg
  have HTR := Lib.hid htr
  obtain ⟨gc, ec, c0, c1, h1, h2, h3, h4, q0, q1, q2, q3, g0, g1, g2⟩ := h.mem hk
  have wgk := h.wg k
  rw [hs] at q1
  clear q2 q3 g0 g1 g2 h hb hs htr hfin hkg hle
  go_enter Try.func15, Try.ntmps15
  go_wp2_with fail
  refine (there_any H.out (k : Int)).mono ?_
  rintro e w1 ⟨rfl, rfl⟩
  rw [HB.out]
  go_wp2_with fail
  go_loopw [7, 8] (fun o i wr => ∃ j : Nat, j ≤ n ∧ i = .int .i64 j ∧ o = .bool (others G S (gg G k) j) ∧ Below w.heap.size w wr) (fun _ i _ => n - (intOf i).toNat)
  case atStart => exact ⟨0, Nat.zero_le _, rfl, rfl, Below.refl _ _⟩
  case round =>
    obtain ⟨wo, rfl⟩ : ∃ wo : World, wo = wr := ⟨_, rfl⟩
    obtain ⟨j, hj, rfl, rfl, hbe⟩ := hrel
    have HO := H.out.below hbe
    by_cases hjn : j < n
    · obtain ⟨gc', ec', c0', c1', h1', h2', h3', h4', p0, p1, p2, p3, _, _, _⟩ := HO.mem hjn
      obtain ⟨_, _, _, _, _, _, _, _, p0', _, _, _, _, _, _⟩ := HO.mem hk
      have hos := others_succ G S (gg G k) j
      have i1 : (0 : Int) ≤ (j : Int) := by omega
      have i2 : (j : Int) < (n : Int) := by omega
      have i3 : (0 : Int) ≤ (k : Int) := by omega
      have i4 : (k : Int) < (n : Int) := by omega
      have OS := Lib.hid hos
      have BE := Lib.hid hbe
      clear c0 c1 q0 q1 HO hos hbe
      generalize others G S (gg G k) j = ob at *
      generalize (sg S j).st = s at *
      generalize (sg S j).tm = x at *
      generalize (sg S j).fi = f at *
      generalize gg G k = g at *
      generalize gg G j = gj at *
      cases ho : ob with
      | true =>
        subst ho
        rw [Bool.true_or] at OS
        go_wp2_with fail
        go_quiet (fail)
        go_wp2_with fail
        go_roundw
        case rel => exact ⟨j + 1, by omega, by go_num, by rw [OS.out], below_drewN BE.out _⟩
        case measure => simp [intOf]; omega
      | false =>
        subst ho
        rw [Bool.false_or] at OS
        cases hs : s with
        | false =>
          subst hs
          rw [Bool.false_and] at OS
          go_wp2_with fail
          go_quiet (fail)
          go_wp2_with fail
          go_roundw
          case rel => exact ⟨j + 1, by omega, by go_num, by rw [OS.out], below_drewN BE.out _⟩
          case measure => simp [intOf]; omega
        | true =>
          subst hs
          rw [Bool.true_and] at OS
          go_wp2_with fail
          go_quiet (fail)
          go_wp2_with fail
          go_roundw
          case rel => exact ⟨j + 1, by omega, by go_num, by rw [OS.out], below_drewN BE.out _⟩
          case measure => simp [intOf]; omega
    · have hj' : j = n := by omega
      subst hj'
      have hok := H.out.ok
      have hln := H.out.ln
      have HF := Lib.hid (rfirst_any HO (gg G k))
      have FIN := Lib.hid (fun (W : World) (f : Fs [eb] wo W) (r : Lb W eb j (tripS G S k now)) => show RTripP C w t gb eb j G S (k : Int) now (.returned (.bool true)) W.drew from ⟨by rw [HTR.out], by
        unfold trS; rw [if_pos HTR.out, Int.toNat_natCast]
        exact (HO.upd f (trip_ok hok KN.out SS.out now) (trip_wt hok KN.out hnow H.out.wt) r).below (Below.refl _ _).drew, ((Fs.of_below hbe).trans f).trans (Fs.of_below (Below.refl _ _).drew)⟩)
      have hld : lead G S k now = (!(gg G k == 0) && (match fo G S (gg G k) with
        | some j => decide (k < j) && ((sg S j).tm == now)
        | none => !others G S (gg G k) G.length)) := rfl
      rw [hln] at hld
      have hput : ∀ b, lead G S k now = b → (b = true → fo G S (gg G k) = none) → Lb (set3 wo eb (k * 3) ⟨true, now, b⟩) eb j (tripS G S k now) := fun b hb hf =>
        Lb.put _ HO.row hk (by rw [tripS_sg hok KN.out, if_pos rfl, hb]) (fun i hi e => by
          rw [tripS_sg hok KN.out, if_neg e, if_neg]
          rintro ⟨q1, q2⟩
          rw [hb] at q1
          rw [hf q1] at q2; cases q2)
      have hput2 : ∀ i, fo G S (gg G k) = some i → lead G S k now = true → Lb (set3 (wo.setCell ⟨eb, i * 3 + 2, none⟩ (.bool false)) eb (k * 3) ⟨true, now, true⟩) eb j (tripS G S k now) := fun i hf hb =>
        Lb.put (S := unf G S k) _ (HO.row.unmark (by have := (fok_some hf).1; omega) (by rw [unf_sg hok, if_pos hf]) (fun l hl e => by rw [unf_sg hok, if_neg (by rw [hf]; intro q; cases q; exact e rfl)])) hk (by rw [tripS_sg hok KN.out, if_pos rfl, hb]) (fun l hl e => by
          rw [tripS_sg hok KN.out, if_neg e, unf_sg hok]
          by_cases q : fo G S (gg G k) = some l
          · rw [if_pos ⟨hb, q⟩, if_pos q]
          · rw [if_neg (fun z => q z.2), if_neg q])
      have hfs : ∀ b, Fs [eb] wo (set3 wo eb (k * 3) ⟨true, now, b⟩) := fun b => set3_fs _ _ _ _
      have hfs2 : ∀ i, Fs [eb] wo (set3 (wo.setCell ⟨eb, i * 3 + 2, none⟩ (.bool false)) eb (k * 3) ⟨true, now, true⟩) := fun i => (Fs.set _ _ _ _).trans (set3_fs _ _ _ _)
      obtain ⟨gc', ec', c0', c1', h1', h2', h3', h4', p0, p1, p2, p3, z0, z1, z2⟩ := HO.mem hk
      have hHO := Lib.hid HO
      have FP := Lib.hid (fun b (hb : lead G S k now = b) (hf : b = true → fo G S (gg G k) = none) => FIN.out _ (hfs b) (hput b hb hf))
      have FP2 := Lib.hid (fun i (hf : fo G S (gg G k) = some i) (hb : lead G S k now = true) => FIN.out _ (hfs2 i) (hput2 i hf hb))
      have i3 : (0 : Int) ≤ (k : Int) := by omega
      have i4 : (k : Int) < (j : Int) := by omega
      have kdr : k * 3 < 9223372036854775807 * 3 := by omega
      clear c0 c1 q0 q1 HO hok hln hput hput2 hfs hfs2 hbe h1 h2 h3 h4
      cases hf : fo G S (gg G k) with
      | none =>
        have HV := Lib.hid (fiV_none hf)
        rw [hf] at hld
        simp only at hld
        cases ho : others G S (gg G k) j with
        | true =>
          rw [ho] at hld
          have HP := Lib.hid (FP.out false (by rw [hld]; simp) (fun q => by cases q))
          generalize gg G k = g at *
          clear hld hf ho
          go_wp2_with fail
          refine (HF.out).mono ?_
          rintro e w1 ⟨rfl, rfl⟩
          rw [HV.out]
          go_wp2_with fail
          go_region
          all_goals
            go_wp2_with fail
            go_ret
            exact HP.out
        | false =>
          rw [ho] at hld
          cases hz : (gg G k == 0) with
          | true =>
            rw [hz] at hld
            have HP := Lib.hid (FP.out false (by rw [hld]; simp) (fun q => by cases q))
            have hz' : (gg G k != 0) = false := by simpa using hz
            generalize gg G k = g at *
            clear hld hf ho
            go_wp2_with fail
            refine (HF.out).mono ?_
            rintro e w1 ⟨rfl, rfl⟩
            rw [HV.out]
            go_wp2_with fail
            go_region
            all_goals
              go_wp2_with fail
              go_ret
              exact HP.out
          | false =>
            rw [hz] at hld
            have HP := Lib.hid (FP.out true (by rw [hld]; simp) (fun _ => hf))
            have hz' : (gg G k != 0) = true := by simpa using hz
            generalize gg G k = g at *
            clear hld hf ho
            go_wp2_with fail
            refine (HF.out).mono ?_
            rintro e w1 ⟨rfl, rfl⟩
            rw [HV.out]
            go_wp2_with fail
            go_region
            all_goals
              go_wp2_with fail
              go_ret
              exact HP.out
      | some i =>
        have HV := Lib.hid (fiV_some hf)
        rw [hf] at hld
        simp only at hld
        obtain ⟨r1, r2, r3⟩ := fok_some hf
        have hij : i < j := by have := H.out.ln; omega
        have hoth : others G S (gg G k) j = true := (others_iff _ _ _ _).2 ⟨i, hij, H.out.ok.set r1 r2, r3⟩
        have hz : (gg G k == 0) = false := by
          have := H.out.ok.ok.gr i r1 r2
          rw [r3] at this
          simpa using this
        have hz' : (gg G k != 0) = true := by simpa using hz
        rw [hz] at hld
        simp only [Bool.not_false, Bool.true_and] at hld
        obtain ⟨_, _, _, _, _, _, _, _, y0, y1, y2, y3, y4, y5, y6⟩ := hHO.out.mem hij
        have i5 : (i : Int) < (j : Int) := by omega
        have HFo := Lib.hid hf
        have HP1 := Lib.hid (fun (q : lead G S k now = false) => FP.out false q (fun q => by cases q))
        have HP2 := Lib.hid (FP2.out i hf)
        rw [hoth]
        have LD := Lib.hid hld
        clear hld hf r1 r2 r3 hoth
        generalize gg G k = g at *
        generalize (sg S i).tm = y at *
        generalize (sg S i).st = sy at *
        generalize (sg S i).fi = fy at *
        cases ht : (y == now) with
        | false =>
          have HP := Lib.hid (HP1.out (by rw [LD.out, ht, Bool.and_false]))
          go_wp2_with fail
          refine (HF.out).mono ?_
          rintro e w1 ⟨rfl, rfl⟩
          rw [HV.out]
          go_wp2_with fail
          go_region
          all_goals
            go_wp2_with fail
            go_ret
            exact HP.out
        | true =>
          by_cases hki : k < i
          · have HP := Lib.hid (HP2.out (by rw [LD.out, ht, decide_eq_true hki]; rfl))
            have d1 : decide (k < i) = true := by simpa using hki
            have d2 : decide ((k : Int) < (i : Int)) = true := by simpa using hki
            go_wp2_with fail
            refine (HF.out).mono ?_
            rintro e w1 ⟨rfl, rfl⟩
            rw [HV.out]
            go_wp2_with fail
            go_region
            all_goals
              go_wp2_with fail
              go_ret
              exact HP.out
          · have HP := Lib.hid (HP1.out (by rw [LD.out, decide_eq_false hki, Bool.false_and]))
            have d1 : decide (k < i) = false := by simpa using hki
            have d2 : decide ((k : Int) < (i : Int)) = false := by simpa using hki
            clear hki
            go_wp2_with fail
            refine (HF.out).mono ?_
            rintro e w1 ⟨rfl, rfl⟩
            rw [HV.out]
            go_wp2_with fail
            go_region
            all_goals
              go_wp2_with fail
              go_ret
              exact HP.out
end Go.Proofs.Yteakbijlcccnnaa
