/- The walk of SectorPlays. -/
import Derived.Test.YtpjddinbbglgmaaDf
namespace Go.Proofs.Ytpjddinbbglgmaa
set_option linter.unusedVariables false
set_option linter.unusedSimpArgs false
open Go.ChangeShapes Go.WideShapes Go.ChangeAt Go.RowKit

theorem same_str (A : ByteArray) : (A.toList == A.toList) = true := by simp
set_option maxRecDepth 100000 in
set_option maxHeartbeats 8000000 in
theorem plays_walk (many : Int) (a : Option Addr) (len cap : Nat) (g : Nat → Opn) (w : World) (h : Sl w a len g) :
    Calls Try.prog 3 #[.int .i64 many, .slice a len cap] w fun e w' => e = .returned (.bool true) ∧ Below w.heap.size w w' := by
  obtain ⟨P, hP⟩ : ∃ P, P = (fun (e : Ending) (w' : World) => e = .returned (.bool true) ∧ Below w.heap.size w w') := ⟨_, rfl⟩
  rw [← hP]
  have FIN : Hid (∀ W', Below w.heap.size w W' → P (.returned (.bool true)) W') := Lib.hid (fun W' h => by rw [hP]; exact ⟨rfl, h⟩)
  have hl := h.row.le
  unfold maxLen at hl
  have H := Lib.hid h
  clear h hP
  obtain ⟨m, hm⟩ : ∃ m, m = (wi many 1 256).toNat := ⟨_, rfl⟩
  have HM := Lib.hid hm
  clear hm
  go_enter Try.func3, Try.ntmps3
  go_wp2_with fail
  refine (head_any w).mono ?_
  rintro e w0 ⟨rfl, hb⟩
  have B0 := Lib.hid hb
  have hs0 := hb.size
  clear hb
  go_wp2_with fail
  refine (new_any many w0).mono ?_
  rintro e w1 ⟨d, rfl, hd1, hb1⟩
  rw [← HM.out] at hd1
  obtain ⟨s, hs⟩ : ∃ s, s = w0.heap.size := ⟨_, rfl⟩
  have hd1' : Dk w0.heap.size w1 d s none m none false 0 (List.replicate (m * 64) 0) := by rw [hs]; exact hd1
  have HD1 := Lib.hid hd1'
  have B1 := Lib.hid (B0.out.trans (hb1.mono hs0))
  clear hd1 hd1' hb1 hs
  go_wp2_with fail
  refine (rnew_any many w1).mono ?_
  rintro e w2 ⟨rfl, gg, cc, hr2, hb2⟩
  rw [← HM.out] at hr2
  obtain ⟨p, hp⟩ : ∃ p, p = w1.heap.size := ⟨_, rfl⟩
  have hr2' : Rk w1.heap.size w2 p gg cc m none false 0 (List.replicate (m * 64) 0) := by rw [hp]; exact hr2
  have D2 : Hid (Duo w0.heap.size w1.heap.size d s p gg cc m none none false 0 (List.replicate (m * 64) 0) w2) := Lib.hid ⟨HD1.out.below hb2, hr2'⟩
  rw [← hp]
  have B2 := Lib.hid (B1.out.trans (hb2.mono B1.out.size))
  have hs1 := B1.out.size
  have HS1 := Lib.hid hs1
  have HS0 := Lib.hid hs0
  clear hr2 hr2' hb2 hp HD1 hs1
  have HS2 : Hid (Sl w2 a len g) := Lib.hid ⟨H.out.row.below B2.out, fun i hi => ⟨(H.out.wf i hi).1, (H.out.wf i hi).2.1, (H.out.wf i hi).2.2.below B2.out⟩⟩
  go_wp2_with fail
  refine (great_any a len cap g w2 HS2.out).mono ?_
  rintro e wx ⟨bb, rfl, hg, rfl⟩
  have HG := Lib.hid hg
  clear hg
  cases bb
  case true =>
    go_wp2_with fail
    exact FIN.out _ B2.out
  case false =>
  have hl4 : len ≤ 400 := HG.out rfl
  clear HG HS2
  go_wp2_with fail
  go_loopw [8] (fun i wr => ∃ (k : Nat) (pc : Option Nat) (ct : Option (Nat × Nat)) (dn : Bool) (n : Nat) (L : List Nat), k ≤ len ∧ i = .int .i64 k ∧ n ≤ k ∧ Small ct ∧ Duo w0.heap.size w1.heap.size d s p gg cc m pc ct dn n L wr ∧ Below w.heap.size w wr) (fun i _ => len - (intOf i).toNat)
  case atStart => exact ⟨0, none, none, false, 0, _, Nat.zero_le _, rfl, Nat.le_refl _, (fun x e => by cases e), D2.out, B2.out⟩
  case round =>
    obtain ⟨k, pc, ct, dn, n, L, hk, rfl, hn, hsm, hd, hb⟩ := hrel
    obtain ⟨w4, hw4⟩ : ∃ w4, w4 = wr := ⟨_, rfl⟩
    subst hw4
    have HD := Lib.hid hd
    have HB := Lib.hid hb
    have HSM := Lib.hid hsm
    have hbs := hb.size
    clear hd hb hsm
    by_cases hlt : k < len
    · obtain ⟨b, off, rfl, hlt', hcs⟩ := (H.out.row.below HB.out).pos (by omega)
      have c0 : w4.cell? ⟨b, off + k * 4, none⟩ = some (.int .i64 (g k).wh) := hcs k hlt 0 (by omega)
      have c1 : w4.cell? ⟨b, off + k * 4 + 1, none⟩ = some (.int .i64 (g k).at') := hcs k hlt 1 (by omega)
      have c2 : w4.cell? ⟨b, off + k * 4 + 2, none⟩ = some (.int .i64 (g k).n) := hcs k hlt 2 (by omega)
      have c3 : w4.cell? ⟨b, off + k * 4 + 3, none⟩ = some (.slice (g k).a (g k).l (g k).c) := hcs k hlt 3 (by omega)
      obtain ⟨⟨_, wfa, _⟩, hlk, hbk⟩ := H.out.wf k hlt
      have HBK := Lib.hid (fun W (hW : Below w.heap.size w W) => hbk.below hW)
      have HWA := Lib.hid (bd_i64 wfa).2
      clear hcs hbk wfa
      generalize (g k).wh = wh at c0
      generalize (g k).at' = ga at c1 HWA
      generalize (g k).n = gn at c2
      generalize (g k).a = oa at c3 HBK
      generalize (g k).l = ol at c3 HBK hlk
      generalize (g k).c = oc at c3
      generalize (g k).f = of at HBK
      have HLK := Lib.hid hlk
      obtain ⟨w5, hw5⟩ : ∃ w5, w5 = w4.alloc (.cells #[.int .i64 wh, .int .i64 ga, .int .i64 gn, .slice oa ol oc] 31 (0, 0)) := ⟨_, rfl⟩
      have ab : Below w4.heap.size w4 (w4.alloc (.cells #[.int .i64 wh, .int .i64 ga, .int .i64 gn, .slice oa ol oc] 31 (0, 0))) := (Below.refl _ _).alloc (Nat.le_refl _) _
      rw [← hw5] at ab
      have D5 := Lib.hid (HD.out.below ab)
      have D5B := Lib.hid (HB.out.trans (ab.mono hbs))
      have BK5 := Lib.hid (HBK.out w5 D5B.out)
      obtain ⟨ob, hob0⟩ : ∃ ob, ob = w4.heap.size := ⟨_, rfl⟩
      have hob : w5.heap[ob]? = some (.cells #[.int .i64 wh, .int .i64 ga, .int .i64 gn, .slice oa ol oc] 31 (0, 0)) := by rw [hw5, hob0]; exact heap_alloc_new w4 _
      have OB5 := Lib.hid hob
      have HOB := Lib.hid hob0
      have HW5 := Lib.hid hw5
      have hB0 : w0.heap.size ≤ w5.heap.size := Nat.le_trans (HD.out.k.hd) (by have := blk_lt D5.out.k.db; omega)
      clear ab hob hob0 hw5 hlk
      by_cases h2 : wh = 2
      · subst h2
        go_upto_region 16 with fail
        rw [← HW5.out, ← HOB.out]
        have o1 : w5.cell? ⟨ob, 1, none⟩ = some (.int .i64 ga) := by simp [World.cell?, OB5.out]
        clear c0 c1 c2 c3
        go_wp2_with fail
        refine (read_all ga D5.out.k).mono ?_
        rintro e w6 ⟨ra, rn, rc, rfl, hx6, bl6⟩
        have D6 := Lib.hid (D5.out.below bl6)
        have D6B := Lib.hid (D5B.out.trans (bl6.mono D5B.out.size))
        have HX6 := Lib.hid hx6
        have hob6 := (bl6.block _ (blk_lt OB5.out)).trans OB5.out
        have o1 : w6.cell? ⟨ob, 1, none⟩ = some (.int .i64 ga) := by simp [World.cell?, hob6]
        clear hx6 bl6 hob6
        go_wp2_with fail
        refine (rread_all ga D6.out.r).mono ?_
        rintro e w7 ⟨qa, qn, qc, rfl, hx7, bl7⟩
        have D7 := Lib.hid (D6.out.below bl7)
        have D7B := Lib.hid (D6B.out.trans (bl7.mono D6B.out.size))
        have cv1 := conv_bys (cap := rc) (HX6.out.below bl7)
        have cv2 := conv_bys (cap := qc) hx7
        clear hx7 bl7 o1
        generalize strN (rdS dn m L ga) = st at cv1 cv2
        generalize rdE dn m ga = er
        go_wp2_with fail
        refine (down_any D7.out.k).mono ?_
        rintro e wa ⟨rfl, rfl⟩
        go_wp2_with fail
        refine (rdown_any D7.out.r).mono ?_
        rintro e wa ⟨rfl, rfl⟩
        go_wp2_with fail
        refine (writes_any D7.out.k).mono ?_
        rintro e wa ⟨rfl, rfl⟩
        go_wp2_with fail
        refine (rwrites_any D7.out.r).mono ?_
        rintro e wa ⟨rfl, rfl⟩
        go_wp2_with fail
        refine (many_any D7.out.k).mono ?_
        rintro e wa ⟨rfl, rfl⟩
        go_wp2_with fail
        refine (rmany_any D7.out.r).mono ?_
        rintro e wa ⟨rfl, rfl⟩
        go_wp2_with fail
        go_roundw
        case rel => exact ⟨k + 1, _, _, _, _, _, by omega, by go_num, by omega, HSM.out, D7.out, D7B.out⟩
        case measure => simp [intOf]; omega
      have e2 : (wh == 2) = false := by simpa using h2
      clear h2
      by_cases h3 : wh = 3
      · subst h3
        go_upto_region 21 with fail
        rw [← HW5.out, ← HOB.out]
        have o1 : w5.cell? ⟨ob, 1, none⟩ = some (.int .i64 ga) := by simp [World.cell?, OB5.out]
        have o2 : w5.cell? ⟨ob, 2, none⟩ = some (.int .i64 gn) := by simp [World.cell?, OB5.out]
        clear c0 c1 c2 c3 e2
        go_wp2_with fail
        refine (cut_all ga gn D5.out.k hB0).mono ?_
        rintro e w6 ⟨rfl, ⟨pc6, k6⟩, f6⟩
        have R6 := Lib.hid (Rk.fr D5.out.k D5.out.r f6)
        have D6B := Lib.hid (D5B.out.trans ((D5.out.k.step f6).mono HS0.out))
        have hob6 := D5.out.k.keep f6 OB5.out
        have o1 : w6.cell? ⟨ob, 1, none⟩ = some (.int .i64 ga) := by simp [World.cell?, hob6]
        have o2 : w6.cell? ⟨ob, 2, none⟩ = some (.int .i64 gn) := by simp [World.cell?, hob6]
        have K6 := Lib.hid k6
        clear k6 f6 hob6
        go_wp2_with fail
        refine (rcut_all ga gn R6.out).mono ?_
        rintro e w7 ⟨rfl, r7, f7⟩
        have SM7 := Lib.hid (cutF_small (n := gn) HSM.out HWA.out)
        generalize cutF ct ga gn = ct7 at K6 r7 SM7
        have D7 : Hid (Duo w0.heap.size w1.heap.size d s p gg cc m pc6 ct7 dn n L w7) := Lib.hid ⟨Dk.fr K6.out R6.out f7, r7⟩
        have D7B := Lib.hid (D6B.out.trans ((R6.out.step f7).mono HS1.out))
        clear r7 f7 o1 o2
        go_wp2_with fail
        refine (down_any D7.out.k).mono ?_
        rintro e wa ⟨rfl, rfl⟩
        go_wp2_with fail
        refine (rdown_any D7.out.r).mono ?_
        rintro e wa ⟨rfl, rfl⟩
        go_wp2_with fail
        refine (writes_any D7.out.k).mono ?_
        rintro e wa ⟨rfl, rfl⟩
        go_wp2_with fail
        refine (rwrites_any D7.out.r).mono ?_
        rintro e wa ⟨rfl, rfl⟩
        go_wp2_with fail
        refine (many_any D7.out.k).mono ?_
        rintro e wa ⟨rfl, rfl⟩
        go_wp2_with fail
        refine (rmany_any D7.out.r).mono ?_
        rintro e wa ⟨rfl, rfl⟩
        go_wp2_with fail
        go_roundw
        case rel => exact ⟨k + 1, _, _, _, _, _, by omega, by go_num, by omega, SM7.out, D7.out, D7B.out⟩
        case measure => simp [intOf]; omega
      have e3 : (wh == 3) = false := by simpa using h3
      clear h3
      by_cases h4 : wh = 4
      · subst h4
        go_upto_region 24 with fail
        rw [← HW5.out]
        clear c0 c1 c2 c3 e2 e3
        go_wp2_with fail
        refine (boot_any D5.out.k).mono ?_
        rintro e w6 ⟨rfl, k6, f6⟩
        have R6 := Lib.hid (Rk.fr D5.out.k D5.out.r f6)
        have D6B := Lib.hid (D5B.out.trans ((D5.out.k.step f6).mono HS0.out))
        have K6 := Lib.hid k6
        clear k6 f6
        go_wp2_with fail
        refine (rboot_any R6.out).mono ?_
        rintro e w7 ⟨rfl, r7, f7⟩
        have D7 : Hid (Duo w0.heap.size w1.heap.size d s p gg cc m none none false n L w7) := Lib.hid ⟨Dk.fr K6.out R6.out f7, r7⟩
        have D7B := Lib.hid (D6B.out.trans ((R6.out.step f7).mono HS1.out))
        clear r7 f7
        go_wp2_with fail
        refine (down_any D7.out.k).mono ?_
        rintro e wa ⟨rfl, rfl⟩
        go_wp2_with fail
        refine (rdown_any D7.out.r).mono ?_
        rintro e wa ⟨rfl, rfl⟩
        go_wp2_with fail
        refine (writes_any D7.out.k).mono ?_
        rintro e wa ⟨rfl, rfl⟩
        go_wp2_with fail
        refine (rwrites_any D7.out.r).mono ?_
        rintro e wa ⟨rfl, rfl⟩
        go_wp2_with fail
        refine (many_any D7.out.k).mono ?_
        rintro e wa ⟨rfl, rfl⟩
        go_wp2_with fail
        refine (rmany_any D7.out.r).mono ?_
        rintro e wa ⟨rfl, rfl⟩
        go_wp2_with fail
        go_roundw
        case rel => exact ⟨k + 1, _, _, _, _, _, by omega, by go_num, by omega, (fun x e => by cases e), D7.out, D7B.out⟩
        case measure => simp [intOf]; omega
      have e4 : (wh == 4) = false := by simpa using h4
      clear h4
      go_upto_region 11 with fail
      rw [← HW5.out, ← HOB.out]
      have o1 : w5.cell? ⟨ob, 1, none⟩ = some (.int .i64 ga) := by simp [World.cell?, OB5.out]
      have o3 : w5.cell? ⟨ob, 3, none⟩ = some (.slice oa ol oc) := by simp [World.cell?, OB5.out]
      clear c0 c1 c2 c3 e2 e3 e4
      go_wp2_with fail
      refine (write_all ga oa ol oc of D5.out.k BK5.out HLK.out (by omega) HSM.out).mono ?_
      rintro e w6 ⟨rfl, ⟨pc6, k6⟩, f6⟩
      have R6 := Lib.hid (Rk.fr D5.out.k D5.out.r f6)
      have D6B := Lib.hid (D5B.out.trans ((D5.out.k.step f6).mono HS0.out))
      have hob6 := D5.out.k.keep f6 OB5.out
      have o1 : w6.cell? ⟨ob, 1, none⟩ = some (.int .i64 ga) := by simp [World.cell?, hob6]
      have o3 : w6.cell? ⟨ob, 3, none⟩ = some (.slice oa ol oc) := by simp [World.cell?, hob6]
      have RW := Lib.hid (rwrite_all ga oa ol oc of R6.out (HBK.out w6 D6B.out) HLK.out (by omega) HSM.out)
      have HST := Lib.hid (wrF_small (m := m) (dn := dn) (wr := n) (L := L) (i := ga) (len := ol) (f := of) HSM.out)
      generalize wrF m ct dn n L ga ol of = t at k6 RW HST
      obtain ⟨te, tct, tdn, twr, tL⟩ := t
      simp only at k6 HST ⊢
      have K6 := Lib.hid k6
      clear k6 f6 hob6
      go_wp2_with fail
      refine RW.out.mono ?_
      rintro e w7 ⟨rfl, r7, f7⟩
      simp only at r7 ⊢
      have D7 : Hid (Duo w0.heap.size w1.heap.size d s p gg cc m pc6 tct tdn twr tL w7) := Lib.hid ⟨Dk.fr K6.out R6.out f7, r7⟩
      have D7B := Lib.hid (D6B.out.trans ((R6.out.step f7).mono HS1.out))
      clear r7 f7 o1 o3
      go_wp2_with fail
      refine (down_any D7.out.k).mono ?_
      rintro e wa ⟨rfl, rfl⟩
      go_wp2_with fail
      refine (rdown_any D7.out.r).mono ?_
      rintro e wa ⟨rfl, rfl⟩
      go_wp2_with fail
      refine (writes_any D7.out.k).mono ?_
      rintro e wa ⟨rfl, rfl⟩
      go_wp2_with fail
      refine (rwrites_any D7.out.r).mono ?_
      rintro e wa ⟨rfl, rfl⟩
      go_wp2_with fail
      refine (many_any D7.out.k).mono ?_
      rintro e wa ⟨rfl, rfl⟩
      go_wp2_with fail
      refine (rmany_any D7.out.r).mono ?_
      rintro e wa ⟨rfl, rfl⟩
      go_wp2_with fail
      go_roundw
      case rel => exact ⟨k + 1, _, _, _, _, _, by omega, by go_num, by have := HST.out.2; omega, HST.out.1, D7.out, D7B.out⟩
      case measure => simp [intOf]; omega
    · have hk' : k = len := by omega
      subst hk'
      go_wp2_with fail
      refine (boot_any HD.out.k).mono ?_
      rintro e w6 ⟨rfl, k6, f6⟩
      have R6 := Lib.hid (Rk.fr HD.out.k HD.out.r f6)
      have D6B := Lib.hid (HB.out.trans ((HD.out.k.step f6).mono HS0.out))
      have K6 := Lib.hid k6
      clear k6 f6
      go_wp2_with fail
      refine (rboot_any R6.out).mono ?_
      rintro e w7 ⟨rfl, r7, f7⟩
      have D7 : Hid (Duo w0.heap.size w1.heap.size d s p gg cc m none none false n L w7) := Lib.hid ⟨Dk.fr K6.out R6.out f7, r7⟩
      have D7B := Lib.hid (D6B.out.trans ((R6.out.step f7).mono HS1.out))
      clear r7 f7
      have hm2 : m ≤ 256 := D7.out.k.m2
      go_wp2_with fail
      go_loopw [16] (fun i wr => ∃ (j : Nat), j ≤ m ∧ i = .int .i64 j ∧ Duo w0.heap.size w1.heap.size d s p gg cc m none none false n L wr ∧ Below w.heap.size w wr) (fun i _ => m - (intOf i).toNat)
      case atStart => exact ⟨0, Nat.zero_le _, rfl, D7.out, D7B.out⟩
      case round =>
        obtain ⟨j, hj, rfl, hd8, hb8⟩ := hrel
        obtain ⟨w8, hw8⟩ : ∃ w8, w8 = wr := ⟨_, rfl⟩
        subst hw8
        have D8 := Lib.hid hd8
        have D8B := Lib.hid hb8
        clear hd8 hb8
        go_wp2_with fail
        refine (rmany_any D8.out.r).mono ?_
        rintro e wa ⟨rfl, rfl⟩
        by_cases hjm : j < m
        · go_wp2_with fail
          refine (read_all (j : Int) D8.out.k).mono ?_
          rintro e w9 ⟨ra, rn, rc, rfl, hx6, bl6⟩
          have D9 := Lib.hid (D8.out.below bl6)
          have D9B := Lib.hid (D8B.out.trans (bl6.mono D8B.out.size))
          have HX9 := Lib.hid hx6
          clear hx6 bl6
          go_wp2_with fail
          refine (rread_all (j : Int) D9.out.r).mono ?_
          rintro e wA ⟨qa, qn, qc, rfl, hx7, bl7⟩
          have DA := Lib.hid (D9.out.below bl7)
          have DAB := Lib.hid (D9B.out.trans (bl7.mono D9B.out.size))
          have cv1 := conv_bys (cap := rc) (HX9.out.below bl7)
          have cv2 := conv_bys (cap := qc) hx7
          clear hx7 bl7
          generalize strN (rdS false m L (j : Int)) = st at cv1 cv2
          generalize rdE false m (j : Int) = er
          go_wp2_with fail
          go_roundw
          case rel => exact ⟨j + 1, by omega, by go_num, DA.out, DAB.out⟩
          case measure => simp [intOf]; omega
        · have hk' : j = m := by omega
          subst hk'
          go_wp2_with fail
          exact FIN.out _ D8B.out
end Go.Proofs.Ytpjddinbbglgmaa
