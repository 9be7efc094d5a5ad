/- The walk of SectorCuts. -/
import Derived.Test.YtpjddinbbglgmaaH
namespace Go.Proofs.Ytpjddinbbglgmaa
set_option linter.unusedVariables false
open Go.ChangeShapes Go.WideShapes Go.ChangeAt Go.RowKit

set_option maxRecDepth 100000 in
set_option maxHeartbeats 2000000 in
theorem cuts_walk (af nb mo : Int) (w : World) (a0 : 0 ≤ af) (a1 : af ≤ 255) (n0 : 0 ≤ nb) (n1 : nb ≤ 255) (m0 : 0 ≤ mo) (m1 : mo ≤ 255) :
    Calls Try.prog 6 #[.int .u8 af, .int .u8 nb, .int .u8 mo] w fun e w' => e = .returned (.bool true) ∧ Below w.heap.size w w' := by
  obtain ⟨K, hK⟩ : ∃ K : Nat, af % 20 = (K : Int) := ⟨(af % 20).toNat, by omega⟩
  obtain ⟨M, hM⟩ : ∃ M : Nat, mo % 5 = (M : Int) := ⟨(mo % 5).toNat, by omega⟩
  have hK20 : K < 20 := by omega
  have hM5 : M < 5 := by omega
  go_enter Try.func6, Try.ntmps6
  go_wp2_with fail
  refine (head_any w).mono ?_
  rintro e w0 ⟨rfl, hb⟩
  have B0 := Lib.hid hb
  have hs0 := hb.size
  clear hb
  go_wp2_with fail
  refine (new_any 2 w0).mono ?_
  rintro e w1 ⟨d, rfl, h1, hb1⟩
  rw [show (wi 2 1 256).toNat = 2 from rfl] at h1
  obtain ⟨s, hs⟩ : ∃ s, s = w0.heap.size := ⟨_, rfl⟩
  have h1' : Dk w0.heap.size w1 d s none 2 none false 0 (List.replicate (2 * 64) 0) := by rw [hs]; exact h1
  have H1 := Lib.hid h1'
  have B1 := Lib.hid (B0.out.trans (hb1.mono hs0))
  have hs1 : w0.heap.size ≤ w1.heap.size := hb1.size
  clear h1 h1' hb1 hs
  go_wp2_with fail
  refine (cut_yes H1.out hs1 K nb).mono ?_
  rintro e w2 ⟨rfl, h2, f2⟩
  obtain ⟨c, hc⟩ : ∃ c, c = w1.heap.size := ⟨_, rfl⟩
  obtain ⟨q, hq⟩ : ∃ q, q = (wi nb 0 64).toNat := ⟨_, rfl⟩
  rw [← hc, ← hq] at h2
  have H2 := Lib.hid h2
  have B2 := Lib.hid (B1.out.trans ((H1.out.step f2).mono hs0))
  clear h2 f2 hc hq
  go_wp2_with fail
  go_loopw [10] (fun i wr => ∃ (k : Nat) (L : List Nat), k ≤ K ∧ i = .int .i64 k ∧ Dk w0.heap.size wr d s (some c) 2 (some (K - k, q)) false k L ∧ Below w.heap.size w wr) (fun i _ => K - (intOf i).toNat)
  case atStart => exact ⟨0, _, Nat.zero_le _, rfl, H2.out, B2.out⟩
  case round =>
    obtain ⟨k, L, hk, rfl, hd, hb⟩ := hrel
    obtain ⟨w3, hw3⟩ : ∃ w3, w3 = wr := ⟨_, rfl⟩
    subst hw3
    have HD := Lib.hid hd
    have HB := Lib.hid hb
    have hsz := hb.size
    clear hd hb
    by_cases hlt : k < K
    · obtain ⟨p, hp⟩ : ∃ p : Nat, (k : Int) % 2 = (p : Int) := ⟨k % 2, by omega⟩
      have hp2 : p < 2 := by omega
      go_wp2_with fail
      have g3 := HD.out.below (w' := w3.alloc (.cells (bv [k]).toArray 5 (0, 0))) (Below.alloc (Below.refl _ _) (Nat.le_refl _) _)
      refine (write_some p _ 1 _ [k] g3 hp2 (bys_new (heap_alloc_new w3 _) rfl (by simp; omega)) (by decide) (by omega) (by omega) (by omega)).mono ?_
      rintro e w4 ⟨rfl, h4, f4⟩
      have b4 := (HB.out.alloc hsz _).trans ((g3.step f4).mono hs0)
      have HD4 := Lib.hid h4
      have HB4 := Lib.hid b4
      clear h4 f4 g3 b4
      go_wp2_with fail
      refine (down_any HD4.out).mono ?_
      rintro e w5 ⟨rfl, rfl⟩
      go_wp2_with fail
      go_roundw
      case rel => exact ⟨k + 1, _, by omega, by go_num, by rw [show K - (k + 1) = K - k - 1 by omega]; exact HD4.out, HB4.out⟩
      case measure => simp [intOf]; omega
    · have hk' : k = K := by omega
      subst hk'
      rw [Nat.sub_self] at HD
      go_wp2_with fail
      go_loopw [11] (fun i wr => ∃ (j : Nat) (L : List Nat), j ≤ M + 1 ∧ i = .int .i64 j ∧ ((j < 1 ∧ Dk w0.heap.size wr d s (some c) 2 (some (0, q)) false k L) ∨ (0 < j ∧ Dk w0.heap.size wr d s none 2 none true k L)) ∧ Below w.heap.size w wr) (fun i _ => M + 1 - (intOf i).toNat)
      case atStart => exact ⟨0, L, Nat.zero_le _, rfl, (.inl ⟨by omega, HD.out⟩), HB.out⟩
      case round =>
        clear HD HB
        obtain ⟨j, L, hj, rfl, hd, hb⟩ := hrel
        obtain ⟨w4, hw4⟩ : ∃ w4, w4 = wr := ⟨_, rfl⟩
        subst hw4
        have HB := Lib.hid hb
        have hsz := hb.size
        clear hb
        rcases hd with ⟨hj0, hd⟩ | ⟨hj0, hd⟩
        · have HD := Lib.hid hd
          clear hd
          have hjM : j < M + 1 := by omega
          go_wp2_with fail
          have g4 := HD.out.below (w' := w4.alloc (.cells (bv [1]).toArray 5 (0, 0))) (Below.alloc (Below.refl _ _) (Nat.le_refl _) _)
          refine (write_torn 0 _ 1 _ [1] g4 (by omega) (bys_new (heap_alloc_new w4 _) rfl (by decide)) (by decide) (by omega)).mono ?_
          rintro e w5 ⟨rfl, h5, f5⟩
          have HD5 := Lib.hid h5
          have HB5 := Lib.hid ((HB.out.alloc hsz _).trans ((g4.step f5).mono hs0))
          clear h5 f5 g4
          go_wp2_with fail
          refine (down_any HD5.out).mono ?_
          rintro e w6 ⟨rfl, rfl⟩
          go_wp2_with fail
          refine (writes_any HD5.out).mono ?_
          rintro e w6 ⟨rfl, rfl⟩
          go_wp2_with fail
          go_roundw
          case rel => exact ⟨j + 1, _, by omega, by go_num, .inr ⟨by omega, HD5.out⟩, HB5.out⟩
          case measure => simp [intOf]; omega
        · have HD := Lib.hid hd
          clear hd
          by_cases hjM : j < M + 1
          · go_wp2_with fail
            have g4 := HD.out.below (w' := w4.alloc (.cells (bv [1]).toArray 5 (0, 0))) (Below.alloc (Below.refl _ _) (Nat.le_refl _) _)
            have HG := Lib.hid g4
            clear g4
            refine (write_down 0 _ 1 _ HG.out).mono ?_
            rintro e w5 ⟨rfl, rfl⟩
            go_wp2_with fail
            refine (down_any HG.out).mono ?_
            rintro e w6 ⟨rfl, rfl⟩
            go_wp2_with fail
            refine (writes_any HG.out).mono ?_
            rintro e w6 ⟨rfl, rfl⟩
            go_wp2_with fail
            go_roundw
            case rel => exact ⟨j + 1, _, by omega, by go_num, .inr ⟨by omega, HG.out⟩, HB.out.alloc hsz _⟩
            case measure => simp [intOf]; omega
          · go_wp2_with fail
            refine (boot_any HD.out).mono ?_
            rintro e w5 ⟨rfl, h5, f5⟩
            have HD5 := Lib.hid h5
            have HB5 := Lib.hid (HB.out.trans ((HD.out.step f5).mono hs0))
            have hsz5 := HB5.out.size
            clear h5 f5
            go_wp2_with fail
            have g5 := HD5.out.below (w' := w5.alloc (.cells (bv [1]).toArray 5 (0, 0))) (Below.alloc (Below.refl _ _) (Nat.le_refl _) _)
            refine (write_none 0 _ 1 _ [1] g5 (by omega) (bys_new (heap_alloc_new w5 _) rfl (by decide)) (by decide) (by omega)).mono ?_
            rintro e w6 ⟨rfl, h6, f6⟩
            have HD6 := Lib.hid h6
            have HB6 := Lib.hid ((HB5.out.alloc hsz5 _).trans ((g5.step f6).mono hs0))
            clear h6 f6 g5
            go_wp2_with fail
            refine (writes_any HD6.out).mono ?_
            rintro e w7 ⟨rfl, rfl⟩
            go_wp2_with fail
            go_ret
            exact ⟨by simp, HB6.out⟩

theorem cuts_all (af nb mo : Int) (wa : (Lit.int .u8 af).wf = true) (wn : (Lit.int .u8 nb).wf = true) (wm : (Lit.int .u8 mo).wf = true) (w : World) :
    Calls Try.prog 6 #[.int .u8 af, .int .u8 nb, .int .u8 mo] w fun e w' => e = .returned (.bool true) ∧ Below w.heap.size w w' :=
  cuts_walk af nb mo w (bd_u8 wa).1 (bd_u8 wa).2 (bd_u8 wn).1 (bd_u8 wn).2 (bd_u8 wm).1 (bd_u8 wm).2

end Go.Proofs.Ytpjddinbbglgmaa
