/- The walk of SectorTorn. -/
import Derived.Test.YtpjddinbbglgmaaL
namespace Go.Proofs.Ytpjddinbbglgmaa
set_option linter.unusedVariables false
open Go.ChangeShapes Go.WideShapes Go.ChangeAt Go.RowKit

/-- Sector p reads f, and zeros behind it. -/
def Reads (L : List Nat) (p : Nat) (f : Nat → Nat) : Prop := ∀ j, j < 64 → L.getD (p * 64 + j) 0 = f j
theorem reads_same {L : List Nat} {m p : Nat} (hl : L.length = m * 64) (hp : p < m) (F : List Nat) (hF : F.length ≤ 64) {g : Nat → Nat} (h : Reads L p g) :
    Reads (splice L (p * 64) F) p (fun j => if j < F.length then F.getD j 0 else g j) := by
  intro j hj
  have : (p + 1) * 64 ≤ m * 64 := Nat.mul_le_mul_right _ hp
  rw [getD_splice _ _ _ _ (by omega)]
  by_cases h1 : j < F.length
  · rw [if_pos (by omega), show p * 64 + j - p * 64 = j by omega]; simp [h1]
  · rw [if_neg (by omega)]; simp only [h1, if_false]; exact h j hj
theorem reads_other {L : List Nat} {m p q : Nat} (hl : L.length = m * 64) (hp : p < m) (hq : q < m) (hne : q ≠ p) (F : List Nat) (hF : F.length ≤ 64) {g : Nat → Nat} (h : Reads L q g) : Reads (splice L (p * 64) F) q g := by
  intro j hj
  have h1 : (p + 1) * 64 ≤ m * 64 := Nat.mul_le_mul_right _ hp
  rw [getD_splice _ _ _ _ (by omega)]
  have h3 : ¬ (p * 64 ≤ q * 64 + j ∧ q * 64 + j < p * 64 + F.length) := by
    intro ⟨a, b⟩
    rcases Nat.lt_or_ge q p with c | c
    · have : (q + 1) * 64 ≤ p * 64 := Nat.mul_le_mul_right _ c
      omega
    · have : (p + 1) * 64 ≤ q * 64 := Nat.mul_le_mul_right _ (by omega)
      omega
  rw [if_neg h3]
  exact h j hj
theorem reads_whole {L : List Nat} {m p : Nat} (hl : L.length = m * 64) (hp : p < m) (f : List Nat) (hf : f.length ≤ 64) : Reads (splice L (p * 64) (whole f)) p (fun j => f.getD j 0) := by
  intro j hj
  have := reads_same hl hp (whole f) (by rw [whole_len hf]; exact Nat.le_refl _) (g := fun j => L.getD (p * 64 + j) 0) (fun _ _ => rfl) j hj
  rw [this]
  simp only [whole_len hf, hj, if_true, getD_whole]

set_option maxRecDepth 100000 in
set_option maxHeartbeats 4000000 in
theorem torn_walk (a1 : Option Addr) (l1 c1 : Nat) (f1 : List Nat) (a2 : Option Addr) (l2 c2 : Nat) (f2 : List Nat) (nb at' : Int) (a3 : Option Addr) (l3 c3 : Nat) (f3 : List Nat) (w : World)
    (h1 : Bys w a1 l1 f1) (h2 : Bys w a2 l2 f2) (h3 : Bys w a3 l3 f3) (n0 : 0 ≤ nb) (n1 : nb ≤ 255) (t0 : 0 ≤ at') (t1 : at' ≤ 255) (hl1 : l1 ≤ 64) (hl2 : l2 ≤ 64) (hl3 : l3 ≤ 64) :
    Calls Try.prog 4 #[.slice a1 l1 c1, .slice a2 l2 c2, .int .u8 nb, .int .u8 at', .slice a3 l3 c3] w fun e w' => e = .returned (.bool true) ∧ Below w.heap.size w w' := by
  have H1 := Lib.hid h1
  have H2 := Lib.hid h2
  have H3 := Lib.hid h3
  clear h1 h2 h3
  obtain ⟨K, hK⟩ : ∃ K : Nat, at' % 4 = (K : Int) := ⟨(at' % 4).toNat, by omega⟩
  have hK4 : K < 4 := by omega
  obtain ⟨n, rfl⟩ : ∃ n : Nat, nb = (n : Int) := ⟨nb.toNat, by omega⟩
  have d1 : decide (64 < (l1 : Int)) = false := decide_eq_false (by omega)
  have d2 : decide (64 < (l2 : Int)) = false := decide_eq_false (by omega)
  have d3 : decide (64 < (l3 : Int)) = false := decide_eq_false (by omega)
  go_enter Try.func4, Try.ntmps4
  go_wp2_with fail
  refine (head_any w).mono ?_
  rintro e w0 ⟨rfl, hb⟩
  have B0 := Lib.hid hb
  have hs0 := hb.size
  clear hb
  go_wp2_with fail
  refine (new_any 4 w0).mono ?_
  rintro e w1 ⟨d, rfl, hd1, hb1⟩
  rw [show (wi 4 1 256).toNat = 4 from rfl] at hd1
  obtain ⟨s, hs⟩ : ∃ s, s = w0.heap.size := ⟨_, rfl⟩
  have hd1' : Dk w0.heap.size w1 d s none 4 none false 0 (List.replicate (4 * 64) 0) := by rw [hs]; exact hd1
  have HD1 := Lib.hid hd1'
  have B1 := Lib.hid (B0.out.trans (hb1.mono hs0))
  clear hd1 hd1' hb1 hs
  go_wp2_with fail
  have HKK := Lib.hid hK
  clear hK
  go_loopw [14] (fun i wr => ∃ (k : Nat) (L : List Nat), k ≤ 4 ∧ i = .int .i64 k ∧ Dk w0.heap.size wr d s none 4 none false k L ∧ Below w.heap.size w wr ∧ ∀ p, p < k → Reads L p (fun j => f3.getD j 0)) (fun i _ => 4 - (intOf i).toNat)
  case atStart => exact ⟨0, _, Nat.zero_le _, rfl, HD1.out, B1.out, fun p hp => by omega⟩
  case round =>
    obtain ⟨k, L, hk, rfl, hd, hb, hr⟩ := hrel
    obtain ⟨w3, hw3⟩ : ∃ w3, w3 = wr := ⟨_, rfl⟩
    subst hw3
    have HD := Lib.hid hd
    have HB := Lib.hid hb
    have HR := Lib.hid hr
    clear hd hb hr
    by_cases hlt : k < 4
    · go_wp2_with fail
      refine (write_none k a3 l3 c3 f3 HD.out hlt (H3.out.below HB.out) hl3 (by omega)).mono ?_
      rintro e w4 ⟨rfl, hd4, fr4⟩
      have hb4 := HB.out.trans ((HD.out.step fr4).mono hs0)
      have hr4 : ∀ p, p < k + 1 → Reads (splice L (k * 64) (whole f3)) p (fun j => f3.getD j 0) := by
        intro p hp
        have hlen := HD.out.len
        by_cases e : p = k
        · subst e; exact reads_whole hlen hlt f3 (by rw [H3.out.ln]; exact hl3)
        · exact reads_other hlen hlt (by omega) e (whole f3) (by rw [whole_len (by rw [H3.out.ln]; exact hl3)]; exact Nat.le_refl _) (HR.out p (by omega))
      have HD4 := Lib.hid hd4
      have HB4 := Lib.hid hb4
      have HR4 := Lib.hid hr4
      clear hd4 hb4 hr4 fr4
      go_wp2_with fail
      go_roundw
      case rel => exact ⟨k + 1, _, by omega, by go_num, HD4.out, HB4.out, HR4.out⟩
      case measure => simp [intOf]; omega
    · have hk' : k = 4 := by omega
      subst hk'
      have hle3 : f3.length ≤ 64 := by rw [H3.out.ln]; exact hl3
      have hle1 : f1.length ≤ 64 := by rw [H1.out.ln]; exact hl1
      have hle2 : f2.length ≤ 64 := by rw [H2.out.ln]; exact hl2
      go_wp2_with fail
      refine (write_none K a1 l1 c1 f1 HD.out hK4 (H1.out.below HB.out) hl1 (by omega)).mono ?_
      rintro e w4 ⟨rfl, hd4, fr4⟩
      obtain ⟨L1, hL1⟩ : ∃ L1, L1 = splice L (K * 64) (whole f1) := ⟨_, rfl⟩
      rw [← hL1] at hd4
      have hr4 : Reads L1 K (fun j => f1.getD j 0) ∧ ∀ p, p < 4 → p ≠ K → Reads L1 p (fun j => f3.getD j 0) := by
        rw [hL1]
        exact ⟨reads_whole HD.out.len hK4 f1 hle1, fun p hp hne => reads_other HD.out.len hK4 hp hne (whole f1) (by rw [whole_len hle1]; exact Nat.le_refl _) (HR.out p hp)⟩
      have HD4 := Lib.hid hd4
      have HB4 := Lib.hid (HB.out.trans ((HD.out.step fr4).mono hs0))
      have HR4 := Lib.hid hr4
      have hs4 : w0.heap.size ≤ w4.heap.size := by have := blk_lt hd4.db; have := hd4.hd; omega
      clear hd4 hr4 fr4 hL1
      go_wp2_with fail
      refine (cut_yes HD4.out hs4 0 n).mono ?_
      rintro e w5 ⟨rfl, hd5, fr5⟩
      obtain ⟨c, hc⟩ : ∃ c, c = w4.heap.size := ⟨_, rfl⟩
      obtain ⟨q, hq⟩ : ∃ q, q = (wi (n : Int) 0 64).toNat := ⟨_, rfl⟩
      have hqn : q = min n 64 := by rw [hq]; unfold wi; (repeat' split) <;> omega
      rw [← hc, ← hq] at hd5
      have HD5 := Lib.hid hd5
      have HB5 := Lib.hid (HB4.out.trans ((HD4.out.step fr5).mono hs0))
      have HQN := Lib.hid hqn
      clear hd5 fr5 hc hq hqn
      go_wp2_with fail
      refine (write_torn K a2 l2 c2 f2 HD5.out hK4 (H2.out.below HB5.out) hl2 (by omega)).mono ?_
      rintro e w6 ⟨rfl, hd6, fr6⟩
      obtain ⟨L2, hL2⟩ : ∃ L2, L2 = splice L1 (K * 64) ((whole f2).take q) := ⟨_, rfl⟩
      rw [← hL2] at hd6
      have hwq : ((whole f2).take q).length = q := by rw [List.length_take, whole_len hle2]; have := HQN.out; omega
      have hr6 : Reads L2 K (fun j => if j < n then f2.getD j 0 else f1.getD j 0) ∧ ∀ p, p < 4 → p ≠ K → Reads L2 p (fun j => f3.getD j 0) := by
        rw [hL2]
        refine ⟨fun j hj => ?_, fun p hp hne => reads_other HD4.out.len hK4 hp hne _ (by rw [hwq]; have := HQN.out; omega) (HR4.out.2 p hp hne)⟩
        rw [reads_same HD4.out.len hK4 ((whole f2).take q) (by rw [hwq]; have := HQN.out; omega) HR4.out.1 j hj]
        simp only [hwq, getD_take, getD_whole]
        have := HQN.out
        by_cases h : j < q
        · rw [if_pos h, if_pos h, if_pos (by omega)]
        · rw [if_neg h, if_neg (by omega)]
      have HD6 := Lib.hid hd6
      have HB6 := Lib.hid (HB5.out.trans ((HD5.out.step fr6).mono hs0))
      have HR6 := Lib.hid hr6
      clear hd6 hr6 fr6 hL2 hwq
      go_wp2_with fail
      refine (down_any HD6.out).mono ?_
      rintro e w7 ⟨rfl, rfl⟩
      go_wp2_with fail
      refine (boot_any HD6.out).mono ?_
      rintro e w7 ⟨rfl, hd7, fr7⟩
      have HD7 := Lib.hid hd7
      have HB7 := Lib.hid (HB6.out.trans ((HD6.out.step fr7).mono hs0))
      clear hd7 fr7
      go_wp2_with fail
      refine (read_ok K HD7.out hK4).mono ?_
      rintro e w8 ⟨gx, rfl, hgx, hx8, bl8⟩
      have hxl : (sec L2 K).length = 64 := sec_len HD7.out.len hK4
      have hx : ∀ W : World, Below w8.heap.size w8 W → ∀ j, j < 64 → W.cell? ⟨gx, j, none⟩ = some (.int .u8 (((if j < n then f2.getD j 0 else f1.getD j 0) : Nat) : Int)) := by
        intro W hW j hj
        have hlt := blk_lt hx8
        rw [hW.cell (p := ⟨gx, j, none⟩) hlt]
        simp only [World.cell?, hx8]
        have := bv_get (sec L2 K) j (by omega)
        rw [getD_sec _ _ _ hj, HR6.out.1 j hj] at this
        simpa using this
      have HX := Lib.hid hx
      have HD8 := Lib.hid (HD7.out.below bl8)
      have HB8 := Lib.hid (HB7.out.trans (bl8.mono HB7.out.size))
      clear hx hx8 hgx bl8 hxl
      go_wp2_with fail
      go_loopw [19, 20] (fun i _ wr => ∃ (k : Nat), k ≤ 64 ∧ i = .int .i64 k ∧ w8 = wr) (fun i _ _ => 64 - (intOf i).toNat)
      case atStart => exact ⟨0, by omega, rfl, rfl⟩
      case round =>
        obtain ⟨k, hk, rfl, rfl⟩ := hrel
        have HXk := HX.out w8 (Below.refl _ _)
        have HXK := Lib.hid HXk
        clear HXk
        by_cases hlt : k < 64
        · have hx : w8.cell? ⟨gx, k, none⟩ = some (.int .u8 (((if k < n then f2.getD k 0 else f1.getD k 0) : Nat) : Int)) := HXK.out k hlt
          by_cases hkn : k < n
          · rw [if_pos hkn] at hx
            by_cases hk2 : k < l2
            · rcases H2.out.at' with z | ⟨b2, o2, rfl, hb2, hc2⟩
              · omega
              · have e2 := (HB8.out.cell (p := ⟨b2, o2 + k, none⟩) hb2).trans (hc2 k hk2)
                clear hc2
                generalize f2.getD k 0 = v at hx e2
                go_wp2_with fail
                go_roundw
                case rel => exact ⟨k + 1, by omega, by go_num, by trivial⟩
                case measure => simp [intOf]; omega
            · rw [getD_ge f2 k (by rw [H2.out.ln]; omega)] at hx
              have hx0 : w8.cell? ⟨gx, k, none⟩ = some (.int .u8 0) := hx
              clear hx
              go_wp2_with fail
              go_roundw
              case rel => exact ⟨k + 1, by omega, by go_num, by trivial⟩
              case measure => simp [intOf]; omega
          · rw [if_neg hkn] at hx
            by_cases hk1 : k < l1
            · rcases H1.out.at' with z | ⟨b2, o2, rfl, hb2, hc2⟩
              · omega
              · have e2 := (HB8.out.cell (p := ⟨b2, o2 + k, none⟩) hb2).trans (hc2 k hk1)
                clear hc2
                generalize f1.getD k 0 = v at hx e2
                go_wp2_with fail
                go_roundw
                case rel => exact ⟨k + 1, by omega, by go_num, by trivial⟩
                case measure => simp [intOf]; omega
            · rw [getD_ge f1 k (by rw [H1.out.ln]; omega)] at hx
              have hx0 : w8.cell? ⟨gx, k, none⟩ = some (.int .u8 0) := hx
              clear hx
              go_wp2_with fail
              go_roundw
              case rel => exact ⟨k + 1, by omega, by go_num, by trivial⟩
              case measure => simp [intOf]; omega
        · have hk64 : k = 64 := by omega
          subst hk64
          obtain ⟨p, hp⟩ : ∃ p : Nat, ((K : Int) + 1) % 4 = (p : Int) := ⟨(K + 1) % 4, by omega⟩
          have hp4 : p < 4 := by omega
          have hpK : p ≠ K := by omega
          go_wp2_with fail
          refine (read_ok p HD8.out hp4).mono ?_
          rintro e w9 ⟨gy, rfl, hgy, hy9, bl9⟩
          have hyl : (sec L2 p).length = 64 := sec_len HD8.out.len hp4
          have hcy := conv_any w9.drew gy 0 l3 64 f3 H3.out.ln (fun i hi => by
            show w9.cell? _ = _
            rw [Nat.zero_add]
            simp only [World.cell?, hy9]
            have := bv_get (sec L2 p) i (by omega)
            rw [getD_sec _ _ _ (by omega), HR6.out.2 p hp4 hpK i (by omega)] at this
            simpa using this)
          have hbw := HB8.out.trans (bl9.mono HB8.out.size)
          have hco := conv_bys (W := w9.drew) (cap := c3) (H3.out.below hbw.drew)
          have HB9 := Lib.hid hbw
          clear hy9 hgy bl9 hyl hbw
          have i3 : (0 : Int) ≤ (l3 : Int) := by omega
          have i4 : (l3 : Int) ≤ 64 := by omega
          go_upto_region 30 with fail
          refine wp_region_still_tail 16 (by kernel_rfl) (by kernel_rfl) ?_
          simp only [List.take_succ_cons, List.take_zero, List.drop_succ_cons, List.drop_zero]
          iterate 16 still_step
          refine wpStill_nil ?_
          clear hcy hco
          go_wp2_with fail
          go_ret
          exact ⟨rfl, HB9.out.drew⟩

set_option maxRecDepth 100000 in
set_option maxHeartbeats 2000000 in
theorem torn_short (a1 : Option Addr) (l1 c1 : Nat) (a2 : Option Addr) (l2 c2 : Nat) (nb at' : Int) (a3 : Option Addr) (l3 c3 : Nat) (w : World)
    (hm1 : l1 ≤ maxLen) (hm2 : l2 ≤ maxLen) (hm3 : l3 ≤ maxLen) (h : 64 < l1 ∨ 64 < l2 ∨ 64 < l3) :
    Calls Try.prog 4 #[.slice a1 l1 c1, .slice a2 l2 c2, .int .u8 nb, .int .u8 at', .slice a3 l3 c3] w fun e w' => e = .returned (.bool true) ∧ Below w.heap.size w w' := by
  unfold maxLen at hm1 hm2 hm3
  obtain ⟨x1, hx1⟩ : ∃ x, decide (64 < (l1 : Int)) = x := ⟨_, rfl⟩
  obtain ⟨x2, hx2⟩ : ∃ x, decide (64 < (l2 : Int)) = x := ⟨_, rfl⟩
  obtain ⟨x3, hx3⟩ : ∃ x, decide (64 < (l3 : Int)) = x := ⟨_, rfl⟩
  have hc : x1 = true ∨ (x1 = false ∧ x2 = true) ∨ (x1 = false ∧ x2 = false ∧ x3 = true) := by
    by_cases h1 : 64 < l1
    · exact .inl (by rw [← hx1]; exact decide_eq_true (by omega))
    · by_cases h2 : 64 < l2
      · exact .inr (.inl ⟨by rw [← hx1]; exact decide_eq_false (by omega), by rw [← hx2]; exact decide_eq_true (by omega)⟩)
      · exact .inr (.inr ⟨by rw [← hx1]; exact decide_eq_false (by omega), by rw [← hx2]; exact decide_eq_false (by omega), by rw [← hx3]; exact decide_eq_true (by omega)⟩)
  clear h
  rcases hc with rfl | ⟨rfl, rfl⟩ | ⟨rfl, rfl, rfl⟩
  all_goals
    go_enter Try.func4, Try.ntmps4
    go_wp2_with fail
    refine (head_any w).mono ?_
    rintro e w0 ⟨rfl, hb⟩
    have B0 := Lib.hid hb
    have hs0 := hb.size
    clear hb
    go_wp2_with fail
    refine (new_any 4 w0).mono ?_
    rintro e w1 ⟨d, rfl, hd1, hb1⟩
    have B1 := Lib.hid (B0.out.trans (hb1.mono hs0))
    clear hd1 hb1
    go_wp2_with fail
    go_ret
    exact ⟨rfl, B1.out⟩

theorem torn_all (a1 : Option Addr) (l1 c1 : Nat) (f1 : Nat → Int) (a2 : Option Addr) (l2 c2 : Nat) (f2 : Nat → Int) (nb at' : Int) (a3 : Option Addr) (l3 c3 : Nat) (f3 : Nat → Int) (w : World)
    (r1 : Row w a1 l1 (fun i => .int .u8 (f1 i))) (w1 : ∀ i, i < l1 → (Lit.int .u8 (f1 i)).wf = true) (r2 : Row w a2 l2 (fun i => .int .u8 (f2 i))) (w2 : ∀ i, i < l2 → (Lit.int .u8 (f2 i)).wf = true)
    (wn : (Lit.int .u8 nb).wf = true) (wt : (Lit.int .u8 at').wf = true) (r3 : Row w a3 l3 (fun i => .int .u8 (f3 i))) (w3 : ∀ i, i < l3 → (Lit.int .u8 (f3 i)).wf = true) :
    Calls Try.prog 4 #[.slice a1 l1 c1, .slice a2 l2 c2, .int .u8 nb, .int .u8 at', .slice a3 l3 c3] w fun e w' => e = .returned (.bool true) ∧ Below w.heap.size w w' := by
  by_cases h : 64 < l1 ∨ 64 < l2 ∨ 64 < l3
  · exact torn_short a1 l1 c1 a2 l2 c2 nb at' a3 l3 c3 w r1.le r2.le r3.le h
  · exact torn_walk a1 l1 c1 _ a2 l2 c2 _ nb at' a3 l3 c3 _ w (bys_row r1 w1) (bys_row r2 w2) (bys_row r3 w3) (bd_u8 wn).1 (bd_u8 wn).2 (bd_u8 wt).1 (bd_u8 wt).2 (by omega) (by omega) (by omega)

end Go.Proofs.Ytpjddinbbglgmaa
