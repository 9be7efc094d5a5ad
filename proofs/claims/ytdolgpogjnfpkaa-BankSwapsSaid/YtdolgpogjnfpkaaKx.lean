/- BankSwaps. -/
import Derived.Test.YtdolgpogjnfpkaaKn
import Derived.Test.YtdolgpogjnfpkaaKw
import Derived.Deep.RegionHeld3
import Derived.Deep.RegionHeld
namespace Go.Proofs.Ytdolgpogjnfpkaa
set_option linter.unusedVariables false
set_option linter.unusedSimpArgs false
open Go.ChangeShapes Go.WideShapes Go.ChangeAt Go.RowKit

/-- Words are written and read in one, or not. -/
theorem swaps_do {R : Nat → List Nat} {L V : List Nat} (hR : R 2 = L) (hL : L.length = 40) (f q t vn : Nat) (hf0 : f ≤ 255) (ht0 : t ≤ 255) (hq1 : 1 ≤ q) (hq2 : q ≤ 125) (vs : Option Addr) (vc : Nat) (hv1 : 1 ≤ vn) (hv2 : vn ≤ 121) (hV : V.length = vn) :
    doF ⟨23, (f : Int), (q : Int), vs, vn, vc, V, (t : Int)⟩ R = if f + q ≤ 40 ∧ t + vn ≤ 40 then ((0, ((splice L t V).drop f).take q), upR R 2 (splice L t V)) else ((2, []), R) := by
  have hk : kdB 23 = 2 := rfl
  have hf : fo 23 = ⟨true, true, false, 125, 1, 121, true, true⟩ := rfl
  have h6 : (formOf 23).isSome = true := rfl
  have hmx : max ((q : Int)).toNat 1 = q := by rw [Int.toNat_natCast]; omega
  have h1 : rightR ⟨23, (f : Int), (q : Int), vs, vn, vc, V, (t : Int)⟩ = true := by
    simp [rightR, hf, h6, has, fits, isPl, sizedF, hV]; omega
  unfold doF
  rw [if_neg (by rw [h1]; simp)]
  simp only [hk, hmx]
  by_cases h2 : f + q ≤ 40
  · have p2 : plB R 2 (f : Int) q = true := by unfold plB; simp [hR, hL]; omega
    rw [if_neg (by rw [p2]; simp), if_pos trivial]
    by_cases h3 : t + vn ≤ 40
    · have p3 : plB R 2 (t : Int) vn = true := by unfold plB; simp [hR, hL]; omega
      rw [if_neg (by rw [p3]; simp), if_pos ⟨h2, h3⟩]
      have e : wrL ⟨23, (f : Int), (q : Int), vs, vn, vc, V, (t : Int)⟩ L t vn = splice L t V := by
        unfold wrL
        rw [if_neg (show ¬ (23 : Int) = 22 by decide)]
        show splice L t (V.take vn) = _
        rw [List.take_of_length_le (by omega)]
      simp only [show (2 : Int).toNat = 2 from rfl, hR, Int.toNat_natCast, e]
      simp [upR]
    · have p3 : plB R 2 (t : Int) vn = false := by unfold plB; simp [hR, hL]; omega
      rw [if_pos p3, if_neg (by omega)]
  · have p2 : plB R 2 (f : Int) q = false := by unfold plB; simp [hR, hL]; omega
    rw [if_pos p2, if_neg (by omega)]
def E3 (R : Nat → List Nat) : Prop := R 0 = [] ∧ R 1 = [] ∧ R 3 = []
theorem E3.up {R : Nat → List Nat} (h : E3 R) (L : List Nat) : E3 (upR R 2 L) := by
  obtain ⟨h0, h1, h3⟩ := h
  exact ⟨by simpa [upR] using h0, by simpa [upR] using h1, by simpa [upR] using h3⟩
theorem E3.all {R : Nat → List Nat} (h : E3 R) : allK R 4 = R 2 := by
  obtain ⟨h0, h1, h3⟩ := h
  simp [allK, h0, h1, h3]
theorem Wn.wds {W : World} {g : Nat} {L : List Nat} (h : Wn W g L) (hb : ∀ v ∈ L, v < 65536) (f m : Nat) (hf : f + m ≤ L.length) (hl : L.length ≤ 10000) : Wds W (some ⟨g, f, none⟩) m ((L.drop f).take m) := by
  refine ⟨by rw [List.length_take, List.length_drop]; omega, by unfold maxLen; omega, fun v hv => hb v (List.mem_of_mem_drop (List.mem_of_mem_take hv)), .inr ⟨g, f, rfl, blk_ltB h, fun i hi => ?_⟩⟩
  rw [(h.cell (i := f + i) (by omega)).1]
  congr 3
  simp [List.getD, List.getElem?_take_of_lt hi, List.getElem?_drop]
theorem make_z40 (w : World) : (Instr.makeSlice 30 (.int .i64 40) (.int .i64 40)).run Try.prog w = .ok (.slice (some ⟨w.heap.size, 0, none⟩) 40 40) (w.alloc (.cells (wv (List.replicate 40 0)).toArray 34 (0, 0))) := make_w 40 (by omega) w
set_option maxRecDepth 100000 in
set_option maxHeartbeats 8000000 in
theorem swaps_walk (a1 : Option Addr) (n1 c1 : Nat) (V1 : List Nat) (f q t : Nat) (hf : f ≤ 255) (hq : q ≤ 255) (ht : t ≤ 255) (a3 : Option Addr) (n3 c3 : Nat) (V3 : List Nat) (w : World) (h1 : ArgW w a1 n1 c1 V1) (h3 : ArgW w a3 n3 c3 V3) :
    Calls Try.prog 7 #[.slice a1 n1 c1, .int .u8 (f : Int), .int .u8 (q : Int), .int .u8 (t : Int), .slice a3 n3 c3] w (BoolB w true) := by
  obtain ⟨P, hP⟩ : ∃ P, P = (BoolB w true : Ending → World → Prop) := ⟨_, rfl⟩
  rw [← hP]
  have FIN : Hid (∀ W', Below w.heap.size w W' → P (.returned (.bool true)) W') := Lib.hid (fun W' h => by rw [hP]; exact ⟨rfl, h⟩)
  have H1 := Lib.hid h1
  have H3 := Lib.hid h3
  have hl1 := h1.row.le
  unfold maxLen at hl1
  have u0 : IntKind.i64.wrap (f : Int) = (f : Int) := IntWalk.i64_in _ (by omega)
  have u1 : IntKind.i64.wrap (q : Int) = (q : Int) := IntWalk.i64_in _ (by omega)
  have u9 : IntKind.i64.wrap (t : Int) = (t : Int) := IntWalk.i64_in _ (by omega)
  clear hP h1 h3
  go_enter Try.func7, Try.ntmps7
  go_wp2_with fail
  refine (head_any w).mono ?_
  rintro e w0 ⟨rfl, z0⟩
  have B0 := Lib.hid z0
  clear z0
  go_wp2_with fail
  refine (newb_any 0 0 40 0 w0).mono ?_
  rintro e w1 ⟨p, s, rfl, nn1, z1⟩
  obtain ⟨R0, hR0⟩ : ∃ R : Nat → List Nat, R = (fun j => List.replicate (clB (n4 0 0 40 0 j)) 0) := ⟨_, rfl⟩
  rw [← hR0] at nn1
  have h02 : R0 2 = List.replicate 40 0 := by rw [hR0]; rfl
  have e30 : E3 R0 := by rw [hR0]; exact ⟨rfl, rfl, rfl⟩
  have E30 := Lib.hid e30
  have N1 := Lib.hid nn1
  have B1 := Lib.hid (B0.out.trans (z1.mono B0.out.size))
  have H02 := Lib.hid h02
  have S0 := Lib.hid B0.out.size
  clear nn1 z1 hR0 h02 e30
  by_cases hz3 : n3 = 0
  · subst hz3
    go_wp2_with fail
    exact FIN.out _ B1.out
  have d2 : ((n3 : Int) == 0) = false := by simp; omega
  by_cases h123 : 121 < n3
  · have d1 : decide ((121 : Int) < (n3 : Int)) = true := by simp; omega
    clear h123
    go_wp2_with fail
    exact FIN.out _ B1.out
  have d1 : decide ((121 : Int) < (n3 : Int)) = false := by simp; omega
  by_cases hq0 : q = 0
  · subst hq0
    clear h123
    go_wp2_with fail
    exact FIN.out _ B1.out
  have d3 : ((q : Int) == 0) = false := by simp; omega
  by_cases hq5 : 125 < q
  · have d4 : decide ((125 : Int) < (q : Int)) = true := by simp; omega
    clear h123 hq5
    go_wp2_with fail
    exact FIN.out _ B1.out
  have d4 : decide ((125 : Int) < (q : Int)) = false := by simp; omega
  have hmk := make_z40 w1
  have al := alloc_bq w1 (.cells (wv (List.replicate 40 0)).toArray 34 (0, 0))
  have gB := bl_not N1.out (y := w1.heap.size) (Nat.le_refl _)
  have gp : p ≠ w1.heap.size := by have := blk_ltB N1.out.blk; omega
  have wn0 : Wn (w1.alloc (.cells (wv (List.replicate 40 0)).toArray 34 (0, 0))) w1.heap.size (List.replicate 40 0) := heap_alloc_new w1 _
  have nB := N1.out.below al
  have bB := B1.out.trans (al.mono B1.out.size)
  have gw : w.heap.size ≤ w1.heap.size := B1.out.size
  obtain ⟨g, hg⟩ : ∃ g, g = w1.heap.size := ⟨_, rfl⟩
  obtain ⟨W2, hW2⟩ : ∃ W, W = w1.alloc (.cells (wv (List.replicate 40 0)).toArray 34 (0, 0)) := ⟨_, rfl⟩
  rw [← hg] at gB gp wn0 hmk gw
  rw [← hW2] at wn0 nB bB hmk
  have GB := Lib.hid gB
  have GP := Lib.hid gp
  have GW := Lib.hid gw
  have WN0 := Lib.hid wn0
  have NB0 := Lib.hid nB
  have BB0 := Lib.hid bB
  clear al gB gp wn0 nB bB hg hW2 gw h123 hq5
  go_wp2_with fail
  clear hmk
  go_loopw [14] (fun i wr => ∃ (k : Nat) (R : Nat → List Nat) (L : List Nat), i = .int .i64 k ∧ k ≤ n1 ∧ k ≤ 40 ∧ L.length = 40 ∧ R 2 = L ∧ E3 R ∧ Bn w0.heap.size wr p s R ∧ Wn wr g L ∧ Below w.heap.size w wr) (fun i _ => n1 - (intOf i).toNat)
  case atStart => exact ⟨0, R0, List.replicate 40 0, rfl, Nat.zero_le _, Nat.zero_le _, by simp, H02.out, E30.out, NB0.out, WN0.out, BB0.out⟩
  case round =>
    obtain ⟨k, R, L, rfl, hk1, hkn, hL, hR, hE, hN, hW, hb⟩ := hrel
    have HE := Lib.hid hE
    obtain ⟨w4, hw4⟩ : ∃ w4, w4 = wr := ⟨_, rfl⟩
    subst hw4
    have HN := Lib.hid hN
    have HW := Lib.hid hW
    have HB := Lib.hid hb
    have HR := Lib.hid hR
    have HL := Lib.hid hL
    clear hN hW hb hR hL hE
    by_cases hlt : k < n1 ∧ k < 40
    · obtain ⟨l1, l2⟩ := hlt
      obtain ⟨b, off, rfl, hlb, hc⟩ := H1.out.row.pos (by omega)
      have c0 := hc k l1
      have hv := wgetD_lt (H1.out.row.by') k
      generalize V1.getD k 0 = v at c0 hv
      have HC := Lib.hid (fun W (hb : Below w.heap.size w W) => (hb.cell (p := ⟨b, off + k, none⟩) hlb).trans c0)
      have c4 := HC.out w4 HB.out
      have e1 : (k : Int) < (n1 : Int) := by omega
      have e2 : (k : Int) < 40 := by omega
      have p1 : plB R 2 (k : Int) 1 = true := by unfold plB; simp [HR.out, HL.out]; omega
      have PU := putb_any HN.out 2 (k : Int) v (by omega) hv
      unfold PutB at PU
      rw [show putB R 2 (k : Int) v = upR R 2 (L.set k v) by unfold putB capV; rw [p1]; simp [HR.out], p1] at PU
      clear hc p1 c0 hlb
      go_wp2_with fail
      refine PU.mono ?_
      rintro e w5 ⟨rfl, n5, f5⟩
      have W5 := HW.out.fw f5 GB.out
      have b5 := HB.out.trans ((HN.out.step f5).mono S0.out)
      obtain ⟨cg, fg⟩ := W5.cell (i := k) (by rw [HL.out]; exact l2)
      have c5 := HC.out w5 b5
      have FF := Lib.hid (And.intro (n5.one (y := g) GP.out (bl_ne GB.out) k (.int .u16 (v : Int))) (And.intro (W5.set k v) (show Below w.heap.size w (w5.setCell ⟨g, k, none⟩ (.int .u16 (v : Int))) from b5.setCell GW.out _)))
      clear n5 f5 W5 b5 PU
      go_wp2_with fail
      go_roundw
      case rel => exact ⟨k + 1, _, L.set k v, by go_num, by omega, by omega, by rw [List.length_set]; exact HL.out, by simp [upR], HE.out.up _, FF.out.1, FF.out.2.1, FF.out.2.2⟩
      case measure => simp [intOf]; omega
    · have hd : n1 = k ∨ ((k : Int) < (n1 : Int) ∧ 40 = k) := by omega
      have n3b : n3 ≤ 121 := by simp at d1; omega
      have hdo := swaps_do HR.out HL.out f q t n3 hf ht (by omega) (by simp at d4; omega) a3 c3 (by omega) n3b H3.out.row.ln
      have DO := do_any HN.out ⟨23, (f : Int), (q : Int), a3, n3, c3, V3, (t : Int)⟩ ⟨H3.out.below HB.out, (show (Lit.int .i64 23).wf = true by decide), wf_i64 (by show (-9223372036854775808 : Int) ≤ (f : Int); omega) (by show (f : Int) ≤ (9223372036854775807 : Int); omega), wf_i64 (by show (-9223372036854775808 : Int) ≤ (q : Int); omega) (by show (q : Int) ≤ (9223372036854775807 : Int); omega), wf_i64 (by show (-9223372036854775808 : Int) ≤ (t : Int); omega) (by show (t : Int) ≤ (9223372036854775807 : Int); omega)⟩
      have u2 : IntKind.i64.wrap ((f : Int) + (q : Int)) = (f : Int) + (q : Int) := IntWalk.i64_in _ (by omega)
      have u4 : IntKind.i64.wrap ((t : Int) + (n3 : Int)) = (t : Int) + (n3 : Int) := IntWalk.i64_in _ (by omega)
      have hl3 := H3.out.row.ln
      have HL3 := Lib.hid hl3
      have q125 : q ≤ 125 := by simp at d4; omega
      clear hl3
      by_cases hfit : f + q ≤ 40 ∧ t + n3 ≤ 40
      · rw [hdo, if_pos hfit] at DO
        have HDO := Lib.hid DO
        have e5 : decide ((40 : Int) < (f : Int) + (q : Int)) = false := by simp; omega
        have e6 : decide ((40 : Int) < (t : Int) + (n3 : Int)) = false := by simp; omega
        have LSP : Hid ((splice L t V3).length = 40) := Lib.hid (by rw [length_splice _ _ _ (by have := HL3.out; rw [HL.out]; omega)]; exact HL.out)
        obtain ⟨LF, hLF⟩ : ∃ l, l = splice L t V3 := ⟨_, rfl⟩
        have HLF := Lib.hid hLF
        rw [← hLF] at HDO LSP
        obtain ⟨V5, hV5⟩ : ∃ l, l = (LF.drop f).take q := ⟨_, rfl⟩
        have HV5 := Lib.hid hV5
        rw [← hV5] at HDO
        obtain ⟨R', hR'⟩ : ∃ r, r = upR R 2 LF := ⟨_, rfl⟩
        have HR2 := Lib.hid (show R' 2 = LF by rw [hR']; simp [upR])
        have HE' := Lib.hid (show E3 R' by rw [hR']; exact HE.out.up _)
        rw [← hR'] at HDO
        clear hdo DO hlt d1 hLF hV5 hR'
        rcases hd with hd1 | ⟨hd1, hd2⟩
        all_goals
          first | subst hd2 | subst hd1
          go_wp2_with fail
          refine HDO.out.mono ?_
          rintro e w5 ⟨a5, n5', c5, rfl, A5, n5, f5, fr5⟩
          simp only at A5 n5 ⊢
          have W5 := HW.out.fw f5 GB.out
          have b5 := HB.out.trans ((HN.out.step f5).mono S0.out)
          have al := alloc_bq w5 (.cells #[.int .i64 0, .slice a5 n5' c5] 40 (0, 0))
          have gne : w5.heap.size ≠ g := by have := blk_ltB W5; omega
          have glt := blk_ltB HW.out
          have AG := Lib.hid (fun b off (e : a5 = some ⟨b, off, none⟩) => show b ∉ [g] by have := fr5 b off e; simp; omega)
          obtain ⟨g6, hg6⟩ : ∃ q, q = w5.heap.size := ⟨_, rfl⟩
          obtain ⟨W6, hW6⟩ : ∃ W, W = w5.alloc (.cells #[.int .i64 0, .slice a5 n5' c5] 40 (0, 0)) := ⟨_, rfl⟩
          have x6 : W6.heap[g6]? = some (.cells #[.int .i64 0, .slice a5 n5' c5] 40 (0, 0)) := by rw [hg6, hW6]; exact heap_alloc_new w5 _
          rw [← hW6] at al
          rw [← hg6] at gne
          have GNE := Lib.hid gne
          have X6 := Lib.hid x6
          have A6 := Lib.hid (A5.below al)
          have N6 := Lib.hid (n5.below al)
          have WW6 := Lib.hid (W5.below al)
          have B6 := Lib.hid (b5.trans (al.mono b5.size))
          have HG6 := Lib.hid hg6
          have HW6 := Lib.hid hW6
          clear n5 f5 W5 b5 al gne x6 hg6 hW6 A5 HDO fr5 glt
          go_upto_region 12 with fail
          rw [← HW6.out, ← HG6.out]
          go_wp2_with fail
          go_loopw [16] (fun i wr => ∃ k : Nat, i = .int .i64 k ∧ k ≤ n3 ∧ Bn w0.heap.size wr p s R' ∧ Wn wr g (splice L t (V3.take k)) ∧ wr.heap[g6]? = some (.cells #[.int .i64 0, .slice a5 n5' c5] 40 (0, 0)) ∧ ArgW wr a5 n5' c5 V5 ∧ Below w.heap.size w wr) (fun i _ => n3 - (intOf i).toNat)
          case atStart => exact ⟨0, rfl, Nat.zero_le _, N6.out, by simpa [splice] using WW6.out, X6.out, A6.out, B6.out⟩
          case round =>
            obtain ⟨j, rfl, hj, hN, hW, hX, hA, hb⟩ := hrel
            obtain ⟨w7, hw7⟩ : ∃ w7, w7 = wr := ⟨_, rfl⟩
            subst hw7
            by_cases hjn : j < n3
            · obtain ⟨b, off, rfl, hlb, hc⟩ := H3.out.row.pos (by omega)
              have c0 := (hb.cell (p := ⟨b, off + j, none⟩) hlb).trans (hc j hjn)
              have e1 : (j : Int) < (n3 : Int) := by omega
              have hln := HL3.out
              have hsl := spl_snoc L V3 t j (by omega) (by rw [HL.out]; omega)
              have lsp : (splice L t (V3.take j)).length = 40 := by rw [length_splice _ _ _ (by rw [List.length_take, HL.out]; omega)]; exact HL.out
              obtain ⟨cg, fg⟩ := hW.cell (i := t + j) (by rw [lsp]; omega)
              have hW2 := hW.set (t + j) (V3.getD j 0)
              rw [hsl] at hW2
              generalize V3.getD j 0 = v at c0 hW2
              generalize (splice L t (V3.take j)).getD (t + j) 0 = v2 at cg
              have FF := Lib.hid (And.intro (hN.one (y := g) GP.out (bl_ne GB.out) (t + j) (.int .u16 (v : Int))) (And.intro hW2 (And.intro ((Below.heap_setCell w7 ⟨g, t + j, none⟩ (.int .u16 (v : Int)) g6 GNE.out).trans hX) (And.intro (hA.fw (Fw.set w7 g (t + j) (.int .u16 (v : Int))) AG.out) (show Below w.heap.size w (w7.setCell ⟨g, t + j, none⟩ (.int .u16 (v : Int))) from hb.setCell GW.out _)))))
              have u3 : IntKind.i64.wrap ((t : Int) + (j : Int)) = ((t + j : Nat) : Int) := by rw [show ((t : Int) + (j : Int)) = ((t + j : Nat) : Int) by omega]; exact IntWalk.i64_in _ (by omega)
              have e4 : ((t + j : Nat) : Int) < 40 := by omega
              clear hN hW hX hb hc hsl lsp hW2 hln hA
              go_wp2_with fail
              go_roundw
              case rel => exact ⟨j + 1, by go_num, by omega, FF.out.1, FF.out.2.1, FF.out.2.2.1, FF.out.2.2.2.1, FF.out.2.2.2.2⟩
              case measure => simp [intOf]; omega
            · have hk' : n3 = j := by omega
              subst hk'
              rw [List.take_of_length_le (by have := HL3.out; omega), ← HLF.out] at hW
              have NF := Lib.hid hN
              have WF := Lib.hid hW
              have XF := Lib.hid hX
              have BF := Lib.hid hb
              have AF := Lib.hid hA
              have LWD : Hid (∀ v ∈ LF, v < 65536) := Lib.hid (by have := hN.wd 2 (by omega); rw [HR2.out] at this; exact this)
              clear hN hW hX hb hA
              obtain rfl : n5' = q := by
                have h1 := AF.out.row.ln
                rw [HV5.out, List.length_take, List.length_drop, LSP.out] at h1
                omega
              have KS := Lib.hid (fun W' (h : Gd w7 W') => cells2q (low_of h XF.out))
              have S1 := Lib.hid (fun W' (h : Gd w7 W') => show Calls Try.prog 25 #[.slice a5 n5' c5, .slice (some ⟨g, f, none⟩) n5' (40 - f)] W' (fun e w' => e = .returned (.bool true) ∧ Below W'.heap.size W' w') by
                have := samevals_any a5 n5' c5 V5 (some ⟨g, f, none⟩) n5' (40 - f) V5 W' (AF.out.below h).row (by rw [HV5.out]; exact (WF.out.below h).wds LWD.out f n5' (by rw [LSP.out]; omega) (by rw [LSP.out]; omega))
                rw [decide_eq_true rfl] at this
                exact this)
              have S2 := Lib.hid (fun W' (h : Gd w7 W') => show Calls Try.prog 22 #[.pointer (some ⟨p, 0, none⟩)] W' (AllP W' LF) by
                have := all_any (NF.out.below h)
                rw [HE'.out.all, HR2.out] at this
                exact this)
              have S3 := Lib.hid (fun W' (h : Gd w7 W') a n c (hA : ArgW W' a n c LF) => show Calls Try.prog 25 #[.slice a n c, .slice (some ⟨g, 0, none⟩) 40 40] W' (fun e w' => e = .returned (.bool true) ∧ Below W'.heap.size W' w') by
                have hw := (WF.out.below h).wds LWD.out 0 40 (by rw [LSP.out]; omega) (by rw [LSP.out]; omega)
                rw [List.drop_zero, List.take_of_length_le (by rw [LSP.out]; omega)] at hw
                have := samevals_any a n c LF (some ⟨g, 0, none⟩) 40 40 LF W' hA.row hw
                rw [decide_eq_true rfl] at this
                exact this)
              have g0 : Gd w7 w7.drew := (Below.refl _ _).drew
              have b1 : IntKind.u8.wrap ((f : Int) + (n5' : Int)) = ((f + n5' : Nat) : Int) := by simp [IntKind.wrap, IntKind.bits, IntKind.signed]; omega
              have b2 : ((f + n5' : Nat) : Int) ≤ 40 := by omega
              have b3 : (f : Int) ≤ ((f + n5' : Nat) : Int) := by omega
              have b4 : f + n5' - f = n5' := by omega
              have b5 : ¬ 40 = f := by omega
              go_upto_region 18 with fail
              go_region_held (fun w' => w'.cell? ⟨g6, 0, none⟩ = some (.int .i64 0) ∧ w'.cell? ⟨g6, 1, none⟩ = some (.slice a5 n5' c5)) (with_reducible first | exact KS.out _ q9 | exact KS.out _ q8 | exact KS.out _ q7 | exact KS.out _ g0) (first
                | (go_at_call 22; refine (S2.out _ q7).mono ?_; rintro e w8 ⟨a8, n8, c8, rfl, A8, z8⟩; have q8 : Gd w7 w8 := Gd.step q7 z8)
                | (go_at_call 25; refine (S3.out _ q8 a8 n8 c8 A8).mono ?_; rintro e w9 ⟨rfl, z9⟩; have q9 : Gd w7 w9 := Gd.step q8 z9)
                | (go_at_call 25; refine (S1.out _ g0).mono ?_; rintro e wz ⟨rfl, z7⟩; have q7 : Gd w7 wz := Gd.step g0 z7))
              all_goals
                go_wp2_with fail
                exact FIN.out _ (BF.out.trans (Below.mono q9 BF.out.size))
      · rw [hdo, if_neg hfit] at DO
        have HDO := Lib.hid DO
        have hb40 : (40 < f + q) ∨ (¬ 40 < f + q ∧ 40 < t + n3) := by omega
        have LWD : Hid (∀ v ∈ L, v < 65536) := Lib.hid (by have := HN.out.wd 2 (by omega); rw [HR.out] at this; exact this)
        clear hdo DO hlt d1 hfit
        rcases hd with hd1 | ⟨hd1, hd2⟩
        all_goals
          first | subst hd2 | subst hd1
          go_wp2_with fail
          refine HDO.out.mono ?_
          rintro e w5 ⟨a5, n5', c5, rfl, A5, n5, f5, fr5⟩
          simp only at A5 n5 ⊢
          have W5 := HW.out.fw f5 GB.out
          have b5 := HB.out.trans ((HN.out.step f5).mono S0.out)
          have al := alloc_bq w5 (.cells #[.int .i64 2, .slice a5 n5' c5] 40 (0, 0))
          obtain ⟨g6, hg6⟩ : ∃ q, q = w5.heap.size := ⟨_, rfl⟩
          obtain ⟨W6, hW6⟩ : ∃ W, W = w5.alloc (.cells #[.int .i64 2, .slice a5 n5' c5] 40 (0, 0)) := ⟨_, rfl⟩
          have x6 : W6.heap[g6]? = some (.cells #[.int .i64 2, .slice a5 n5' c5] 40 (0, 0)) := by rw [hg6, hW6]; exact heap_alloc_new w5 _
          rw [← hW6] at al
          have X6 := Lib.hid x6
          have N6 := Lib.hid (n5.below al)
          have WW6 := Lib.hid (W5.below al)
          have B6 := Lib.hid (b5.trans (al.mono b5.size))
          have HG6 := Lib.hid hg6
          have HW6 := Lib.hid hW6
          have AA := all_any N6.out
          rw [HE.out.all, HR.out] at AA
          have HAA := Lib.hid AA
          obtain ⟨c0, c1⟩ := cells2q x6
          clear n5 f5 W5 b5 al x6 hg6 hW6 A5 HDO fr5 AA
          go_upto_region 12 with fail
          rw [← HW6.out, ← HG6.out]
          have hb40 : decide ((40 : Int) < (f : Int) + (q : Int)) = true ∨ (decide ((40 : Int) < (f : Int) + (q : Int)) = false ∧ decide ((40 : Int) < (t : Int) + (n3 : Int)) = true) := by simp; omega
          rcases hb40 with hb1 | ⟨hb1, hb2⟩
          all_goals
            go_wp2_with fail
            refine HAA.out.mono ?_
            rintro e w8 ⟨a8, n8, c8, rfl, A8, z8⟩
            have hw := (WW6.out.below z8).wds LWD.out 0 40 (by rw [HL.out]; omega) (by rw [HL.out]; omega)
            rw [List.drop_zero, List.take_of_length_le (by rw [HL.out]; omega)] at hw
            have SM := samevals_any a8 n8 c8 L (some ⟨g, 0, none⟩) 40 40 L w8 A8.row hw
            have B8 := Lib.hid (B6.out.trans (z8.mono B6.out.size))
            clear A8 z8 hw
            go_wp2_with fail
            refine SM.mono ?_
            rintro e w9 ⟨rfl, z9⟩
            have B9 := Lib.hid (B8.out.trans (z9.mono B8.out.size))
            clear z9 SM
            go_wp2_with fail
            exact FIN.out _ B9.out
theorem swaps_all (a1 : Option Addr) (n1 c1 : Nat) (V1 : List Nat) (f q t : Int) (wf : (Lit.int .u8 f).wf = true) (wq : (Lit.int .u8 q).wf = true) (wt : (Lit.int .u8 t).wf = true) (a3 : Option Addr) (n3 c3 : Nat) (V3 : List Nat) (w : World) (h1 : ArgW w a1 n1 c1 V1) (h3 : ArgW w a3 n3 c3 V3) :
    Calls Try.prog 7 #[.slice a1 n1 c1, .int .u8 f, .int .u8 q, .int .u8 t, .slice a3 n3 c3] w (BoolB w true) := by
  have h0 := bd_u8 wf
  have h2 := bd_u8 wq
  have h4 := bd_u8 wt
  obtain ⟨f, rfl⟩ : ∃ k : Nat, f = (k : Int) := ⟨f.toNat, by omega⟩
  obtain ⟨q, rfl⟩ : ∃ k : Nat, q = (k : Int) := ⟨q.toNat, by omega⟩
  obtain ⟨t, rfl⟩ : ∃ k : Nat, t = (k : Int) := ⟨t.toNat, by omega⟩
  exact swaps_walk a1 n1 c1 V1 f q t (by omega) (by omega) (by omega) a3 n3 c3 V3 w h1 h3
end Go.Proofs.Ytdolgpogjnfpkaa
