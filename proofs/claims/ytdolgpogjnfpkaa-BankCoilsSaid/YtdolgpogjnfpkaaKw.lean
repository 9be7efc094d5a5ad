/- BankWrites. -/
import Derived.Test.YtdolgpogjnfpkaaKh
namespace Go.Proofs.Ytdolgpogjnfpkaa
set_option linter.unusedVariables false
set_option linter.unusedSimpArgs false
open Go.ChangeShapes Go.WideShapes Go.ChangeAt Go.RowKit

/-- Many words are written, or not. -/
theorem writes_do {R : Nat → List Nat} {L V : List Nat} (hR : R 2 = L) (hL : L.length ≤ 255) (ad vn : Nat) (vs : Option Addr) (vc : Nat) (hv1 : 1 ≤ vn) (hv2 : vn ≤ 123) (hV : V.length = vn) :
    ∃ c R', doF ⟨16, (ad : Int), (vn : Int), vs, vn, vc, V, 0⟩ R = ((c, []), R') ∧ (c == 0) = decide (ad + vn ≤ L.length) ∧ R' 2 = if ad + vn ≤ L.length then splice L ad V else L := by
  have hk : kdB 16 = 2 := rfl
  have hf : fo 16 = ⟨false, true, false, 123, 1, 123, true, false⟩ := rfl
  have h6 : (formOf 16).isSome = true := rfl
  have hmx : max ((vn : Int)).toNat 1 = vn := by rw [Int.toNat_natCast]; omega
  by_cases hfit : ad + vn ≤ L.length
  · have h1 : rightR ⟨16, (ad : Int), (vn : Int), vs, vn, vc, V, 0⟩ = true := by
      simp [rightR, hf, h6, has, fits, isPl, sizedF, hV]; omega
    have h2 : plB R (kdB 16) (ad : Int) (max ((vn : Int)).toNat 1) = true := by
      unfold plB; rw [hk, hmx]; simp [hR]; omega
    refine ⟨0, upR R 2 (splice L ad V), ?_, by simp [hfit], by rw [if_pos hfit]; simp [upR]⟩
    rw [doF_ok h1 h2 (show (16 : Int) ≠ 23 by decide)]
    have hmx2 : max vn 1 = vn := by omega
    simp only [hk, hf, hmx, show (2 : Int).toNat = 2 from rfl, hR, Int.toNat_natCast, hmx2]
    have e : wrL ⟨16, (ad : Int), (vn : Int), vs, vn, vc, V, 0⟩ L ad vn = splice L ad V := by
      unfold wrL
      rw [if_neg (show ¬ (16 : Int) = 22 by decide)]
      show splice L ad (V.take vn) = _
      rw [List.take_of_length_le (by omega)]
    rw [e]
    simp
  · by_cases hr : ad + vn ≤ 65536 ∧ ad < 65536
    · have h1 : rightR ⟨16, (ad : Int), (vn : Int), vs, vn, vc, V, 0⟩ = true := by
        simp [rightR, hf, h6, has, fits, isPl, sizedF, hV]; omega
      have h2 : plB R (kdB 16) (ad : Int) (max ((vn : Int)).toNat 1) = false := by
        unfold plB; rw [hk, hmx]; simp [hR]; omega
      exact ⟨2, R, doF_no h1 h2, by simp [hfit], by rw [if_neg hfit]; exact hR⟩
    · have h1 : rightR ⟨16, (ad : Int), (vn : Int), vs, vn, vc, V, 0⟩ = false := by
        rw [Bool.eq_false_iff]
        intro e
        simp [rightR, hf, h6, has, fits, isPl, sizedF, hV] at e
        omega
      refine ⟨3, R, ?_, by simp [hfit], by rw [if_neg hfit]; exact hR⟩
      unfold doF
      rw [if_pos h1]
theorem getD_spl (L F : List Nat) (o t : Nat) (h : o + F.length ≤ L.length) : (splice L o F).getD t 0 = if o ≤ t ∧ t < o + F.length then F.getD (t - o) 0 else L.getD t 0 := by
  unfold splice
  by_cases h1 : t < o
  · rw [if_neg (by omega)]
    simp only [List.getD, List.getElem?_append, List.length_take]
    rw [if_pos (by omega), List.getElem?_take_of_lt h1]
  · by_cases h2 : t < o + F.length
    · rw [if_pos ⟨by omega, h2⟩]
      simp only [List.getD, List.getElem?_append, List.length_take]
      rw [if_neg (by omega), if_pos (by omega)]
      congr 2; omega
    · rw [if_neg (by omega)]
      simp only [List.getD, List.getElem?_append, List.length_take]
      rw [if_neg (by omega), if_neg (by omega), List.getElem?_drop]
      congr 2; omega
theorem ext_gD {L M : List Nat} (hl : L.length = M.length) (h : ∀ k, k < L.length → L.getD k 0 = M.getD k 0) : L = M := by
  apply List.ext_getElem hl
  intro k h1 h2
  have := h k h1
  simpa [List.getD, List.getElem?_eq_getElem h1, List.getElem?_eq_getElem h2] using this
theorem getD_set' (L : List Nat) (i x t : Nat) (hi : i < L.length) : (L.set i x).getD t 0 = if t = i then x else L.getD t 0 := by
  by_cases h : t = i
  · subst h; simp [List.getD, List.getElem?_set, hi]
  · rw [if_neg h]; simp [List.getD, List.getElem?_set, Ne.symm h]
theorem getD_take' (l : List Nat) (q j : Nat) : (l.take q).getD j 0 = if j < q then l.getD j 0 else 0 := by
  by_cases h : j < q
  · rw [if_pos h]; simp [List.getD, List.getElem?_take_of_lt h]
  · rw [if_neg h]; simp [List.getD, List.getElem?_take_eq_none (Nat.not_lt.1 h)]
theorem spl_snoc (L V : List Nat) (o k : Nat) (hk : k < V.length) (h : o + V.length ≤ L.length) : (splice L o (V.take k)).set (o + k) (V.getD k 0) = splice L o (V.take (k + 1)) := by
  have l1 : (V.take k).length = k := by rw [List.length_take]; omega
  have l2 : (V.take (k + 1)).length = k + 1 := by rw [List.length_take]; omega
  have f1 : o + (V.take k).length ≤ L.length := by omega
  have f2 : o + (V.take (k + 1)).length ≤ L.length := by omega
  apply ext_gD
  · rw [List.length_set, length_splice _ _ _ f1, length_splice _ _ _ f2]
  · intro t ht
    rw [getD_set' _ _ _ _ (by rw [length_splice _ _ _ f1]; omega), getD_spl _ _ _ _ f1, getD_spl _ _ _ _ f2, l1, l2, getD_take', getD_take']
    by_cases e : t = o + k
    · subst e
      rw [if_pos rfl, if_pos (by omega), if_pos (by omega)]
      congr 1; omega
    · rw [if_neg e]
      by_cases e2 : o ≤ t ∧ t < o + k
      · rw [if_pos e2, if_pos (by omega), if_pos (by omega), if_pos (by omega)]
      · rw [if_neg e2, if_neg (by omega)]
set_option maxRecDepth 100000 in
set_option maxHeartbeats 8000000 in
theorem writes_walk (n : Nat) (hn : n ≤ 255) (a1 : Option Addr) (n1 c1 : Nat) (V1 : List Nat) (ad : Nat) (had : ad < 65536) (a3 : Option Addr) (n3 c3 : Nat) (V3 : List Nat) (w : World) (h1 : ArgW w a1 n1 c1 V1) (h3 : ArgW w a3 n3 c3 V3) :
    Calls Try.prog 4 #[.int .u8 (n : Int), .slice a1 n1 c1, .int .u16 (ad : Int), .slice a3 n3 c3] w (BoolB w true) := by
  obtain ⟨P, hP⟩ : ∃ P, P = (BoolB w true : Ending → World → Prop) := ⟨_, rfl⟩
  rw [← hP]
  have FIN : Hid (∀ W', Below w.heap.size w W' → P (.returned (.bool true)) W') := Lib.hid (fun W' h => by rw [hP]; exact ⟨rfl, h⟩)
  have H1 := Lib.hid h1
  have H3 := Lib.hid h3
  have hl1 := h1.row.le
  unfold maxLen at hl1
  have u0 : IntKind.i64.wrap (n : Int) = (n : Int) := IntWalk.i64_in _ (by omega)
  have u1 : IntKind.i64.wrap (ad : Int) = (ad : Int) := IntWalk.i64_in _ (by omega)
  clear hP h1 h3
  go_enter Try.func4, Try.ntmps4
  go_wp2_with fail
  refine (head_any w).mono ?_
  rintro e w0 ⟨rfl, z0⟩
  have B0 := Lib.hid z0
  clear z0
  go_wp2_with fail
  refine (newb_any 0 0 (n : Int) 0 w0).mono ?_
  rintro e w1 ⟨p, s, rfl, nn1, z1⟩
  obtain ⟨R0, hR0⟩ : ∃ R : Nat → List Nat, R = (fun j => List.replicate (clB (n4 0 0 (n : Int) 0 j)) 0) := ⟨_, rfl⟩
  rw [← hR0] at nn1
  have h02 : R0 2 = List.replicate n 0 := by
    rw [hR0]
    show List.replicate (clB (n : Int)) 0 = _
    congr 1
    unfold clB
    rw [if_neg (by omega), if_pos (by omega)]; simp
  have N1 := Lib.hid nn1
  have B1 := Lib.hid (B0.out.trans (z1.mono B0.out.size))
  have H02 := Lib.hid h02
  have S0 := Lib.hid B0.out.size
  clear nn1 z1 hR0 h02
  by_cases h123 : 123 < n3
  · have d1 : decide ((123 : Int) < (n3 : Int)) = true := by simp; omega
    clear h123
    go_wp2_with fail
    exact FIN.out _ B1.out
  have d1 : decide ((123 : Int) < (n3 : Int)) = false := by simp; omega
  by_cases hz3 : n3 = 0
  · subst hz3
    clear h123
    go_wp2_with fail
    exact FIN.out _ B1.out
  have d2 : ((n3 : Int) == 0) = false := by simp; omega
  have hmk := make_w n (by omega) w1
  have al := alloc_bq w1 (.cells (wv (List.replicate n 0)).toArray 34 (0, 0))
  have gB := bl_not N1.out (y := w1.heap.size) (Nat.le_refl _)
  have gp : p ≠ w1.heap.size := by have := blk_ltB N1.out.blk; omega
  have wn0 : Wn (w1.alloc (.cells (wv (List.replicate n 0)).toArray 34 (0, 0))) w1.heap.size (List.replicate n 0) := heap_alloc_new w1 _
  have nB := N1.out.below al
  have bB := B1.out.trans (al.mono B1.out.size)
  have gw : w.heap.size ≤ w1.heap.size := B1.out.size
  obtain ⟨g, hg⟩ : ∃ g, g = w1.heap.size := ⟨_, rfl⟩
  obtain ⟨W2, hW2⟩ : ∃ W, W = w1.alloc (.cells (wv (List.replicate n 0)).toArray 34 (0, 0)) := ⟨_, rfl⟩
  rw [← hg] at gB gp wn0 hmk gw
  rw [← hW2] at wn0 nB bB hmk
  have GB := Lib.hid gB
  have GP := Lib.hid gp
  have GW := Lib.hid gw
  have WN0 := Lib.hid wn0
  have NB0 := Lib.hid nB
  have BB0 := Lib.hid bB
  clear al gB gp wn0 nB bB hg hW2 gw h123
  go_wp2_with fail
  clear hmk
  go_loopw [13] (fun i wr => ∃ (k : Nat) (R : Nat → List Nat) (L : List Nat), i = .int .i64 k ∧ k ≤ n1 ∧ k ≤ n ∧ L.length = n ∧ R 2 = L ∧ Bn w0.heap.size wr p s R ∧ Wn wr g L ∧ Below w.heap.size w wr) (fun i _ => n1 - (intOf i).toNat)
  case atStart => exact ⟨0, R0, List.replicate n 0, rfl, Nat.zero_le _, Nat.zero_le _, by simp, H02.out, NB0.out, WN0.out, BB0.out⟩
  case round =>
    obtain ⟨k, R, L, rfl, hk1, hkn, hL, hR, hN, hW, hb⟩ := hrel
    obtain ⟨w4, hw4⟩ : ∃ w4, w4 = wr := ⟨_, rfl⟩
    subst hw4
    have HN := Lib.hid hN
    have HW := Lib.hid hW
    have HB := Lib.hid hb
    have HR := Lib.hid hR
    have HL := Lib.hid hL
    clear hN hW hb hR hL
    by_cases hlt : k < n1 ∧ k < n
    · obtain ⟨l1, l2⟩ := hlt
      obtain ⟨b, off, rfl, hlb, hc⟩ := H1.out.row.pos (by omega)
      have c0 := hc k l1
      have hv := wgetD_lt (H1.out.row.by') k
      generalize V1.getD k 0 = v at c0 hv
      have HC := Lib.hid (fun W (hb : Below w.heap.size w W) => (hb.cell (p := ⟨b, off + k, none⟩) hlb).trans c0)
      have c4 := HC.out w4 HB.out
      have e1 : (k : Int) < (n1 : Int) := by omega
      have e2 : (k : Int) < (n : Int) := by omega
      have p1 : plB R 2 (k : Int) 1 = true := by unfold plB; simp [HR.out, HL.out]; omega
      have PU := putb_any HN.out 2 (k : Int) v (by omega) hv
      unfold PutB at PU
      rw [show putB R 2 (k : Int) v = upR R 2 (L.set k v) by unfold putB capV; rw [p1]; simp [HR.out], p1] at PU
      clear hc p1 c0 hlb
      go_wp2_with fail
      refine PU.mono ?_
      rintro e w5 ⟨rfl, n5, f5⟩
      have W5 := HW.out.fw f5 GB.out
      have b5 := HB.out.trans ((HN.out.step f5).mono S0.out)
      obtain ⟨cg, fg⟩ := W5.cell (i := k) (by rw [HL.out]; exact l2)
      have c5 := HC.out w5 b5
      have FF := Lib.hid (And.intro (n5.one (y := g) GP.out (bl_ne GB.out) k (.int .u16 (v : Int))) (And.intro (W5.set k v) (show Below w.heap.size w (w5.setCell ⟨g, k, none⟩ (.int .u16 (v : Int))) from b5.setCell GW.out _)))
      clear n5 f5 W5 b5 PU
      go_wp2_with fail
      go_roundw
      case rel => exact ⟨k + 1, _, L.set k v, by go_num, by omega, by omega, by rw [List.length_set]; exact HL.out, by simp [upR], FF.out.1, FF.out.2.1, FF.out.2.2⟩
      case measure => simp [intOf]; omega
    · have hd : n1 = k ∨ ((k : Int) < (n1 : Int) ∧ n = k) := by omega
      have n3b : n3 ≤ 123 := by simp at d1; omega
      obtain ⟨c, R', hdo, hc0, hR'⟩ := writes_do HR.out (by rw [HL.out]; omega) ad n3 a3 c3 (by omega) n3b H3.out.row.ln
      have DO := do_any HN.out ⟨16, (ad : Int), (n3 : Int), a3, n3, c3, V3, 0⟩ ⟨H3.out.below HB.out, (show (Lit.int .i64 16).wf = true by decide), wf_i64 (by show (-9223372036854775808 : Int) ≤ (ad : Int); omega) (by show (ad : Int) ≤ (9223372036854775807 : Int); omega), wf_i64 (by show (-9223372036854775808 : Int) ≤ (n3 : Int); omega) (by show (n3 : Int) ≤ (9223372036854775807 : Int); omega), (show (Lit.int .i64 0).wf = true by decide)⟩
      rw [hdo] at DO
      rw [HL.out] at hc0 hR'
      have HDO := Lib.hid DO
      have HC0 := Lib.hid hc0
      have HR' := Lib.hid hR'
      have u2 : IntKind.i64.wrap ((ad : Int) + (n3 : Int)) = (ad : Int) + (n3 : Int) := IntWalk.i64_in _ (by omega)
      clear hdo DO hc0 hR' hlt d1
      clear hk1 hkn
      rcases hd with hd1 | ⟨hd1, hd2⟩
      all_goals
        first | subst hd2 | subst hd1
        go_wp2_with fail
        refine HDO.out.mono ?_
        rintro e w5 ⟨a5, n5', c5, rfl, A5, n5, f5, _⟩
        simp only at A5 n5 ⊢
        obtain rfl : n5' = 0 := by have := A5.row.ln; simpa using this.symm
        have W5 := HW.out.fw f5 GB.out
        have b5 := HB.out.trans ((HN.out.step f5).mono S0.out)
        have al := alloc_bq w5 (.cells #[.int .i64 c, .slice a5 0 c5] 40 (0, 0))
        have gne : w5.heap.size ≠ g := by have := blk_ltB W5; omega
        obtain ⟨g6, hg6⟩ : ∃ q, q = w5.heap.size := ⟨_, rfl⟩
        obtain ⟨W6, hW6⟩ : ∃ W, W = w5.alloc (.cells #[.int .i64 c, .slice a5 0 c5] 40 (0, 0)) := ⟨_, rfl⟩
        have x6 : W6.heap[g6]? = some (.cells #[.int .i64 c, .slice a5 0 c5] 40 (0, 0)) := by rw [hg6, hW6]; exact heap_alloc_new w5 _
        rw [← hW6] at al
        rw [← hg6] at gne
        have GNE := Lib.hid gne
        have X6 := Lib.hid x6
        have N6 := Lib.hid (n5.below al)
        have WW6 := Lib.hid (W5.below al)
        have B6 := Lib.hid (b5.trans (al.mono b5.size))
        have HG6 := Lib.hid hg6
        have HW6 := Lib.hid hW6
        clear n5 f5 W5 b5 al gne x6 hg6 hW6 A5 HDO
        go_upto_region 13 with fail
        rw [← HW6.out, ← HG6.out]
        by_cases hf : ad + n3 ≤ n
        · have e3 : decide ((ad : Int) + (n3 : Int) ≤ (n : Int)) = true := by simp; omega
          have hR2 := HR'.out
          rw [if_pos hf] at hR2
          have hcz : c = 0 := by have := HC0.out; rw [decide_eq_true hf] at this; simpa using this
          subst hcz
          have HR2 := Lib.hid hR2
          clear hR2
          go_wp2_with fail
          go_loopw [16] (fun i wr => ∃ k : Nat, i = .int .i64 k ∧ k ≤ n3 ∧ Bn w0.heap.size wr p s R' ∧ Wn wr g (splice L ad (V3.take k)) ∧ wr.heap[g6]? = some (.cells #[.int .i64 0, .slice a5 0 c5] 40 (0, 0)) ∧ Below w.heap.size w wr) (fun i _ => n3 - (intOf i).toNat)
          case atStart => exact ⟨0, rfl, Nat.zero_le _, N6.out, by simpa [splice] using WW6.out, X6.out, B6.out⟩
          case round =>
            obtain ⟨j, rfl, hj, hN, hW, hX, hb⟩ := hrel
            obtain ⟨w7, hw7⟩ : ∃ w7, w7 = wr := ⟨_, rfl⟩
            subst hw7
            by_cases hjn : j < n3
            · obtain ⟨b, off, rfl, hlb, hc⟩ := H3.out.row.pos (by omega)
              have c0 := (hb.cell (p := ⟨b, off + j, none⟩) hlb).trans (hc j hjn)
              have e1 : (j : Int) < (n3 : Int) := by omega
              have hln := H3.out.row.ln
              have hsl := spl_snoc L V3 ad j (by omega) (by rw [HL.out]; omega)
              have lsp : (splice L ad (V3.take j)).length = n := by rw [length_splice _ _ _ (by rw [List.length_take, HL.out]; omega)]; exact HL.out
              obtain ⟨cg, fg⟩ := hW.cell (i := ad + j) (by rw [lsp]; omega)
              have hW2 := hW.set (ad + j) (V3.getD j 0)
              rw [hsl] at hW2
              generalize V3.getD j 0 = v at c0 hW2
              generalize (splice L ad (V3.take j)).getD (ad + j) 0 = v2 at cg
              have FF := Lib.hid (And.intro (hN.one (y := g) GP.out (bl_ne GB.out) (ad + j) (.int .u16 (v : Int))) (And.intro hW2 (And.intro ((Below.heap_setCell w7 ⟨g, ad + j, none⟩ (.int .u16 (v : Int)) g6 GNE.out).trans hX) (show Below w.heap.size w (w7.setCell ⟨g, ad + j, none⟩ (.int .u16 (v : Int))) from hb.setCell GW.out _))))
              have u3 : IntKind.i64.wrap ((ad : Int) + (j : Int)) = ((ad + j : Nat) : Int) := by rw [show ((ad : Int) + (j : Int)) = ((ad + j : Nat) : Int) by omega]; exact IntWalk.i64_in _ (by omega)
              have e4 : ((ad + j : Nat) : Int) < (n : Int) := by omega
              clear hN hW hX hb hc hsl lsp hW2 hln
              go_wp2_with fail
              go_roundw
              case rel => exact ⟨j + 1, by go_num, by omega, FF.out.1, FF.out.2.1, FF.out.2.2.1, FF.out.2.2.2⟩
              case measure => simp [intOf]; omega
            · have hk' : j = n3 := by omega
              subst hk'
              rw [List.take_of_length_le (by have := H3.out.row.ln; omega)] at hW
              have NF := Lib.hid hN
              have WF := Lib.hid hW
              have XF := Lib.hid hX
              have BF := Lib.hid hb
              have HLF : Hid ((splice L ad V3).length = n) := Lib.hid (by rw [length_splice _ _ _ (by have := H3.out.row.ln; rw [HL.out]; omega)]; exact HL.out)
              have HRF := HR2
              obtain ⟨LF, hLF⟩ : ∃ l, l = splice L ad V3 := ⟨_, rfl⟩
              rw [← hLF] at HLF HRF WF
              clear hN hW hX hb hLF
              go_wp2_with fail
              go_loop [17] (fun i => ∃ j : Nat, j ≤ n ∧ i = .int .i64 j) (fun i => n - (intOf i).toNat)
              case atStart => exact ⟨0, Nat.zero_le _, rfl⟩
              case round =>
                obtain ⟨j, hj, rfl⟩ := hrel
                by_cases hjn : j < n
                · have e1 : (j : Int) < (n : Int) := by omega
                  have p1 : plB R' 2 (j : Int) 1 = true := by unfold plB; simp [HRF.out, HLF.out]; omega
                  have AT := at_any NF.out 2 (j : Int) (by omega)
                  unfold AtP at AT
                  rw [show atB R' 2 (j : Int) = LF.getD j 0 by unfold atB; rw [p1]; simp [HRF.out], p1] at AT
                  obtain ⟨cg, _⟩ := WF.out.cell (i := j) (by rw [HLF.out]; exact hjn)
                  generalize LF.getD j 0 = v at AT cg
                  clear p1
                  go_wp2_with fail
                  refine AT.mono ?_
                  rintro e wq ⟨rfl, rfl⟩
                  go_wp2_with fail
                  go_round
                  case rel => exact ⟨j + 1, by omega, by go_num⟩
                  case measure => simp [intOf]; omega
                · have hk' : j = n := by omega
                  subst hk'
                  obtain ⟨k0, k1⟩ := cells2q XF.out
                  go_wp2_with fail
                  exact FIN.out _ BF.out
        · have e3 : decide ((ad : Int) + (n3 : Int) ≤ (n : Int)) = false := by simp; omega
          have hR2 := HR'.out
          rw [if_neg hf] at hR2
          have hcz : (c == 0) = false := by have := HC0.out; rw [decide_eq_false hf] at this; exact this
          have HRF := Lib.hid hR2
          have NF := N6
          have WF := WW6
          have XF := X6
          have BF := B6
          have HLF := HL
          obtain ⟨LF, hLF⟩ : ∃ l, l = L := ⟨_, rfl⟩
          rw [← hLF] at HLF HRF WF
          clear hR2 hLF
          go_wp2_with fail
          go_loopw [16] (fun i wr => i = .int .i64 0 ∧ wr = W6) (fun i _ => 0)
          case atStart => exact ⟨rfl, rfl⟩
          case round =>
            obtain ⟨rfl, rfl⟩ := hrel
            go_wp2_with fail
            go_loop [17] (fun i => ∃ j : Nat, j ≤ n ∧ i = .int .i64 j) (fun i => n - (intOf i).toNat)
            case atStart => exact ⟨0, Nat.zero_le _, rfl⟩
            case round =>
              obtain ⟨j, hj, rfl⟩ := hrel
              by_cases hjn : j < n
              · have e1 : (j : Int) < (n : Int) := by omega
                have p1 : plB R' 2 (j : Int) 1 = true := by unfold plB; simp [HRF.out, HLF.out]; omega
                have AT := at_any NF.out 2 (j : Int) (by omega)
                unfold AtP at AT
                rw [show atB R' 2 (j : Int) = LF.getD j 0 by unfold atB; rw [p1]; simp [HRF.out], p1] at AT
                obtain ⟨cg, _⟩ := WF.out.cell (i := j) (by rw [HLF.out]; exact hjn)
                generalize LF.getD j 0 = v at AT cg
                clear p1
                go_wp2_with fail
                refine AT.mono ?_
                rintro e wq ⟨rfl, rfl⟩
                go_wp2_with fail
                go_round
                case rel => exact ⟨j + 1, by omega, by go_num⟩
                case measure => simp [intOf]; omega
              · have hk' : j = n := by omega
                subst hk'
                obtain ⟨k0, k1⟩ := cells2q XF.out
                go_wp2_with fail
                exact FIN.out _ BF.out
theorem writes_all (sz : Int) (w0 : (Lit.int .u8 sz).wf = true) (a1 : Option Addr) (n1 c1 : Nat) (V1 : List Nat) (ad : Int) (w2 : (Lit.int .u16 ad).wf = true) (a3 : Option Addr) (n3 c3 : Nat) (V3 : List Nat) (w : World) (h1 : ArgW w a1 n1 c1 V1) (h3 : ArgW w a3 n3 c3 V3) :
    Calls Try.prog 4 #[.int .u8 sz, .slice a1 n1 c1, .int .u16 ad, .slice a3 n3 c3] w (BoolB w true) := by
  have h0 := bd_u8 w0
  have h2 := bd_u16 w2
  obtain ⟨n, rfl⟩ : ∃ k : Nat, sz = (k : Int) := ⟨sz.toNat, by omega⟩
  obtain ⟨q, rfl⟩ : ∃ k : Nat, ad = (k : Int) := ⟨ad.toNat, by omega⟩
  exact writes_walk n (by omega) a1 n1 c1 V1 q (by omega) a3 n3 c3 V3 w h1 h3
end Go.Proofs.Ytdolgpogjnfpkaa
