/- get, of one kind of request. -/
import Derived.Test.YtdolgpogjnfpkaaSv8
namespace Go.Proofs.Ytdolgpogjnfpkaa
set_option linter.unusedVariables false
set_option linter.unusedSimpArgs false
open Go.ChangeShapes Go.WideShapes Go.ChangeAt Go.RowKit

set_option maxRecDepth 100000 in
set_option maxHeartbeats 8000000 in
theorem get_s1a (rd wt : Bool) (fq le mo : Nat) (a : Option Addr) (n cp : Nat) (L : List Nat) (w : World) (h : ArgB w a n cp L) (hn : 0 < n) (hl : n ≤ 100000) (hq : 0 < fq) (hm : mo = 0) :
    Calls Try.prog 52 #[fv ⟨rd, wt, true, fq, le, mo, false, false⟩, .slice a n cp] w (GetFP w ⟨rd, wt, true, fq, le, mo, false, false⟩ L) := by
  have HM := Lib.hid hm
  have HQ := Lib.hid hq
  have dm : ¬ 0 < mo := by omega
  clear hm
  have hcm := h.mx
  have hnc := h.le
  have hln := h.row.ln
  unfold maxLen at hcm
  obtain ⟨b, off, rfl, hbl, hc⟩ := h.row.pos hn
  have c0 : w.cell? ⟨b, off, none⟩ = some (.int .u8 ((L.getD 0 0 : Nat) : Int)) := hc 0 hn
  have l0 := getD_lt h.row.by' 0
  obtain ⟨x0, hx0⟩ : ∃ x, x = L.getD 0 0 := ⟨_, rfl⟩
  rw [← hx0] at c0 l0
  obtain ⟨R0, hR0⟩ : ∃ R, R = L.drop 1 := ⟨_, rfl⟩
  have HX0 := Lib.hid hx0
  have HR0 := Lib.hid hR0
  have hs1 : cp = 1 → G3 w (W3 w ⟨rd, wt, true, fq, le, mo, false, false⟩ (.slice (some ⟨b, off, none⟩) 0 0)) ⟨rd, wt, true, fq, le, mo, false, false⟩ R0 := fun e => w3_mk w ⟨rd, wt, true, fq, le, mo, false, false⟩ _ 0 0 _ (by rw [hR0, List.drop_of_length_le (by omega)]; exact Bys.nil _ _) (Nat.le_refl _) (Nat.zero_le _)
  have hs2 : G3 w (W3 w ⟨rd, wt, true, fq, le, mo, false, false⟩ (.slice (some ⟨b, off + 1, none⟩) (n - 1) (cp - 1))) ⟨rd, wt, true, fq, le, mo, false, false⟩ R0 := w3_mk w ⟨rd, wt, true, fq, le, mo, false, false⟩ _ (n - 1) (cp - 1) _ (by
    have := h.row.sub 1 (n - 1) (by omega)
    rw [List.take_of_length_le (by rw [List.length_drop]; omega)] at this
    rw [hR0]; exact this) (by omega) (by unfold maxLen; omega)
  have hcb : ∀ sl, (W3 w ⟨rd, wt, true, fq, le, mo, false, false⟩ sl).cell? ⟨b, off, none⟩ = some (.int .u8 (x0 : Int)) := fun sl => ((w3_bel w ⟨rd, wt, true, fq, le, mo, false, false⟩ sl).cell (p := ⟨b, off, none⟩) hbl).trans c0
  have HCB := Lib.hid hcb
  have HS1 := Lib.hid hs1
  have HS2 := Lib.hid hs2
  have i1 : (1 : Int) ≤ (n : Int) := by omega
  have hb2 : ¬ b = w.heap.size + 2 := by omega
  have hR0b : ∀ x ∈ R0, x < 256 := by rw [hR0]; exact fun x hx => h.row.by' x (List.mem_of_mem_drop hx)
  have HRB := Lib.hid hR0b
  have HLL := Lib.hid hl
  clear h hc hx0 hR0 hs1 hs2 hcb hR0b
  simp only [fv]
  go_enter Try.func52, Try.ntmps52
  go_upto_region 1 with fail
  go_cut [5] from 9 (fun p W => p = .pointer (some ⟨w.heap.size + 2, 0, none⟩) ∧ G3 w W ⟨rd, wt, true, fq, le, mo, false, false⟩ R0 ∧ W.cell? ⟨b, off, none⟩ = some (.int .u8 (x0 : Int)))
  case first =>
    by_cases hcc : cp = 1
    · subst hcc
      obtain rfl : n = 1 := by omega
      have HA := Lib.hid (HS1.out rfl)
      have HB := Lib.hid (HCB.out (.slice (some ⟨b, off, none⟩) 0 0))
      simp only [W3] at HA HB
      clear HS1 HS2 HCB
      go_wp2_with fail
      go_meet
      exact ⟨rfl, HA.out, HB.out⟩
    · have HA := Lib.hid HS2.out
      have HB := Lib.hid (HCB.out (.slice (some ⟨b, off + 1, none⟩) (n - 1) (cp - 1)))
      simp only [W3] at HA HB
      clear HS1 HS2 HCB
      go_wp2_with fail
      go_meet
      exact ⟨rfl, HA.out, HB.out⟩
  case rest =>
  obtain ⟨rfl, hG3, hcb⟩ := hcut
  obtain ⟨W, hW⟩ : ∃ W, W = wc := ⟨_, rfl⟩
  subst hW
  have G0 := Lib.hid hG3
  have CB := Lib.hid hcb
  clear hG3 hcb HS1 HS2 HCB
  go_upto_region 3 with fail
  go_cut [7] from 9 (fun p W' => p = .pointer (some ⟨w.heap.size + 3, 0, none⟩) ∧ Gs w W' ⟨rd, wt, true, fq, le, mo, false, false⟩ (W2 R0) [.int .i64 (x0 : Int), .int .i64 ((W1 R0 : Nat) : Int), .int .i64 0, .slice none 0 0, .int .i64 0])
  case first =>
    have hwz := G0.out.2.2.2.1
    have HWZ := Lib.hid hwz
    have hb1 := G0.out.2.2.2.2
    have WRD := Lib.hid (fun (w' : World) (hb : Gd W w') => word_any (w.heap.size + 2) R0 w' (G0.out.2.2.1.keep (Below.size hb) (fun k hk => Below.block hb k (by omega))))
    have KS := Lib.hid (fun (w' : World) (hb : Gc (w.heap.size + 2) W w') => gc_cell hb (show b < W.heap.size by omega) hb2 CB.out)
    have g0 : Gd W W.drew := (Below.refl _ _).drew
    have g1 : Gd W (W.alloc (.cells #[.int .i64 0, .int .i64 0, .int .i64 0, .slice none 0 0, .int .i64 0] 32 (0, 0))).drew := ((Below.refl _ _).alloc (Nat.le_refl _) _).drew
    have g2 : Gc (w.heap.size + 2) W W.drew := (Fs.refl _ _).drew
    have g3 : Gc (w.heap.size + 2) W (W.alloc (.cells #[.int .i64 0, .int .i64 0, .int .i64 0, .slice none 0 0, .int .i64 0] 32 (0, 0))).drew := (fs_alloc _ _ _).drew
    have hbW : ¬ b = W.heap.size := by omega
    have hbW2 : ¬ W.heap.size = b := fun e => hbW e.symm
    have u0 : IntKind.i64.wrap (x0 : Int) = (x0 : Int) := IntWalk.i64_in _ (by omega)
    have hWc : ¬ W.heap.size = w.heap.size + 2 := by omega
    have g6 : Iz W (W.alloc (.cells #[.int .i64 0, .int .i64 0, .int .i64 0, .slice none 0 0, .int .i64 0] 32 (0, 0))).drew := ⟨heap_alloc_new W _⟩
    clear hwz hb1
    go_region_held3 (fun w' => w'.cell? ⟨b, off, none⟩ = some (.int .u8 (x0 : Int))) (first | exact KS.out _ (by simp only [g2, g3]) | exact KS.out _ (by simp only [g5]) | exact KS.out _ (by simp only [Gc.al, g5]) | exact KS.out _ (by simp only [Gc.set, g5, Nat.le_refl]) | go_keep | exact (set5_cell hbW _ _ _ _ _).trans cb5) (first
      | (go_at_call 69; refine (WRD.out _ (by simp only [g0, g1])).mono ?_; rintro e w5 ⟨rfl, hl5, hf5, hz5⟩; have g5 : Gc (w.heap.size + 2) W w5 := Gc.step (by simp only [g2, g3]) hf5; have cb5 := KS.out w5 g5; have hb5 : ¬ b = w5.heap.size := (by have := HWZ.out; simp at hz5; omega); have HZ5 := Lib.hid hz5; clear hz5; first | (have zz : Iz W w5 := Iz.step (W := W) hWc (by simp only [g6]) hf5; have zc := iz_cells zz; obtain ⟨z0, z1, z2, z3, z4, y0, y1, y2, y3, y4⟩ := zc) | skip)
      | fail)
    all_goals
      first
        | (have G1 := gs_b (v0 := .int .i64 (x0 : Int)) (v1 := .int .i64 ((wordL R0).1 : Nat)) (v2 := .int .i64 0) (v3 := .slice none 0 0) (v4 := .int .i64 0) G0.out hl5 g5 zz
           have hq1 := HWZ.out
           have G2 := Lib.hid G1
           rw [hq1]
           clear G1 hq1
           go_wp2_with fail
           go_meet
           exact ⟨rfl, G2.out⟩)
        | (have e5 : w5.heap.size = w.heap.size + 3 := by have h1 := HZ5.out; have h2 := HWZ.out; simp at h1; omega
           have G1 := gs_a (v0 := .int .i64 (x0 : Int)) (v1 := .int .i64 ((wordL R0).1 : Nat)) (v2 := .int .i64 0) (v3 := .slice none 0 0) (v4 := .int .i64 0) G0.out hl5 g5 e5
           have G2 := Lib.hid G1
           rw [e5]
           clear G1
           go_wp2_with fail
           go_meet
           exact ⟨rfl, G2.out⟩)
  case rest =>
  obtain ⟨rfl, hG⟩ := hcut
  obtain ⟨W6, hW⟩ : ∃ W, W = wc := ⟨_, rfl⟩
  subst hW
  have H6 := Lib.hid hG
  clear hG G0 CB
  obtain ⟨f2, f3, f5, f6, f7⟩ := H6.out.fc
  obtain ⟨q0, q1, q2, q3, q4⟩ := H6.out.qcells
  have r2 := H6.out.qfro 2
  have r3 := H6.out.qfro 3
  have r4 := H6.out.qfro 4
  obtain ⟨y7, hy7⟩ : ∃ x, x = W1 (W2 R0) := ⟨_, rfl⟩
  have WD := Lib.hid ((word_any (w.heap.size + 2) (W2 R0) _ H6.out.left).mono (fun e w' h => show e = .returned (.int .i64 (y7 : Int)) ∧ _ ∧ _ ∧ _ from ⟨h.1.trans (by rw [hy7]; rfl), h.2⟩))
  have HY7 := Lib.hid hy7
  have LB7 := Lib.hid (show y7 < 65536 from by rw [hy7]; exact W1_lt H6.out.left.by')
  clear hy7
  go_wp2_with fail
  refine WD.out.mono ?_
  rintro e w7 ⟨rfl, hl, hf, _⟩
  have H7 := Lib.hid (H6.out.word hl hf)
  clear hl hf WD f2 f3 f5 f6 f7 q0 q1 q2 q3 q4 r2 r3 r4
  obtain ⟨f2, f3, f5, f6, f7⟩ := H7.out.fc
  obtain ⟨q0, q1, q2, q3, q4⟩ := H7.out.qcells
  have r2 := H7.out.qfro 2
  have r3 := H7.out.qfro 3
  have r4 := H7.out.qfro 4
  have S7 := Lib.hid (H7.out.setq 2 (.int .i64 ((y7 : Nat) : Int)))
  go_wp2_with fail
  have H8 := Lib.hid (show Gs w _ ⟨rd, wt, true, fq, le, mo, false, false⟩ (W2 (W2 R0)) [.int .i64 (x0 : Int), .int .i64 ((W1 R0 : Nat) : Int), .int .i64 ((y7 : Nat) : Int), .slice none 0 0, .int .i64 0] from S7.out)
  clear f2 f3 f5 f6 f7 q0 q1 q2 q3 q4 r2 r3 r4
  obtain ⟨Lc, hLc⟩ : ∃ M, M = (W2 (W2 R0)) := ⟨_, rfl⟩
  have HLC := Lib.hid hLc
  rw [← hLc] at H8
  have HLB : Hid (∀ b ∈ Lc, b < 256) := Lib.hid H8.out.left.by'
  clear hLc
  obtain ⟨ti, hi, hz0, hz1, hz2⟩ := info_parts info34
  go_loopw [51] (fun iv wq => ∃ (k : Nat) (v : Value), k ≤ mo ∧ iv = .int .i64 k ∧ Gs w wq ⟨rd, wt, true, fq, le, mo, false, false⟩ (leftW k Lc) [.int .i64 (x0 : Int), .int .i64 ((W1 R0 : Nat) : Int), .int .i64 ((y7 : Nat) : Int), v, .int .i64 0] ∧ wq.ownsRow (w.heap.size + 4) 34 1 v k (wv (readW k Lc))) (fun iv _ => mo - (intOf iv).toNat)
  case atStart => exact ⟨0, .slice none 0 0, Nat.zero_le _, rfl, H8.out, ⟨rfl, .inl ⟨rfl, rfl⟩⟩⟩
  case round =>
    obtain ⟨wo, rfl⟩ : ∃ wo : World, wo = wr := ⟨_, rfl⟩
    obtain ⟨k, v, hk, rfl, hG, hO⟩ := hrel
    obtain ⟨va, vc, rfl⟩ : ∃ va vc, v = .slice va k vc := by
      rcases hO.2 with ⟨h, h0⟩ | ⟨g, cap, cur, h, _⟩
      · exact ⟨none, 0, by rw [h, h0]⟩
      · exact ⟨_, _, h⟩
    have hkb : k ≤ 2000 := by have := HM.out; omega
    by_cases hkn : k < mo
    · have d0 : (k : Int) < ((mo : Nat) : Int) := by omega
      obtain ⟨f2, f3, f5, f6, f7⟩ := hG.fc
      obtain ⟨q0, q1, q2, q3, q4⟩ := hG.qcells
      have r3 := hG.qfro 3
      have HG := Lib.hid hG
      have HO := Lib.hid hO
      have hwl := W1_lt (leftW_by k Lc HLB.out)
      obtain ⟨x, hx⟩ : ∃ x, x = W1 (leftW k Lc) := ⟨_, rfl⟩
      rw [← hx] at hwl
      have WD := Lib.hid ((word_any (w.heap.size + 2) (leftW k Lc) wo.drew (hG.left.keep (Nat.le_refl _) (fun b hb => rfl))).mono (fun e w' h => show e = .returned (.int .i64 (x : Int)) ∧ Left w' (w.heap.size + 2) (W2 (leftW k Lc)) ∧ Fs [w.heap.size + 2] wo w' ∧ w'.heap.size = wo.heap.size from ⟨h.1.trans (by rw [hx]; rfl), h.2.1, ((Fs.refl _ wo).drew).trans h.2.2.1, h.2.2.2⟩))
      have HX := Lib.hid hx
      have ux : IntKind.u16.wrap (x : Int) = (x : Int) := by simp [IntKind.wrap, IntKind.bits, IntKind.signed]; omega
      have OA := Lib.hid (fun (w7 : World) (hf : Fs [w.heap.size + 2] wo w7) => own33_keep hO (fun b hb hb' => hf.block b hb' (by simp; omega)))
      have GA := Lib.hid (fun (w7 : World) (hl : Left w7 (w.heap.size + 2) (W2 (leftW k Lc))) (hf : Fs [w.heap.size + 2] wo w7) => hG.word hl hf)
      have sw := blk_lt hG.2.2.2.1
      have SW := Lib.hid sw
      have DX := Lib.hid (show k + 1 ≤ 2001 from by have := HM.out; omega)
      clear hG hO hx sw
      go_wp2_with fail
      go_region_law (first
        | (refine step_word rfl 55 rfl wo.drew _ rfl _ WD.out ?_; rintro e w7 ⟨rfl, hl7, hf7, hz7⟩; refine ⟨_, rfl, ?_⟩; have H7 := Lib.hid (GA.out w7 hl7 hf7); have O7 := Lib.hid (OA.out w7 hf7); have Z7 := Lib.hid hz7; have p3 := H7.out.qcells.2.2.2.1; have s3 := H7.out.qfro 3; have p3b : (w7.alloc (.cells #[.int .u16 (x : Int)] 34 (0, 0))).cell? ⟨w.heap.size + 3, 3, none⟩ = some (.slice va k vc) := (World.cell?_of_block (a := ⟨w.heap.size + 3, 3, none⟩) (heap_alloc_old w7 _ (blk_lt H7.out.2.2.2.1))).trans p3; clear hl7 hf7 hz7)
        | (refine step_append_lies _ rfl (.tmp 54) (.tmp 58) 30 rfl (w.heap.size + 4) 34 ti (.int .u16 0) 1 2 Try.underlying30 hi hz0 hz1 hz2 rfl (by decide) (.slice va k vc) k (wv (readW k Lc)) rfl (O7.out.alloc _) ⟨w7.heap.size, 0, none⟩ 1 1 [.int .u16 (x : Int)] rfl rfl (World.news_of_block (heap_alloc_new w7 (.cells #[.int .u16 (x : Int)] 34 (0, 0)))) (by intro u hu; simp at hu; subst hu; rfl) (by omega) (by have := DX.out; unfold maxLen; omega) (by have := DX.out; omega) (by have := Z7.out; have := SW.out; simp; omega) (w7.heap.size + 1) (by simp) ?_; intro g' cap' w8 ho' hg' hnn hlt; have G8 := Lib.hid (gs_grow H7.out (O7.out.alloc _) hg'); have p3 := G8.out.qcells.2.2.2.1; have s3 := G8.out.qfro 3))
      all_goals
        have o9 : (w8.setCell ⟨w.heap.size + 3, 3, none⟩ (.slice (some ⟨g', 0, none⟩) (k + 1) cap')).ownsRow (w.heap.size + 4) 34 1 (.slice (some ⟨g', 0, none⟩) (k + 1) cap') (k + 1) (wv (readW (k + 1) Lc)) := by
          refine own33_keep ?_ (fun b hb _ => Below.heap_setCell _ _ _ _ (show b ≠ w.heap.size + 3 by omega))
          rw [readW_snoc, wv_app, ← HX.out]
          exact ho'
        have O9 := Lib.hid o9
        have G9 := Lib.hid (G8.out.setq 3 (.slice (some ⟨g', 0, none⟩) (k + 1) cap'))
        clear o9 ho' hg' hnn hlt f2 f3 f5 f6 f7 q0 q1 q2 q3 q4 r3 p3 s3
        generalize (w8.setCell ⟨w.heap.size + 3, 3, none⟩ (.slice (some ⟨g', 0, none⟩) (k + 1) cap')) = w9 at O9 G9 ⊢
        go_wp2_with fail
        go_roundw
        case rel => exact ⟨k + 1, .slice (some ⟨g', 0, none⟩) (k + 1) cap', by omega, by go_num, by rw [leftW_succ]; exact G9.out, O9.out⟩
        case measure => simp [intOf]; omega
    · obtain ⟨q0, q1, q2, q3, q4⟩ := hG.qcells
      obtain ⟨z0, z1, z2, z3, z4⟩ := hG.zcells
      have y0 := hG.zero 0
      have y1 := hG.zero 1
      have y2 := hG.zero 2
      have y3 := hG.zero 3
      have y4 := hG.zero 4
      have hk' : k = mo := by omega
      have hbel := hG.bel
      have sw := blk_lt hG.2.2.2.1
      have hrl := readW_len k Lc
      have hO2 : wo.ownsRow (w.heap.size + 4) 34 1 (.slice va k vc) (readW k Lc).length (wv (readW k Lc)) := by rw [hrl]; exact hO
      have hne : ∀ (W' : World), (∀ b, w.heap.size + 4 ≤ b → b < wo.heap.size → W'.heap[b]? = wo.heap[b]?) → ArgW W' va k vc (readW k Lc) := by
        intro W' hb
        obtain ⟨a', c', e, hA, _⟩ := own33_arg (own33_keep hO2 hb) (readW_by k Lc HLB.out)
        rw [hrl] at e hA
        simp only [Value.slice.injEq, true_and] at e
        obtain ⟨rfl, rfl⟩ := e
        exact hA
      have hfr : ∀ b off, va = some ⟨b, off, none⟩ → w.heap.size ≤ b := by
        obtain ⟨a', c', e, _, hB⟩ := own33_arg hO2 (readW_by k Lc HLB.out)
        rw [hrl] at e
        simp only [Value.slice.injEq, true_and] at e
        obtain ⟨rfl, rfl⟩ := e
        intro b off e
        have := hB b off e
        omega
      have hfin : ∀ (W' : World), (∀ b, w.heap.size + 4 ≤ b → b < wo.heap.size → W'.heap[b]? = wo.heap[b]?) → Below w.heap.size w W' → GetFP w ⟨rd, wt, true, fq, le, mo, false, false⟩ L (.returned (.agg #[.int .i64 (x0 : Int), .int .i64 ((W1 R0 : Nat) : Int), .int .i64 ((y7 : Nat) : Int), .slice va k vc, .int .i64 0])) W' := by
        intro W' hb hb2
        have hV : (getN ⟨rd, wt, true, fq, le, mo, false, false⟩ L).V = readW k Lc := by
          rw [hk', HLC.out]
          simp [-List.drop_one, getN, ← HR0.out, HQ.out, HM.out, HY7.out]
        refine ⟨va, k, vc, ?_, by rw [hV]; exact hne W' hb, hb2, hfr⟩
        rw [HX0.out]
        simp [-List.drop_one, rv, getN, W1, W2, ← HR0.out, HQ.out, HM.out, HY7.out]
      have HFIN := Lib.hid hfin
      have HBEL := Lib.hid hbel
      have HK := Lib.hid hk'
      clear hfr hfin hbel hG hO hO2 hne hk' hrl
      go_wp2_with fail
      exact bodyPost_ret (v := .agg #[.int .i64 (x0 : Int), .int .i64 ((W1 R0 : Nat) : Int), .int .i64 ((y7 : Nat) : Int), .slice va k vc, .int .i64 0]) (by simp [results, Try.results52, go_sem, z0, z1, z2, z3, z4]) rfl (HFIN.out _ (fun b hb _ => set5_blk (show b ≠ w.heap.size + 1 by omega) _ _ _ _ _) (set5_bel HBEL.out (show w.heap.size ≤ w.heap.size + 1 by omega) _ _ _ _ _))
end Go.Proofs.Ytdolgpogjnfpkaa
/- get, of one kind of request. -/
namespace Go.Proofs.Ytdolgpogjnfpkaa
set_option linter.unusedVariables false
set_option linter.unusedSimpArgs false
open Go.ChangeShapes Go.WideShapes Go.ChangeAt Go.RowKit

set_option maxRecDepth 100000 in
set_option maxHeartbeats 8000000 in
theorem get_s1b (rd wt : Bool) (fq le mo : Nat) (a : Option Addr) (n cp : Nat) (L : List Nat) (w : World) (h : ArgB w a n cp L) (hn : 0 < n) (hl : n ≤ 100000) (hq : 0 < fq) (hm : mo = 0) :
    Calls Try.prog 52 #[fv ⟨rd, wt, false, fq, le, mo, false, false⟩, .slice a n cp] w (GetFP w ⟨rd, wt, false, fq, le, mo, false, false⟩ L) := by
  have HM := Lib.hid hm
  have HQ := Lib.hid hq
  have dm : ¬ 0 < mo := by omega
  clear hm
  have hcm := h.mx
  have hnc := h.le
  have hln := h.row.ln
  unfold maxLen at hcm
  obtain ⟨b, off, rfl, hbl, hc⟩ := h.row.pos hn
  have c0 : w.cell? ⟨b, off, none⟩ = some (.int .u8 ((L.getD 0 0 : Nat) : Int)) := hc 0 hn
  have l0 := getD_lt h.row.by' 0
  obtain ⟨x0, hx0⟩ : ∃ x, x = L.getD 0 0 := ⟨_, rfl⟩
  rw [← hx0] at c0 l0
  obtain ⟨R0, hR0⟩ : ∃ R, R = L.drop 1 := ⟨_, rfl⟩
  have HX0 := Lib.hid hx0
  have HR0 := Lib.hid hR0
  have hs1 : cp = 1 → G3 w (W3 w ⟨rd, wt, false, fq, le, mo, false, false⟩ (.slice (some ⟨b, off, none⟩) 0 0)) ⟨rd, wt, false, fq, le, mo, false, false⟩ R0 := fun e => w3_mk w ⟨rd, wt, false, fq, le, mo, false, false⟩ _ 0 0 _ (by rw [hR0, List.drop_of_length_le (by omega)]; exact Bys.nil _ _) (Nat.le_refl _) (Nat.zero_le _)
  have hs2 : G3 w (W3 w ⟨rd, wt, false, fq, le, mo, false, false⟩ (.slice (some ⟨b, off + 1, none⟩) (n - 1) (cp - 1))) ⟨rd, wt, false, fq, le, mo, false, false⟩ R0 := w3_mk w ⟨rd, wt, false, fq, le, mo, false, false⟩ _ (n - 1) (cp - 1) _ (by
    have := h.row.sub 1 (n - 1) (by omega)
    rw [List.take_of_length_le (by rw [List.length_drop]; omega)] at this
    rw [hR0]; exact this) (by omega) (by unfold maxLen; omega)
  have hcb : ∀ sl, (W3 w ⟨rd, wt, false, fq, le, mo, false, false⟩ sl).cell? ⟨b, off, none⟩ = some (.int .u8 (x0 : Int)) := fun sl => ((w3_bel w ⟨rd, wt, false, fq, le, mo, false, false⟩ sl).cell (p := ⟨b, off, none⟩) hbl).trans c0
  have HCB := Lib.hid hcb
  have HS1 := Lib.hid hs1
  have HS2 := Lib.hid hs2
  have i1 : (1 : Int) ≤ (n : Int) := by omega
  have hb2 : ¬ b = w.heap.size + 2 := by omega
  have hR0b : ∀ x ∈ R0, x < 256 := by rw [hR0]; exact fun x hx => h.row.by' x (List.mem_of_mem_drop hx)
  have HRB := Lib.hid hR0b
  have HLL := Lib.hid hl
  clear h hc hx0 hR0 hs1 hs2 hcb hR0b
  simp only [fv]
  go_enter Try.func52, Try.ntmps52
  go_upto_region 1 with fail
  go_cut [5] from 9 (fun p W => p = .pointer (some ⟨w.heap.size + 2, 0, none⟩) ∧ G3 w W ⟨rd, wt, false, fq, le, mo, false, false⟩ R0 ∧ W.cell? ⟨b, off, none⟩ = some (.int .u8 (x0 : Int)))
  case first =>
    by_cases hcc : cp = 1
    · subst hcc
      obtain rfl : n = 1 := by omega
      have HA := Lib.hid (HS1.out rfl)
      have HB := Lib.hid (HCB.out (.slice (some ⟨b, off, none⟩) 0 0))
      simp only [W3] at HA HB
      clear HS1 HS2 HCB
      go_wp2_with fail
      go_meet
      exact ⟨rfl, HA.out, HB.out⟩
    · have HA := Lib.hid HS2.out
      have HB := Lib.hid (HCB.out (.slice (some ⟨b, off + 1, none⟩) (n - 1) (cp - 1)))
      simp only [W3] at HA HB
      clear HS1 HS2 HCB
      go_wp2_with fail
      go_meet
      exact ⟨rfl, HA.out, HB.out⟩
  case rest =>
  obtain ⟨rfl, hG3, hcb⟩ := hcut
  obtain ⟨W, hW⟩ : ∃ W, W = wc := ⟨_, rfl⟩
  subst hW
  have G0 := Lib.hid hG3
  have CB := Lib.hid hcb
  clear hG3 hcb HS1 HS2 HCB
  go_upto_region 3 with fail
  go_cut [7] from 9 (fun p W' => p = .pointer (some ⟨w.heap.size + 3, 0, none⟩) ∧ Gs w W' ⟨rd, wt, false, fq, le, mo, false, false⟩ (W2 R0) [.int .i64 (x0 : Int), .int .i64 ((W1 R0 : Nat) : Int), .int .i64 0, .slice none 0 0, .int .i64 0])
  case first =>
    have hwz := G0.out.2.2.2.1
    have HWZ := Lib.hid hwz
    have hb1 := G0.out.2.2.2.2
    have WRD := Lib.hid (fun (w' : World) (hb : Gd W w') => word_any (w.heap.size + 2) R0 w' (G0.out.2.2.1.keep (Below.size hb) (fun k hk => Below.block hb k (by omega))))
    have KS := Lib.hid (fun (w' : World) (hb : Gc (w.heap.size + 2) W w') => gc_cell hb (show b < W.heap.size by omega) hb2 CB.out)
    have g0 : Gd W W.drew := (Below.refl _ _).drew
    have g1 : Gd W (W.alloc (.cells #[.int .i64 0, .int .i64 0, .int .i64 0, .slice none 0 0, .int .i64 0] 32 (0, 0))).drew := ((Below.refl _ _).alloc (Nat.le_refl _) _).drew
    have g2 : Gc (w.heap.size + 2) W W.drew := (Fs.refl _ _).drew
    have g3 : Gc (w.heap.size + 2) W (W.alloc (.cells #[.int .i64 0, .int .i64 0, .int .i64 0, .slice none 0 0, .int .i64 0] 32 (0, 0))).drew := (fs_alloc _ _ _).drew
    have hbW : ¬ b = W.heap.size := by omega
    have hbW2 : ¬ W.heap.size = b := fun e => hbW e.symm
    have u0 : IntKind.i64.wrap (x0 : Int) = (x0 : Int) := IntWalk.i64_in _ (by omega)
    have hWc : ¬ W.heap.size = w.heap.size + 2 := by omega
    have g6 : Iz W (W.alloc (.cells #[.int .i64 0, .int .i64 0, .int .i64 0, .slice none 0 0, .int .i64 0] 32 (0, 0))).drew := ⟨heap_alloc_new W _⟩
    clear hwz hb1
    go_region_held3 (fun w' => w'.cell? ⟨b, off, none⟩ = some (.int .u8 (x0 : Int))) (first | exact KS.out _ (by simp only [g2, g3]) | exact KS.out _ (by simp only [g5]) | exact KS.out _ (by simp only [Gc.al, g5]) | exact KS.out _ (by simp only [Gc.set, g5, Nat.le_refl]) | go_keep | exact (set5_cell hbW _ _ _ _ _).trans cb5) (first
      | (go_at_call 69; refine (WRD.out _ (by simp only [g0, g1])).mono ?_; rintro e w5 ⟨rfl, hl5, hf5, hz5⟩; have g5 : Gc (w.heap.size + 2) W w5 := Gc.step (by simp only [g2, g3]) hf5; have cb5 := KS.out w5 g5; have hb5 : ¬ b = w5.heap.size := (by have := HWZ.out; simp at hz5; omega); have HZ5 := Lib.hid hz5; clear hz5; first | (have zz : Iz W w5 := Iz.step (W := W) hWc (by simp only [g6]) hf5; have zc := iz_cells zz; obtain ⟨z0, z1, z2, z3, z4, y0, y1, y2, y3, y4⟩ := zc) | skip)
      | fail)
    all_goals
      first
        | (have G1 := gs_b (v0 := .int .i64 (x0 : Int)) (v1 := .int .i64 ((wordL R0).1 : Nat)) (v2 := .int .i64 0) (v3 := .slice none 0 0) (v4 := .int .i64 0) G0.out hl5 g5 zz
           have hq1 := HWZ.out
           have G2 := Lib.hid G1
           rw [hq1]
           clear G1 hq1
           go_wp2_with fail
           go_meet
           exact ⟨rfl, G2.out⟩)
        | (have e5 : w5.heap.size = w.heap.size + 3 := by have h1 := HZ5.out; have h2 := HWZ.out; simp at h1; omega
           have G1 := gs_a (v0 := .int .i64 (x0 : Int)) (v1 := .int .i64 ((wordL R0).1 : Nat)) (v2 := .int .i64 0) (v3 := .slice none 0 0) (v4 := .int .i64 0) G0.out hl5 g5 e5
           have G2 := Lib.hid G1
           rw [e5]
           clear G1
           go_wp2_with fail
           go_meet
           exact ⟨rfl, G2.out⟩)
  case rest =>
  obtain ⟨rfl, hG⟩ := hcut
  obtain ⟨W6, hW⟩ : ∃ W, W = wc := ⟨_, rfl⟩
  subst hW
  have H6 := Lib.hid hG
  clear hG G0 CB
  obtain ⟨f2, f3, f5, f6, f7⟩ := H6.out.fc
  obtain ⟨q0, q1, q2, q3, q4⟩ := H6.out.qcells
  have r2 := H6.out.qfro 2
  have r3 := H6.out.qfro 3
  have r4 := H6.out.qfro 4
  obtain ⟨y7, hy7⟩ : ∃ x, x = W1 (W2 R0) := ⟨_, rfl⟩
  have WD := Lib.hid ((word_any (w.heap.size + 2) (W2 R0) _ H6.out.left).mono (fun e w' h => show e = .returned (.int .i64 (y7 : Int)) ∧ _ ∧ _ ∧ _ from ⟨h.1.trans (by rw [hy7]; rfl), h.2⟩))
  have HY7 := Lib.hid hy7
  have LB7 := Lib.hid (show y7 < 65536 from by rw [hy7]; exact W1_lt H6.out.left.by')
  clear hy7
  go_wp2_with fail
  refine WD.out.mono ?_
  rintro e w7 ⟨rfl, hl, hf, _⟩
  have H7 := Lib.hid (H6.out.word hl hf)
  clear hl hf WD f2 f3 f5 f6 f7 q0 q1 q2 q3 q4 r2 r3 r4
  obtain ⟨f2, f3, f5, f6, f7⟩ := H7.out.fc
  obtain ⟨q0, q1, q2, q3, q4⟩ := H7.out.qcells
  have r2 := H7.out.qfro 2
  have r3 := H7.out.qfro 3
  have r4 := H7.out.qfro 4
  have S7 := Lib.hid (H7.out.setq 2 (.int .i64 ((y7 : Nat) : Int)))
  go_wp2_with fail
  have H8 := Lib.hid (show Gs w _ ⟨rd, wt, false, fq, le, mo, false, false⟩ (W2 (W2 R0)) [.int .i64 (x0 : Int), .int .i64 ((W1 R0 : Nat) : Int), .int .i64 ((y7 : Nat) : Int), .slice none 0 0, .int .i64 0] from S7.out)
  clear f2 f3 f5 f6 f7 q0 q1 q2 q3 q4 r2 r3 r4
  obtain ⟨Lc, hLc⟩ : ∃ M, M = (W2 (W2 R0)) := ⟨_, rfl⟩
  have HLC := Lib.hid hLc
  rw [← hLc] at H8
  have HLB : Hid (∀ b ∈ Lc, b < 256) := Lib.hid H8.out.left.by'
  clear hLc
  obtain ⟨ti, hi, hz0, hz1, hz2⟩ := info_parts info34
  go_loopw [51] (fun iv wq => ∃ (k : Nat) (v : Value), k ≤ mo ∧ iv = .int .i64 k ∧ Gs w wq ⟨rd, wt, false, fq, le, mo, false, false⟩ (leftW k Lc) [.int .i64 (x0 : Int), .int .i64 ((W1 R0 : Nat) : Int), .int .i64 ((y7 : Nat) : Int), v, .int .i64 0] ∧ wq.ownsRow (w.heap.size + 4) 34 1 v k (wv (readW k Lc))) (fun iv _ => mo - (intOf iv).toNat)
  case atStart => exact ⟨0, .slice none 0 0, Nat.zero_le _, rfl, H8.out, ⟨rfl, .inl ⟨rfl, rfl⟩⟩⟩
  case round =>
    obtain ⟨wo, rfl⟩ : ∃ wo : World, wo = wr := ⟨_, rfl⟩
    obtain ⟨k, v, hk, rfl, hG, hO⟩ := hrel
    obtain ⟨va, vc, rfl⟩ : ∃ va vc, v = .slice va k vc := by
      rcases hO.2 with ⟨h, h0⟩ | ⟨g, cap, cur, h, _⟩
      · exact ⟨none, 0, by rw [h, h0]⟩
      · exact ⟨_, _, h⟩
    have hkb : k ≤ 2000 := by have := HM.out; omega
    by_cases hkn : k < mo
    · have d0 : (k : Int) < ((mo : Nat) : Int) := by omega
      obtain ⟨f2, f3, f5, f6, f7⟩ := hG.fc
      obtain ⟨q0, q1, q2, q3, q4⟩ := hG.qcells
      have r3 := hG.qfro 3
      have HG := Lib.hid hG
      have HO := Lib.hid hO
      have hwl := W1_lt (leftW_by k Lc HLB.out)
      obtain ⟨x, hx⟩ : ∃ x, x = W1 (leftW k Lc) := ⟨_, rfl⟩
      rw [← hx] at hwl
      have WD := Lib.hid ((word_any (w.heap.size + 2) (leftW k Lc) wo.drew (hG.left.keep (Nat.le_refl _) (fun b hb => rfl))).mono (fun e w' h => show e = .returned (.int .i64 (x : Int)) ∧ Left w' (w.heap.size + 2) (W2 (leftW k Lc)) ∧ Fs [w.heap.size + 2] wo w' ∧ w'.heap.size = wo.heap.size from ⟨h.1.trans (by rw [hx]; rfl), h.2.1, ((Fs.refl _ wo).drew).trans h.2.2.1, h.2.2.2⟩))
      have HX := Lib.hid hx
      have ux : IntKind.u16.wrap (x : Int) = (x : Int) := by simp [IntKind.wrap, IntKind.bits, IntKind.signed]; omega
      have OA := Lib.hid (fun (w7 : World) (hf : Fs [w.heap.size + 2] wo w7) => own33_keep hO (fun b hb hb' => hf.block b hb' (by simp; omega)))
      have GA := Lib.hid (fun (w7 : World) (hl : Left w7 (w.heap.size + 2) (W2 (leftW k Lc))) (hf : Fs [w.heap.size + 2] wo w7) => hG.word hl hf)
      have sw := blk_lt hG.2.2.2.1
      have SW := Lib.hid sw
      have DX := Lib.hid (show k + 1 ≤ 2001 from by have := HM.out; omega)
      clear hG hO hx sw
      go_wp2_with fail
      go_region_law (first
        | (refine step_word rfl 55 rfl wo.drew _ rfl _ WD.out ?_; rintro e w7 ⟨rfl, hl7, hf7, hz7⟩; refine ⟨_, rfl, ?_⟩; have H7 := Lib.hid (GA.out w7 hl7 hf7); have O7 := Lib.hid (OA.out w7 hf7); have Z7 := Lib.hid hz7; have p3 := H7.out.qcells.2.2.2.1; have s3 := H7.out.qfro 3; have p3b : (w7.alloc (.cells #[.int .u16 (x : Int)] 34 (0, 0))).cell? ⟨w.heap.size + 3, 3, none⟩ = some (.slice va k vc) := (World.cell?_of_block (a := ⟨w.heap.size + 3, 3, none⟩) (heap_alloc_old w7 _ (blk_lt H7.out.2.2.2.1))).trans p3; clear hl7 hf7 hz7)
        | (refine step_append_lies _ rfl (.tmp 54) (.tmp 58) 30 rfl (w.heap.size + 4) 34 ti (.int .u16 0) 1 2 Try.underlying30 hi hz0 hz1 hz2 rfl (by decide) (.slice va k vc) k (wv (readW k Lc)) rfl (O7.out.alloc _) ⟨w7.heap.size, 0, none⟩ 1 1 [.int .u16 (x : Int)] rfl rfl (World.news_of_block (heap_alloc_new w7 (.cells #[.int .u16 (x : Int)] 34 (0, 0)))) (by intro u hu; simp at hu; subst hu; rfl) (by omega) (by have := DX.out; unfold maxLen; omega) (by have := DX.out; omega) (by have := Z7.out; have := SW.out; simp; omega) (w7.heap.size + 1) (by simp) ?_; intro g' cap' w8 ho' hg' hnn hlt; have G8 := Lib.hid (gs_grow H7.out (O7.out.alloc _) hg'); have p3 := G8.out.qcells.2.2.2.1; have s3 := G8.out.qfro 3))
      all_goals
        have o9 : (w8.setCell ⟨w.heap.size + 3, 3, none⟩ (.slice (some ⟨g', 0, none⟩) (k + 1) cap')).ownsRow (w.heap.size + 4) 34 1 (.slice (some ⟨g', 0, none⟩) (k + 1) cap') (k + 1) (wv (readW (k + 1) Lc)) := by
          refine own33_keep ?_ (fun b hb _ => Below.heap_setCell _ _ _ _ (show b ≠ w.heap.size + 3 by omega))
          rw [readW_snoc, wv_app, ← HX.out]
          exact ho'
        have O9 := Lib.hid o9
        have G9 := Lib.hid (G8.out.setq 3 (.slice (some ⟨g', 0, none⟩) (k + 1) cap'))
        clear o9 ho' hg' hnn hlt f2 f3 f5 f6 f7 q0 q1 q2 q3 q4 r3 p3 s3
        generalize (w8.setCell ⟨w.heap.size + 3, 3, none⟩ (.slice (some ⟨g', 0, none⟩) (k + 1) cap')) = w9 at O9 G9 ⊢
        go_wp2_with fail
        go_roundw
        case rel => exact ⟨k + 1, .slice (some ⟨g', 0, none⟩) (k + 1) cap', by omega, by go_num, by rw [leftW_succ]; exact G9.out, O9.out⟩
        case measure => simp [intOf]; omega
    · obtain ⟨q0, q1, q2, q3, q4⟩ := hG.qcells
      obtain ⟨z0, z1, z2, z3, z4⟩ := hG.zcells
      have y0 := hG.zero 0
      have y1 := hG.zero 1
      have y2 := hG.zero 2
      have y3 := hG.zero 3
      have y4 := hG.zero 4
      have hk' : k = mo := by omega
      have hbel := hG.bel
      have sw := blk_lt hG.2.2.2.1
      have hrl := readW_len k Lc
      have hO2 : wo.ownsRow (w.heap.size + 4) 34 1 (.slice va k vc) (readW k Lc).length (wv (readW k Lc)) := by rw [hrl]; exact hO
      have hne : ∀ (W' : World), (∀ b, w.heap.size + 4 ≤ b → b < wo.heap.size → W'.heap[b]? = wo.heap[b]?) → ArgW W' va k vc (readW k Lc) := by
        intro W' hb
        obtain ⟨a', c', e, hA, _⟩ := own33_arg (own33_keep hO2 hb) (readW_by k Lc HLB.out)
        rw [hrl] at e hA
        simp only [Value.slice.injEq, true_and] at e
        obtain ⟨rfl, rfl⟩ := e
        exact hA
      have hfr : ∀ b off, va = some ⟨b, off, none⟩ → w.heap.size ≤ b := by
        obtain ⟨a', c', e, _, hB⟩ := own33_arg hO2 (readW_by k Lc HLB.out)
        rw [hrl] at e
        simp only [Value.slice.injEq, true_and] at e
        obtain ⟨rfl, rfl⟩ := e
        intro b off e
        have := hB b off e
        omega
      have hfin : ∀ (W' : World), (∀ b, w.heap.size + 4 ≤ b → b < wo.heap.size → W'.heap[b]? = wo.heap[b]?) → Below w.heap.size w W' → GetFP w ⟨rd, wt, false, fq, le, mo, false, false⟩ L (.returned (.agg #[.int .i64 (x0 : Int), .int .i64 ((W1 R0 : Nat) : Int), .int .i64 ((y7 : Nat) : Int), .slice va k vc, .int .i64 0])) W' := by
        intro W' hb hb2
        have hV : (getN ⟨rd, wt, false, fq, le, mo, false, false⟩ L).V = readW k Lc := by
          rw [hk', HLC.out]
          simp [-List.drop_one, getN, ← HR0.out, HQ.out, HM.out, HY7.out]
        refine ⟨va, k, vc, ?_, by rw [hV]; exact hne W' hb, hb2, hfr⟩
        rw [HX0.out]
        simp [-List.drop_one, rv, getN, W1, W2, ← HR0.out, HQ.out, HM.out, HY7.out]
      have HFIN := Lib.hid hfin
      have HBEL := Lib.hid hbel
      have HK := Lib.hid hk'
      clear hfr hfin hbel hG hO hO2 hne hk' hrl
      go_wp2_with fail
      exact bodyPost_ret (v := .agg #[.int .i64 (x0 : Int), .int .i64 ((W1 R0 : Nat) : Int), .int .i64 ((y7 : Nat) : Int), .slice va k vc, .int .i64 0]) (by simp [results, Try.results52, go_sem, z0, z1, z2, z3, z4]) rfl (HFIN.out _ (fun b hb _ => set5_blk (show b ≠ w.heap.size + 1 by omega) _ _ _ _ _) (set5_bel HBEL.out (show w.heap.size ≤ w.heap.size + 1 by omega) _ _ _ _ _))
end Go.Proofs.Ytdolgpogjnfpkaa
