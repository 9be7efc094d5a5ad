/- The walk of VoteMore. -/
import Derived.Test.YtblcihpojnfhfaaMore0
import Derived.Deep.CutRange
import Derived.Deep.DeepCutAuto
namespace Go.Proofs.Ytblcihpojnfhfaa
set_option linter.unusedVariables false
open Go.ChangeShapes Go.WideShapes Go.ChangeAt Go.RowKit

theorem Own.of_row' {B : Nat} {w : World} {v : Value} {n : Nat} {L : List I} (h : w.ownsRow B 29 3 v n (flat L)) (hn : n = L.length) (hv : v ≠ .slice none 0 0) : ∃ g cap, v = .slice (some ⟨g, 0, none⟩) n cap ∧ Own B w g cap L := by
  obtain ⟨_, ⟨h1, h0⟩ | ⟨g, cap, cur, hv, hb, hh, hl, hm, hs, ht⟩⟩ := h
  · exact absurd h1 hv
  · exact ⟨g, cap, hv, hb, by omega, hm, cur, hh, hs, by rw [← hn]; exact ht⟩

/-- Append to a slice of the call's own, as one step of a region that draws; what is appended may be nothing. -/
theorem step_app0 {ops : Array Oper} {o : Oper} {a : Act} {w : World} {K : Act → World → Prop} {Q : Exit → Act → World → Prop} {E : Prop} (hgd : o.guard = none) (s x : Operand)
    (ho : o.op = .call { callee := .builtin .append, args := #[s, x], argTypes := #[22, 22] }) (B : Nat) (hB : B ≤ w.heap.size) (g0 c0 n : Nat) (L : List I) (hs : a.eval s = .slice (some ⟨g0, 0, none⟩) n c0)
    (hown : w.ownsRow B 29 3 (.slice (some ⟨g0, 0, none⟩) n c0) n (flat L)) (hn : n = L.length) (b off m c : Nat) (M : List I) (hx : a.eval x = .slice (some ⟨b, off, none⟩) m c) (hM : M.length = m)
    (hc : ∀ j u, (flat M)[j]? = some u → w.cell? ((Addr.mk b off none).add j) = some u) (hle : n + m ≤ 10000)
    (h : ∀ g' cap' w', Own B w' g' cap' (L ++ M) → w'.ownsRow B 29 3 (.slice (some ⟨g', 0, none⟩) (n + m) cap') (n + m) (flat (L ++ M)) → w.grownBy w' (some g0) → K (a.put o.dst (.slice (some ⟨g', 0, none⟩) (n + m) cap')) w') :
    if Region.wanted o (yielded ops a.tmps) = true then Oper.wp Try.prog o a w K Q else E := by
  have hw : Region.wanted o (yielded ops a.tmps) = true := by simp [Region.wanted, hgd]
  rw [if_pos hw]
  obtain ⟨ti, hi, hz0, hz1, hz2⟩ := info_parts info29
  refine wp_append_own w s x 22 ho B 29 ti (.agg #[.bool false, .bool false, .bool false]) 3 3 Try.underlying22 hi hz0 hz1 hz2 rfl (by decide) _ n (flat L) hs hown ⟨b, off, none⟩ m c (flat M) hx (by rw [flat_len, hM]) hc (flat_one _) (by unfold maxLen; omega) (by omega) hB ?_
  intro v' w' hown' hg hnn
  have hown'' : w'.ownsRow B 29 3 v' (n + m) (flat (L ++ M)) := by simpa [flat] using hown'
  obtain ⟨g', cap', rfl, ho'⟩ := Own.of_row' (L := L ++ M) hown'' (by simp [hn, hM]) (fun e => by have := (hnn.1 e).1; simp at this)
  exact h g' cap' w' ho' hown'' hg

set_option maxRecDepth 100000 in
set_option maxHeartbeats 2000000 in
theorem more_walk (n : Int) (b off len cap : Nat) (at' : Int) (bad : Bool) (g : Nat → I) (w : World) (h : Sl w (some ⟨b, off, none⟩) len g) (h0 : 0 < len) (h5 : len ≤ 5000) (hcap : len ≤ cap) (hcm : cap ≤ maxLen) (n0 : -9223372036854775808 ≤ n) (n1 : n ≤ 9223372036854775807) (t0 : 0 ≤ at') (t1 : at' ≤ 65535) :
    Calls Try.prog 4 #[.int .i64 n, .slice (some ⟨b, off, none⟩) len cap, .int .u16 at', .bool bad] w fun e w' => e = .returned (.bool true) ∧ Below w.heap.size w w' := by
  obtain ⟨b', off', ha, hlt, hc⟩ := h.pos h0
  simp at ha
  obtain ⟨rfl, rfl⟩ := ha
  have H := Lib.hid h
  have HC := Lib.hid hc
  clear h hc
  unfold maxLen at hcm
  have d1 : decide (5000 < (len : Int)) = false := by simp; omega
  have d2 : ((len : Int) == 0) = false := by simp; omega
  obtain ⟨K, hK⟩ : ∃ K : Nat, at' % (len : Int) = (K : Int) := ⟨(at' % (len : Int)).toNat, (Int.toNat_of_nonneg (Int.emod_nonneg _ (by omega))).symm⟩
  have hKlt : K < len := by have := Int.emod_lt_of_pos at' (show (0 : Int) < len by omega); omega
  have HKK := Lib.hid hK
  clear hK
  go_enter Try.func4, Try.ntmps4
  go_wp2_with fail
  refine (head_any w).mono ?_
  rintro e w0 ⟨rfl, hb⟩
  have hcw : ∀ i, i < len → ∀ j, j < 3 → w0.cell? ⟨b, off + i * 3 + j, none⟩ = (inV (g i))[j]? := fun i hi' j hj => (hb.cell (p := ⟨b, off + i * 3 + j, none⟩) hlt).trans (HC.out i hi' j hj)
  have HCW := Lib.hid hcw
  have HB := Lib.hid hb
  have hbs : w.heap.size ≤ w0.heap.size := hb.size
  clear hcw hb
  go_wp2_with (at_builtin; refine wpList_copy_in rfl (.tmp 29) (.tmp 30) rfl _ rfl b off len cap g rfl h0 (by omega) (by omega) HCW.out ?_)
  intro gx cx wx ox bx
  rw [HKK.out]
  have cl := ox.le
  have cm := ox.mx
  rw [lst_len] at cl
  unfold maxLen at cm
  have f0 := ox.free (K * 3)
  have f1 := ox.free (K * 3 + 1)
  have e0 : wx.cell? ⟨gx, K * 3, none⟩ = some (.bool ((lst g len).getD K i0).1) := ox.cell K 0 (by rw [lst_len]; exact hKlt) (by omega)
  have e1 : wx.cell? ⟨gx, K * 3 + 1, none⟩ = some (.bool ((lst g len).getD K i0).2.1) := ox.cell K 1 (by rw [lst_len]; exact hKlt) (by omega)
  have OX := Lib.hid ox
  have BX := Lib.hid bx
  clear ox bx
  have hX := trips_more n g len K bad hKlt
  have hX1 : tripsF n g len = true → tripsF n (fun i => ((lst g len).set K (more1 (g K) bad)).getD i i0) len = true := hX.1
  have hX2 : (g K).2.2 = true → tripsF n (fun i => ((lst g len).set K (more1 (g K) bad)).getD i i0) len = tripsF n g len := hX.2
  clear hX
  generalize hX0 : (lst g len).set K (more1 (g K) bad) = X at hX1 hX2
  have hXl : X.length = len := by rw [← hX0, List.length_set, lst_len]
  have HX1 := Lib.hid hX1
  have HX2 := Lib.hid hX2
  have HX0 := Lib.hid hX0
  have HXL := Lib.hid hXl
  clear hX1 hX2 hX0 hXl
  obtain ⟨wq, hwq⟩ : ∃ wq, wq = wx.setCell ⟨gx, K * 3 + (if bad then 1 else 0), none⟩ (.bool true) := ⟨_, rfl⟩
  have oq : Own w0.heap.size wq gx cx X ∧ Below w0.heap.size w0 wq := by
    have hg := lst_get g len K hKlt
    subst hwq
    rw [← HX0.out]
    refine ⟨?_, BX.out.setCell (p := ⟨gx, _, none⟩) OX.out.hg (.bool true)⟩
    cases bad
    · exact OX.out.set K 0 true _ (by rw [lst_len]; exact hKlt) (by omega) (by rw [hg]; rfl)
    · exact OX.out.set K 1 true _ (by rw [lst_len]; exact hKlt) (by omega) (by rw [hg]; rfl)
  have OQ := Lib.hid oq
  have HWQ := Lib.hid hwq
  clear oq hwq
  go_upto_if 32 with fail
  go_cut [] (fun wx => wx = wq)
  case first =>
    cases bad
    all_goals
      go_wp2_with fail
      go_meet
      rw [HWQ.out]; try rfl
  case rest =>
    rw [hcut]
    clear hcut wc f0 f1 e0 e1 BX OX HWQ HX0
    obtain ⟨oq, bq⟩ := OQ.out
    have SX := Lib.hid (oq.sl' HXL.out)
    have SL := Lib.hid (H.out.below (HB.out.trans (bq.mono hbs)))
    have BQ := Lib.hid bq
    have hqs : w0.heap.size ≤ wq.heap.size := bq.size
    have hqc : ∀ W : World, Below wq.heap.size wq W → W.cell? ⟨b, off + K * 3 + 2, none⟩ = some (.bool (g K).2.2) := fun W hW => (hW.cell (p := ⟨b, off + K * 3 + 2, none⟩) (by simp; omega)).trans ((bq.cell (p := ⟨b, off + K * 3 + 2, none⟩) (by simp; omega)).trans (HCW.out K hKlt 2 (by omega)))
    have HQC := Lib.hid hqc
    clear hqc oq bq
    go_upto_region 9 with fail
    go_cut [65] (fun s wx => s = .bool false ∧ Below wq.heap.size wq wx)
    case first =>
      generalize hp : (g K).2.2 = p at HQC HX2
      generalize ht : tripsF n g len = t at HX1 HX2
      generalize hu : tripsF n (fun i => X.getD i i0) len = u at HX1 HX2
      have HT := Lib.hid ht
      have HU := Lib.hid hu
      clear hp ht hu
      have hc : (t = true ∧ u = true) ∨ (t = false ∧ p = false) ∨ (t = false ∧ p = true ∧ u = false) := by
        have h1 := HX1.out
        have h2 := HX2.out
        revert h1 h2
        clear HT HU HQC HX1 HX2
        cases t <;> cases u <;> cases p <;> decide
      clear HX1 HX2
      rcases hc with ⟨rfl, rfl⟩ | ⟨rfl, rfl⟩ | ⟨rfl, rfl, rfl⟩
      · go_wp2_with fail
        refine (trips_all n _ len cap g _ SL.out).mono ?_
        rintro e v1 ⟨rfl, q1⟩
        rw [HT.out]
        go_wp2_with fail
        refine (trips_all n _ len cx _ _ (SX.out.below q1)).mono ?_
        rintro e v2 ⟨rfl, q2⟩
        rw [HU.out]
        have r2 := q1.trans (q2.mono q1.size)
        have c2 := HQC.out _ r2
        cases p
        · go_wp2_with fail
          go_meet
          exact ⟨rfl, r2⟩
        · go_wp2_with fail
          refine (trips_all n _ len cap g _ (SL.out.below r2)).mono ?_
          rintro e v3 ⟨rfl, q3⟩
          rw [HT.out]
          have r3 := r2.trans (q3.mono r2.size)
          go_wp2_with fail
          refine (trips_all n _ len cx _ _ (SX.out.below r3)).mono ?_
          rintro e v4 ⟨rfl, q4⟩
          rw [HU.out]
          have r4 := r3.trans (q4.mono r3.size)
          go_wp2_with fail
          go_meet
          exact ⟨rfl, r4⟩
      · go_wp2_with fail
        refine (trips_all n _ len cap g _ SL.out).mono ?_
        rintro e v1 ⟨rfl, q1⟩
        rw [HT.out]
        have c2 := HQC.out _ q1
        go_wp2_with fail
        go_meet
        exact ⟨rfl, q1⟩
      · go_wp2_with fail
        refine (trips_all n _ len cap g _ SL.out).mono ?_
        rintro e v1 ⟨rfl, q1⟩
        rw [HT.out]
        have c2 := HQC.out _ q1
        go_wp2_with fail
        refine (trips_all n _ len cap g _ (SL.out.below q1)).mono ?_
        rintro e v2 ⟨rfl, q2⟩
        rw [HT.out]
        have r2 := q1.trans (q2.mono q1.size)
        go_wp2_with fail
        refine (trips_all n _ len cx _ _ (SX.out.below r2)).mono ?_
        rintro e v3 ⟨rfl, q3⟩
        rw [HU.out]
        have r3 := r2.trans (q3.mono r2.size)
        go_wp2_with fail
        go_meet
        exact ⟨rfl, r3⟩
    case rest =>
      obtain ⟨rfl, hb2⟩ := hcut
      have SL2 := Lib.hid (SL.out.below hb2)
      have B2 := Lib.hid (BQ.out.trans (hb2.mono hqs))
      clear hb2 HX1 HX2 HQC SX SL BQ
      obtain ⟨w2, hw2⟩ : ∃ w2, w2 = wc := ⟨_, rfl⟩
      subst hw2
      go_upto_region 11 with fail
      go_cut [79] (fun s wx => s = .bool false ∧ Below w2.heap.size w2 wx)
      case first =>
        by_cases hn : 1 < n
        · have hf := trips_fewer n g len hn
          have HF := Lib.hid hf
          clear hf
          have dn : decide (1 < n) = true := by simpa using hn
          generalize ht : tripsF n g len = t at HF
          have HT := Lib.hid ht
          clear ht
          cases t
          · go_wp2_with fail
            refine (trips_all n _ len cap g _ SL2.out).mono ?_
            rintro e v1 ⟨rfl, q1⟩
            rw [HT.out]
            go_wp2_with fail
            go_meet
            exact ⟨rfl, q1⟩
          · have HF1 := Lib.hid (HF.out rfl)
            go_wp2_with fail
            refine (trips_all n _ len cap g _ SL2.out).mono ?_
            rintro e v1 ⟨rfl, q1⟩
            rw [HT.out]
            go_wp2_with fail
            refine (trips_all (n - 1) _ len cap g _ (SL2.out.below q1)).mono ?_
            rintro e v2 ⟨rfl, q2⟩
            rw [HF1.out]
            have r2 := q1.trans (q2.mono q1.size)
            go_wp2_with fail
            go_meet
            exact ⟨rfl, r2⟩
        · have dn : decide (1 < n) = false := by simpa using hn
          go_wp2_with fail
          go_meet
          exact ⟨rfl, Below.refl _ _⟩
      case rest =>
        obtain ⟨rfl, hb3⟩ := hcut
        obtain ⟨w3, hw3⟩ : ∃ w3, w3 = wc := ⟨_, rfl⟩
        subst hw3
        have SL3 := Lib.hid (SL2.out.below hb3)
        have b23 := B2.out.trans (hb3.mono B2.out.size)
        have B3 := Lib.hid b23
        have h03 : w0.heap.size ≤ w3.heap.size := b23.size
        have hcw3 : ∀ i, i < len → ∀ j, j < 3 → w3.cell? ⟨b, off + i * 3 + j, none⟩ = (inV (g i))[j]? := fun i hi' j hj => (b23.cell (p := ⟨b, off + i * 3 + j, none⟩) (by simp; omega)).trans (HCW.out i hi' j hj)
        have HCW3 := Lib.hid hcw3
        clear hcw3 hb3 b23 SL2 B2
        go_wp2_with (at_builtin; refine wpList_copy_in rfl (.tmp 80) (.tmp 81) rfl _ rfl b off len cap g rfl h0 (by omega) (by omega) HCW3.out ?_)
        intro gy cy wy oy by'
        have cyl := oy.le
        have cym := oy.mx
        rw [lst_len] at cyl
        unfold maxLen at cym
        have y0 := oy.cell K 0 (by rw [lst_len]; exact hKlt) (by omega)
        have y1 := oy.cell K 1 (by rw [lst_len]; exact hKlt) (by omega)
        have y2 := oy.cell K 2 (by rw [lst_len]; exact hKlt) (by omega)
        simp only [inV, Nat.add_zero, List.getElem?_cons_zero, List.getElem?_cons_succ] at y0 y1 y2
        have yf0 := oy.free (K * 3)
        have yf1 := oy.free (K * 3 + 1)
        have yf2 := oy.free (K * 3 + 2)
        have hgy := oy.hg
        have OY := Lib.hid oy
        have BY := Lib.hid by'
        clear oy by'
        go_upto_region 15 with fail
        have oyF := OY.out.set3 K (false, false, true) (by rw [lst_len]; exact hKlt)
        have byF : Below w3.heap.size w3 (((wy.setCell ⟨gy, K * 3, none⟩ (.bool false)).setCell ⟨gy, K * 3 + 1, none⟩ (.bool false)).setCell ⟨gy, K * 3 + 2, none⟩ (.bool true)) := ((BY.out.setCell (p := ⟨gy, K * 3, none⟩) hgy _).setCell (p := ⟨gy, K * 3 + 1, none⟩) hgy _).setCell (p := ⟨gy, K * 3 + 2, none⟩) hgy _
        simp only [] at oyF
        clear y0 y1 y2 yf0 yf1 yf2
        generalize ((wy.setCell ⟨gy, K * 3, none⟩ (.bool false)).setCell ⟨gy, K * 3 + 1, none⟩ (.bool false)).setCell ⟨gy, K * 3 + 2, none⟩ (.bool true) = w4 at oyF byF ⊢
        have h34 : w3.heap.size ≤ w4.heap.size := byF.size
        have hc4 : ∀ W : World, Below w4.heap.size w4 W → ∀ i, i < len → ∀ j, j < 3 → W.cell? ⟨b, off + i * 3 + j, none⟩ = (inV (g i))[j]? := fun W hW i hi j hj => (hW.cell (p := ⟨b, off + i * 3 + j, none⟩) (by simp; omega)).trans ((byF.cell (p := ⟨b, off + i * 3 + j, none⟩) (by simp; omega)).trans (HCW3.out i hi j hj))
        have HC4 := Lib.hid hc4
        have SY := Lib.hid (oyF.sl' (n := len) (by rw [List.length_set, lst_len]))
        have SL4 := Lib.hid (SL3.out.below byF)
        have B4 := Lib.hid (B3.out.trans (byF.mono h03))
        clear hc4 oyF byF OY BY SL3 B3
        go_cut [13] (fun s wx => ∃ gz cz, s = .slice (some ⟨gz, 0, none⟩) (len - 1) cz ∧ Own w4.heap.size wx gz cz ((lst g len).take K ++ (lst g len).drop (K + 1)) ∧ Below w4.heap.size w4 wx)
        case first =>
          have hz : ∀ W : World, W = (w4.alloc (.cells #[] 29 (0, 0))).drew → W.ownsRow w4.heap.size 29 3 (.slice (some ⟨w4.heap.size, 0, none⟩) 0 0) 0 (flat []) := fun W hW => by
            subst hW; exact own_zero (Nat.le_refl _) (heap_at rfl)
          have hb1 : Below w4.heap.size w4 (w4.alloc (.cells #[] 29 (0, 0))).drew := (Below.alloc (Below.refl _ _) (Nat.le_refl _) _).drew
          have HZ := Lib.hid hz
          have HB1 := Lib.hid hb1
          clear hz hb1
          have gD : ∀ i, i < len - (K + 1) → ((lst g len).drop (K + 1)).getD i i0 = g (K + 1 + i) := fun i hi => by
            rw [← lst_get g len (K + 1 + i) (by omega)]; simp [List.getD, List.getElem?_drop]
          have gT : ∀ i, i < K → ((lst g len).take K).getD i i0 = g (0 + i) := fun i hi => by
            rw [← lst_get g len (0 + i) (by omega)]; simp [List.getD, List.getElem?_take_of_lt hi]
          have GD := Lib.hid gD
          have GT := Lib.hid gT
          clear gD gT
          have hKle : K ≤ len := by omega
          have hKcap : K ≤ cap := by omega
          have hK1le : K + 1 ≤ len := by omega
          have hK1cap : K + 1 ≤ cap := by omega
          have hKw : IntKind.i64.wrap (↑K + 1) = ↑K + 1 := IntWalk.i64_in _ (by omega)
          have i1 : (0 : Int) ≤ (K : Int) + 1 := by omega
          have i2 : (K : Int) + 1 ≤ (len : Int) := by omega
          have hMl : ((lst g len).take K).length = K := by rw [List.length_take, lst_len]; omega
          have hDl : ((lst g len).drop (K + 1)).length = len - (K + 1) := by rw [List.length_drop, lst_len]
          have HML := Lib.hid hMl
          have HDL := Lib.hid hDl
          have hsum : K + (len - (K + 1)) = len - 1 ∧ (K + 1 = cap → K + 0 = len - 1) := by omega
          have HSUM := Lib.hid hsum
          clear hMl hDl hsum
          have hz0 : ∀ (W : World) (g1 cap1 : Nat), W.ownsRow w4.heap.size 29 3 (.slice (some ⟨g1, 0, none⟩) (0 + K) cap1) (0 + K) (flat ([] ++ (lst g len).take K)) → W.ownsRow w4.heap.size 29 3 (.slice (some ⟨g1, 0, none⟩) K cap1) K (flat ((lst g len).take K)) := by
            intro W g1 cap1 hh
            rwa [Nat.zero_add, List.nil_append] at hh
          have Z1 := Lib.hid hz0
          clear hz0
          by_cases hK1c : K + 1 = cap
          · obtain rfl := hK1c
            have i3 : (K : Int) ≤ (K : Int) + 1 := by omega
            go_region_law (first
              | (refine step_app0 rfl (.tmp 87) (.tmp 90) rfl w4.heap.size (by simp) w4.heap.size 0 0 [] rfl (HZ.out _ rfl) rfl b off K _ ((lst g len).take K) rfl HML.out (part_cells (k := 0) (m := K) (len := len) HML.out GT.out (by omega) (HC4.out _ HB1.out)) (by omega) ?_; intro g1 cap1 w1 o1 z1 q1; have b1 := HB1.out.grown q1 (by simp) (fun k hk => by simp at hk; omega))
              | (refine step_app0 rfl (.tmp 91) (.tmp 95) rfl w4.heap.size (b1.size) g1 cap1 K ((lst g len).take K) rfl (Z1.out _ _ _ z1) HML.out.symm b off 0 _ ((lst g len).drop (K + 1)) rfl (by rw [HDL.out]; omega) (fun j u hu => by rw [List.drop_eq_nil_of_le (by rw [lst_len]; omega)] at hu; simp [flat] at hu) (by omega) ?_; intro g2 cap2 w2 o2 z2 q2; have b2 := b1.grown q2 b1.size (fun k hk => by simp at hk; have := o1.hg; omega)))
            go_wp2_with fail
            go_meet
            exact ⟨g2, cap2, by congr 1; omega, by simpa using o2, b2⟩
          · have hK1c' : ¬ cap = K + 1 := by omega
            go_region_law (first
              | (refine step_app0 rfl (.tmp 87) (.tmp 90) rfl w4.heap.size (by simp) w4.heap.size 0 0 [] rfl (HZ.out _ rfl) rfl b off K cap ((lst g len).take K) rfl HML.out (part_cells (k := 0) (m := K) (len := len) HML.out GT.out (by omega) (HC4.out _ HB1.out)) (by omega) ?_; intro g1 cap1 w1 o1 z1 q1; have b1 := HB1.out.grown q1 (by simp) (fun k hk => by simp at hk; omega))
              | (refine step_app0 rfl (.tmp 91) (.tmp 95) rfl w4.heap.size (b1.size) g1 cap1 K ((lst g len).take K) rfl (Z1.out _ _ _ z1) HML.out.symm b (off + (K + 1) * 3) (len - (K + 1)) (cap - (K + 1)) ((lst g len).drop (K + 1)) rfl HDL.out (part_cells (k := K + 1) (m := len - (K + 1)) (len := len) HDL.out GD.out (by omega) (HC4.out _ b1)) (by omega) ?_; intro g2 cap2 w2 o2 z2 q2; have b2 := b1.grown q2 b1.size (fun k hk => by simp at hk; have := o1.hg; omega)))
            go_wp2_with fail
            go_meet
            exact ⟨g2, cap2, by congr 1; omega, by simpa using o2, b2⟩
        case rest =>
          obtain ⟨gz, cz, rfl, oz, bz⟩ := hcut
          have SZ := Lib.hid (oz.sl' (n := len - 1) (by rw [List.length_append, List.length_take, List.length_drop, lst_len]; omega))
          have SY5 := Lib.hid (SY.out.below bz)
          have B5 := Lib.hid ((HB.out.trans ((B4.out.trans (bz.mono (Nat.le_trans h03 h34))).mono hbs)))
          have hV := Lib.hid (cnt_byp votesF rfl g len K hKlt)
          have hY := Lib.hid (cnt_byp yesF rfl g len K hKlt)
          have hN := Lib.hid (healthy_not n g len K hKlt)
          have hT : tripsF n (fun i => ((lst g len).set K (false, false, true)).getD i i0) len = tripsF n (fun i => ((lst g len).take K ++ (lst g len).drop (K + 1)).getD i i0) (len - 1) := by unfold tripsF; rw [hV.out, hY.out]
          have HT := Lib.hid hT
          clear hT oz bz
          go_wp2_with fail
          refine (trips_all n _ len cy _ _ SY5.out).mono ?_
          rintro e v1 ⟨rfl, q1⟩
          rw [HT.out]
          go_wp2_with fail
          refine (trips_all n _ (len - 1) cz _ _ (SZ.out.below q1)).mono ?_
          rintro e v2 ⟨rfl, q2⟩
          have r2 := q1.trans (q2.mono q1.size)
          go_wp2_with fail
          refine (yes_all _ len cy _ _ (SY5.out.below r2)).mono ?_
          rintro e v3 ⟨rfl, q3⟩
          rw [hY.out]
          have r3 := r2.trans (q3.mono r2.size)
          go_wp2_with fail
          refine (yes_all _ (len - 1) cz _ _ (SZ.out.below r3)).mono ?_
          rintro e v4 ⟨rfl, q4⟩
          have r4 := r3.trans (q4.mono r3.size)
          go_wp2_with fail
          refine (need_all n _ len cy _ _ (SY5.out.below r4)).mono ?_
          rintro e v5 ⟨rfl, q5⟩
          rw [hV.out]
          have r5 := r4.trans (q5.mono r4.size)
          go_wp2_with fail
          refine (need_all n _ (len - 1) cz _ _ (SZ.out.below r5)).mono ?_
          rintro e v6 ⟨rfl, q6⟩
          have r6 := r5.trans (q6.mono r5.size)
          go_wp2_with fail
          refine (healthy_all n _ len cy _ _ (SY5.out.below r6)).mono ?_
          rintro e v7 ⟨rfl, q7⟩
          rw [hN.out]
          have r7 := r6.trans (q7.mono r6.size)
          go_wp2_with fail
          go_ret
          exact ⟨rfl, B5.out.trans (r7.mono B5.out.size)⟩

theorem more_short (n : Int) (a : Option Addr) (len cap : Nat) (at' : Int) (bad : Bool) (w : World) (hl : len ≤ maxLen) (h : 5000 < len ∨ len = 0) :
    Calls Try.prog 4 #[.int .i64 n, .slice a len cap, .int .u16 at', .bool bad] w fun e w' => e = .returned (.bool true) ∧ Below w.heap.size w w' := by
  unfold maxLen at hl
  by_cases h5 : 5000 < len
  · have d1 : decide (5000 < (len : Int)) = true := by simp; omega
    go_enter Try.func4, Try.ntmps4
    go_wp2_with fail
    refine (head_any w).mono ?_
    rintro e w0 ⟨rfl, hb⟩
    go_wp2_with fail
    go_ret
    exact ⟨rfl, hb⟩
  · have h0 : len = 0 := by omega
    subst h0
    go_enter Try.func4, Try.ntmps4
    go_wp2_with fail
    refine (head_any w).mono ?_
    rintro e w0 ⟨rfl, hb⟩
    go_wp2_with fail
    go_ret
    exact ⟨rfl, hb⟩

theorem more_all (n : Int) (wn : (Lit.int .i64 n).wf = true) (a : Option Addr) (len cap : Nat) (at' : Int) (wat : (Lit.int .u16 at').wf = true) (bad : Bool) (g : Nat → I) (w : World) (h : Sl w a len g ∧ len ≤ cap ∧ cap ≤ maxLen) :
    Calls Try.prog 4 #[.int .i64 n, .slice a len cap, .int .u16 at', .bool bad] w fun e w' => e = .returned (.bool true) ∧ Below w.heap.size w w' := by
  by_cases hs : 5000 < len ∨ len = 0
  · exact more_short n a len cap at' bad w h.1.le hs
  · obtain ⟨b, off, rfl, _, _⟩ := h.1.pos (by omega)
    exact more_walk n b off len cap at' bad g w h.1 (by omega) (by omega) h.2.1 h.2.2 (bd_i64 wn).1 (bd_i64 wn).2 (bd_u16 wat).1 (bd_u16 wat).2

end Go.Proofs.Ytblcihpojnfhfaa
