/- The walk of VoteTurns. -/
import Derived.Test.YtblcihpojnfhfaaTurn0
import Derived.Deep.RegionLaw
namespace Go.Proofs.Ytblcihpojnfhfaa
set_option linter.unusedVariables false
open Go.ChangeShapes Go.WideShapes Go.ChangeAt Go.RowKit

/-- Append to a slice of the call's own, as one step of a region that draws. -/
theorem step_app {ops : Array Oper} {o : Oper} {a : Act} {w : World} {K : Act → World → Prop} {Q : Exit → Act → World → Prop} {E : Prop} (hgd : o.guard = none) (s x : Operand)
    (ho : o.op = .call { callee := .builtin .append, args := #[s, x], argTypes := #[22, 22] }) (B : Nat) (hB : B ≤ w.heap.size) (v : Value) (n : Nat) (L : List I) (hs : a.eval s = v)
    (hown : w.ownsRow B 29 3 v n (flat L)) (hn : n = L.length) (b off m c : Nat) (M : List I) (hx : a.eval x = .slice (some ⟨b, off, none⟩) m c) (hM : M.length = m)
    (hc : ∀ j u, (flat M)[j]? = some u → w.cell? ((Addr.mk b off none).add j) = some u) (hle : n + m ≤ 10000) (hp : 0 < n + m)
    (h : ∀ g' cap' w', Own B w' g' cap' (L ++ M) → w.grownBy w' v.ownBlock → K (a.put o.dst (.slice (some ⟨g', 0, none⟩) (n + m) cap')) w') :
    if Region.wanted o (yielded ops a.tmps) = true then Oper.wp Try.prog o a w K Q else E := by
  have hw : Region.wanted o (yielded ops a.tmps) = true := by simp [Region.wanted, hgd]
  rw [if_pos hw]
  obtain ⟨ti, hi, hz0, hz1, hz2⟩ := info_parts info29
  refine wp_append_own w s x 22 ho B 29 ti (.agg #[.bool false, .bool false, .bool false]) 3 3 Try.underlying22 hi hz0 hz1 hz2 rfl (by decide) v n (flat L) hs hown ⟨b, off, none⟩ m c (flat M) hx (by rw [flat_len, hM]) hc (flat_one _) (by unfold maxLen; omega) (by omega) hB ?_
  intro v' w' hown' hg _
  obtain ⟨g', cap', rfl, ho'⟩ := Own.of_row (L := L ++ M) (by simpa [flat] using hown') (by simp [hn, hM]) hp
  exact h g' cap' w' ho' hg

theorem part_cells {w : World} {b off len k m : Nat} {g : Nat → I} {M : List I} (hM : M.length = m) (hg : ∀ i, i < m → M.getD i i0 = g (k + i)) (hkm : k + m ≤ len)
    (hc : ∀ i, i < len → ∀ j, j < 3 → w.cell? ⟨b, off + i * 3 + j, none⟩ = (inV (g i))[j]?) :
    ∀ j u, (flat M)[j]? = some u → w.cell? ((Addr.mk b (off + k * 3) none).add j) = some u := by
  intro j u hu
  have hj : j < m * 3 := by
    have := (List.getElem?_eq_some_iff.1 hu).1
    rw [flat_len, hM] at this
    exact this
  have h1 := hc (k + j / 3) (by omega) (j % 3) (by omega)
  have h2 := flat_get M (j / 3) (j % 3) (by rw [hM]; omega) (by omega)
  rw [show j / 3 * 3 + j % 3 = j by omega] at h2
  rw [addr_add_none, show off + k * 3 + j = off + (k + j / 3) * 3 + j % 3 by omega, h1, ← hg (j / 3) (by omega), ← h2]
  exact hu

set_option maxRecDepth 100000 in
set_option maxHeartbeats 2000000 in
theorem turns_walk (n : Int) (b off len cap : Nat) (at' : Int) (g : Nat → I) (w : World) (h : Sl w (some ⟨b, off, none⟩) len g) (h0 : 0 < len) (h5 : len ≤ 5000) (hcap : len ≤ cap) (hcm : cap ≤ maxLen) (t0 : 0 ≤ at') (t1 : at' ≤ 65535) :
    Calls Try.prog 5 #[.int .i64 n, .slice (some ⟨b, off, none⟩) len cap, .int .u16 at'] w fun e w' => e = .returned (.bool true) ∧ Below w.heap.size w w' := by
  obtain ⟨b', off', ha, hlt, hc⟩ := h.pos h0
  simp at ha
  obtain ⟨rfl, rfl⟩ := ha
  have H := Lib.hid h
  have HC := Lib.hid hc
  clear h hc
  unfold maxLen at hcm
  have d1 : decide (5000 < (len : Int)) = false := by simp; omega
  have d2 : ((len : Int) == 0) = false := by simp; omega
  obtain ⟨K, hK⟩ : ∃ K : Nat, at' % (len : Int) = (K : Int) := ⟨(at' % (len : Int)).toNat, (Int.toNat_of_nonneg (Int.emod_nonneg _ (by omega))).symm⟩
  have hKlt : K < len := by have := Int.emod_lt_of_pos at' (show (0 : Int) < len by omega); omega
  have hKc : ¬ K = cap := by omega
  have hKc' : ¬ cap = K := by omega
  go_enter Try.func5, Try.ntmps5
  go_wp2_with fail
  refine (head_any w).mono ?_
  rintro e w0 ⟨rfl, hb⟩
  have hcw : ∀ i, i < len → ∀ j, j < 3 → w0.cell? ⟨b, off + i * 3 + j, none⟩ = (inV (g i))[j]? := fun i hi' j hj => (hb.cell (p := ⟨b, off + i * 3 + j, none⟩) hlt).trans (HC.out i hi' j hj)
  have HCW := Lib.hid hcw
  have HB := Lib.hid hb
  clear hcw hb
  go_wp2_with fail
  have hKle : K ≤ len := by omega
  have hKcap : K ≤ cap := by omega
  have hbs : w.heap.size ≤ w0.heap.size := HB.out.size
  have hlt0 : b < w0.heap.size := by omega
  have hz : ∀ W : World, W = (w0.alloc (.cells #[] 29 (0, 0))).drew → W.ownsRow w0.heap.size 29 3 (.slice (some ⟨w0.heap.size, 0, none⟩) 0 0) 0 (flat []) := fun W hW => by
    subst hW; exact own_zero (Nat.le_refl _) (heap_at rfl)
  have hb1 : Below w0.heap.size w0 (w0.alloc (.cells #[] 29 (0, 0))).drew := (Below.alloc (Below.refl _ _) (Nat.le_refl _) _).drew
  have HZ := Lib.hid hz
  have HB1 := Lib.hid hb1
  clear hz hb1
  have hc1 : ∀ W : World, Below w0.heap.size w0 W → ∀ i, i < len → ∀ j, j < 3 → W.cell? ⟨b, off + i * 3 + j, none⟩ = (inV (g i))[j]? := fun W hW i hi j hj => (hW.cell (p := ⟨b, off + i * 3 + j, none⟩) hlt0).trans (HCW.out i hi j hj)
  have HC1 := Lib.hid hc1
  clear hc1
  have gD : ∀ i, i < len - K → ((lst g len).drop K).getD i i0 = g (K + i) := fun i hi => by
    rw [← lst_get g len (K + i) (by omega)]; simp [List.getD, List.getElem?_drop]
  have gT : ∀ i, i < K → ((lst g len).take K).getD i i0 = g (0 + i) := fun i hi => by
    rw [← lst_get g len (0 + i) (by omega)]; simp [List.getD, List.getElem?_take_of_lt hi]
  have GD := Lib.hid gD
  have GT := Lib.hid gT
  clear gD gT
  go_region_law (first
    | (refine step_app rfl (.tmp 27) (.tmp 30) rfl w0.heap.size (by simp) (.slice (some ⟨w0.heap.size, 0, none⟩) 0 0) 0 [] rfl (HZ.out _ rfl) rfl b (off + K * 3) (len - K) (cap - K) ((lst g len).drop K) rfl (by rw [List.length_drop, lst_len]) (part_cells (k := K) (m := len - K) (len := len) (by rw [List.length_drop, lst_len]) GD.out (by omega) (HC1.out _ HB1.out)) (by omega) (by omega) ?_; intro g1 cap1 w1 o1 q1; have b1 := HB1.out.grown q1 (by simp) (fun k hk => by simp [Value.ownBlock] at hk; omega))
    | (refine step_app rfl (.tmp 31) (.tmp 34) rfl w0.heap.size (b1.size) (.slice (some ⟨g1, 0, none⟩) (len - K) cap1) (len - K) ((lst g len).drop K) rfl (o1.to_row (by rw [List.nil_append, List.length_drop, lst_len])) (by rw [List.length_drop, lst_len]) b off K cap ((lst g len).take K) rfl (by rw [List.length_take, lst_len]; omega) (part_cells (k := 0) (m := K) (len := len) (by rw [List.length_take, lst_len]; omega) GT.out (by omega) (HC1.out _ b1)) (by omega) (by omega) ?_; intro g2 cap2 w2 o2 q2; have b2 := b1.grown q2 b1.size (fun k hk => by simp [Value.ownBlock] at hk; have := o1.hg; omega)))
  have b2' : Below w0.heap.size w0 w2 := b2
  have hl2 : (List.drop K (lst g len) ++ List.take K (lst g len)).length = len := by rw [List.length_append, List.length_drop, List.length_take, lst_len]; omega
  have hv2 := cnt_rot votesF g len K hKle
  have hy2 := cnt_rot yesF g len K hKle
  have O2 := Lib.hid o2
  have B2 := Lib.hid b2'
  have HL2 := Lib.hid hl2
  have HV2 := Lib.hid hv2
  have HY2 := Lib.hid hy2
  clear o2 b2' b2 b1 q1 q2 o1 hl2 hv2 hy2
  have hcx := O2.out.le
  have hcy := O2.out.mx
  rw [HL2.out] at hcx
  unfold maxLen at hcy
  have hgB := O2.out.hg
  go_wp2_with fail
  go_loopw [10] (fun i wr => ∃ (k : Nat) (X : List I), k ≤ len + 1 ∧ i = .int .i64 k ∧ X.length = len ∧ cnt votesF (fun j => X.getD j i0) len = cnt votesF g len ∧ cnt yesF (fun j => X.getD j i0) len = cnt yesF g len ∧ Own w0.heap.size wr g2 cap2 X ∧ Below w0.heap.size w0 wr) (fun i _ => (len + 2) - (intOf i).toNat)
  case atStart => exact ⟨0, _, by omega, rfl, HL2.out, HV2.out, HY2.out, O2.out, B2.out⟩
  case round =>
    clear O2 B2 HL2 HV2 HY2
    obtain ⟨w3, hw3⟩ : ∃ w3 : World, w3 = wr := ⟨_, rfl⟩
    subst hw3
    obtain ⟨k, X, hk, rfl, hXl, hv, hy, oX, bX⟩ := hrel
    have OX := Lib.hid oX
    have BX := Lib.hid bX
    have HXL := Lib.hid hXl
    have HV := Lib.hid hv
    have HY := Lib.hid hy
    by_cases hlt' : k + 1 < len
    · have a0 := oX.cell k 0 (by omega) (by omega)
      have a1 := oX.cell k 1 (by omega) (by omega)
      have a2 := oX.cell k 2 (by omega) (by omega)
      have e0 := oX.cell (k + 1) 0 (by omega) (by omega)
      have e1 := oX.cell (k + 1) 1 (by omega) (by omega)
      have e2 := oX.cell (k + 1) 2 (by omega) (by omega)
      simp only [inV, Nat.add_zero, List.getElem?_cons_zero, List.getElem?_cons_succ] at a0 a1 a2 e0 e1 e2
      have f0 := oX.free (k * 3)
      have f1 := oX.free (k * 3 + 1)
      have f2 := oX.free (k * 3 + 2)
      have f3 := oX.free ((k + 1) * 3)
      have f4 := oX.free ((k + 1) * 3 + 1)
      have f5 := oX.free ((k + 1) * 3 + 2)
      have hgl := oX.lt
      have hgn : ¬ g2 = w3.heap.size := by omega
      have hgn' : ¬ w3.heap.size = g2 := by omega
      clear oX bX hXl hv hy
      go_wp2_with fail
      go_roundw
      case rel =>
        have o3 := (OX.out.set3 k (X.getD (k + 1) i0) (by rw [HXL.out]; omega)).set3 (k + 1) (X.getD k i0) (by rw [List.length_set, HXL.out]; omega)
        have b3 := ((((((BX.out.setCell (p := ⟨g2, k * 3, none⟩) hgB (.bool (X.getD (k + 1) i0).1)).setCell (p := ⟨g2, k * 3 + 1, none⟩) hgB (.bool (X.getD (k + 1) i0).2.1)).setCell (p := ⟨g2, k * 3 + 2, none⟩) hgB (.bool (X.getD (k + 1) i0).2.2)).setCell (p := ⟨g2, (k + 1) * 3, none⟩) hgB (.bool (X.getD k i0).1)).setCell (p := ⟨g2, (k + 1) * 3 + 1, none⟩) hgB (.bool (X.getD k i0).2.1)).setCell (p := ⟨g2, (k + 1) * 3 + 2, none⟩) hgB (.bool (X.getD k i0).2.2))
        refine ⟨k + 2, (X.set k (X.getD (k + 1) i0)).set (k + 1) (X.getD k i0), by omega, by go_num, by simpa using HXL.out, (cnt_swap votesF X k len hlt' HXL.out).trans HV.out, (cnt_swap yesF X k len hlt' HXL.out).trans HY.out, ?_, ?_⟩
        · exact o3.below (Below.alloc (Below.refl _ _) (Nat.le_refl _) _)
        · exact b3.alloc (by have := b3.size; exact this) _
      case measure => simp [intOf]; omega
    · clear oX bX hXl hv hy
      have hT : tripsF n (fun j => X.getD j i0) len = tripsF n g len := by unfold tripsF; rw [HV.out, HY.out]
      have hH : healthyF n (fun j => X.getD j i0) len = healthyF n g len := by unfold healthyF; rw [HV.out, hT]
      have HT := Lib.hid hT
      have HH := Lib.hid hH
      have SX := Lib.hid (OX.out.sl' HXL.out)
      have SL := Lib.hid (H.out.below (HB.out.trans (BX.out.mono HB.out.size)))
      have BW := Lib.hid (HB.out.trans (BX.out.mono HB.out.size))
      clear hT hH
      go_wp2_with fail
      refine (trips_all n _ len cap2 _ _ SX.out).mono ?_
      rintro e x1 ⟨rfl, q1⟩
      rw [HT.out]
      go_wp2_with fail
      refine (trips_all n _ len cap g _ (SL.out.below q1)).mono ?_
      rintro e x2 ⟨rfl, q2⟩
      have r2 := q1.trans (q2.mono q1.size)
      go_wp2_with fail
      refine (yes_all _ len cap2 _ _ (SX.out.below r2)).mono ?_
      rintro e x3 ⟨rfl, q3⟩
      rw [HY.out]
      have r3 := r2.trans (q3.mono r2.size)
      go_wp2_with fail
      refine (yes_all _ len cap g _ (SL.out.below r3)).mono ?_
      rintro e x4 ⟨rfl, q4⟩
      have r4 := r3.trans (q4.mono r3.size)
      go_wp2_with fail
      refine (need_all n _ len cap2 _ _ (SX.out.below r4)).mono ?_
      rintro e x5 ⟨rfl, q5⟩
      rw [HV.out]
      have r5 := r4.trans (q5.mono r4.size)
      go_wp2_with fail
      refine (need_all n _ len cap g _ (SL.out.below r5)).mono ?_
      rintro e x6 ⟨rfl, q6⟩
      have r6 := r5.trans (q6.mono r5.size)
      go_wp2_with fail
      refine (healthy_all n _ len cap2 _ _ (SX.out.below r6)).mono ?_
      rintro e x7 ⟨rfl, q7⟩
      rw [HH.out]
      have r7 := r6.trans (q7.mono r6.size)
      go_wp2_with fail
      refine (healthy_all n _ len cap g _ (SL.out.below r7)).mono ?_
      rintro e x8 ⟨rfl, q8⟩
      have r8 := r7.trans (q8.mono r7.size)
      go_wp2_with fail
      go_ret
      exact ⟨rfl, BW.out.trans (r8.mono BW.out.size)⟩

theorem turns_short (n : Int) (a : Option Addr) (len cap : Nat) (at' : Int) (w : World) (hl : len ≤ maxLen) (h : 5000 < len ∨ len = 0) :
    Calls Try.prog 5 #[.int .i64 n, .slice a len cap, .int .u16 at'] w fun e w' => e = .returned (.bool true) ∧ Below w.heap.size w w' := by
  unfold maxLen at hl
  by_cases h5 : 5000 < len
  · have d1 : decide (5000 < (len : Int)) = true := by simp; omega
    go_enter Try.func5, Try.ntmps5
    go_wp2_with fail
    refine (head_any w).mono ?_
    rintro e w0 ⟨rfl, hb⟩
    go_wp2_with fail
    go_ret
    exact ⟨rfl, hb⟩
  · have h0 : len = 0 := by omega
    subst h0
    go_enter Try.func5, Try.ntmps5
    go_wp2_with fail
    refine (head_any w).mono ?_
    rintro e w0 ⟨rfl, hb⟩
    go_wp2_with fail
    go_ret
    exact ⟨rfl, hb⟩

theorem rows_cap {H : Type} {enc : TypeId × Value → H} {w : World} {fuel : Nat} {a : Option Addr} {len cap : Nat} {x : DataW H × List MemPlace} (h : DataW.trod enc Try.prog w 0 (fun _ => true) true fuel 22 [.slice a len cap] = some x) :
    ∃ f : Nat → I, Sl w a len f ∧ len ≤ cap ∧ cap ≤ maxLen := by
  obtain ⟨f, hf⟩ := rows_in h
  refine ⟨f, hf, ?_⟩
  rcases Go.Deep.open_slice Try.underlying22 h with ⟨hcs, _⟩ | ⟨y, l, c, m, n, D, Pl, hcs, _, hl, hm, _⟩
  · simp at hcs
    obtain ⟨rfl, rfl, rfl⟩ := hcs
    exact ⟨Nat.le_refl _, Nat.zero_le _⟩
  · simp at hcs
    obtain ⟨rfl, rfl, rfl⟩ := hcs
    exact ⟨hl, hm⟩

theorem turns_all (n : Int) (a : Option Addr) (len cap : Nat) (at' : Int) (wat : (Lit.int .u16 at').wf = true) (g : Nat → I) (w : World) (h : Sl w a len g ∧ len ≤ cap ∧ cap ≤ maxLen) :
    Calls Try.prog 5 #[.int .i64 n, .slice a len cap, .int .u16 at'] w fun e w' => e = .returned (.bool true) ∧ Below w.heap.size w w' := by
  by_cases hs : 5000 < len ∨ len = 0
  · exact turns_short n a len cap at' w h.1.le hs
  · obtain ⟨b, off, rfl, _, _⟩ := h.1.pos (by omega)
    exact turns_walk n b off len cap at' g w h.1 (by omega) (by omega) h.2.1 h.2.2 (bd_u16 wat).1 (bd_u16 wat).2

end Go.Proofs.Ytblcihpojnfhfaa
