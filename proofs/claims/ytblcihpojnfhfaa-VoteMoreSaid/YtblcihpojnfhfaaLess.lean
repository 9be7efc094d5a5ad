/- The walk of VoteLess. -/
import Derived.Test.YtblcihpojnfhfaaL
namespace Go.Proofs.Ytblcihpojnfhfaa
set_option linter.unusedVariables false
open Go.ChangeShapes Go.WideShapes Go.ChangeAt Go.RowKit

theorem inV_one (x : I) : ∀ u ∈ inV x, u.oneCell' = true := by
  intro u hu; simp [inV] at hu; rcases hu with rfl | rfl | rfl <;> rfl
theorem flat_one (L : List I) : ∀ u ∈ flat L, u.oneCell' = true := by
  intro u hu
  simp only [flat, List.mem_flatMap] at hu
  obtain ⟨x, _, hx⟩ := hu
  exact inV_one x u hx

/-- The list that a slice reads as. -/
def lst (g : Nat → I) (len : Nat) : List I := (List.range len).map g
theorem lst_len (g : Nat → I) (len : Nat) : (lst g len).length = len := by simp [lst]
theorem lst_get (g : Nat → I) (len i : Nat) (h : i < len) : (lst g len).getD i i0 = g i := by simp [lst, List.getD, h]

theorem flat_cells {w : World} {b off len : Nat} {g : Nat → I} (hc : ∀ i, i < len → ∀ j, j < 3 → w.cell? ⟨b, off + i * 3 + j, none⟩ = (inV (g i))[j]?) :
    ∀ j u, (flat (lst g len))[j]? = some u → w.cell? ((Addr.mk b off none).add j) = some u := by
  intro j u hu
  have hj : j < len * 3 := by
    have := (List.getElem?_eq_some_iff.1 hu).1
    rw [flat_len, lst_len] at this
    exact this
  have h1 := hc (j / 3) (by omega) (j % 3) (by omega)
  have h2 := flat_get (lst g len) (j / 3) (j % 3) (by rw [lst_len]; omega) (by omega)
  rw [show j / 3 * 3 + j % 3 = j by omega] at h2
  rw [addr_add_none]
  rw [show off + j / 3 * 3 + j % 3 = off + j by omega] at h1
  rw [h1, ← lst_get g len (j / 3) (by omega), ← h2]
  exact hu

theorem own_zero {B : Nat} {w : World} {g : Nat} (hB : B ≤ g) (h : w.heap[g]? = some (.cells #[] 29 (0, 0))) : w.ownsRow B 29 3 (.slice (some ⟨g, 0, none⟩) 0 0) 0 [] :=
  ⟨rfl, .inr ⟨g, 0, #[], rfl, hB, h, Nat.le_refl _, Nat.zero_le _, rfl, rfl⟩⟩

theorem wpList_copy_in {ops : Array Oper} {rest : List Oper} {o : Oper} {a : Act} {Q : Exit → Act → World → Prop} (hgd : o.guard = none) (s x : Operand)
    (ho : o.op = .call { callee := .builtin .append, args := #[s, x], argTypes := #[22, 22] }) (w0 : World) (hs : a.eval s = .slice (some ⟨w0.heap.size, 0, none⟩) 0 0)
    (b off len cap : Nat) (g : Nat → I) (hx : a.eval x = .slice (some ⟨b, off, none⟩) len cap) (hp : 0 < len) (hm : len ≤ 10000) (hlt : b < w0.heap.size)
    (hc : ∀ i, i < len → ∀ j, j < 3 → w0.cell? ⟨b, off + i * 3 + j, none⟩ = (inV (g i))[j]?)
    (h : ∀ g' cap' w', Own w0.heap.size w' g' cap' (lst g len) → Below w0.heap.size w0 w' → wpList Try.prog ops Q rest (a.put o.dst (.slice (some ⟨g', 0, none⟩) len cap')) w') :
    wpList Try.prog ops Q (o :: rest) a (w0.alloc (.cells #[] 29 (0, 0))) := by
  obtain ⟨i0, hi, hz0, hz1, hz2⟩ := info_parts info29
  refine wpList_append_own _ hgd s x 22 ho w0.heap.size 29 i0 (.agg #[.bool false, .bool false, .bool false]) 3 3 Try.underlying22 hi hz0 hz1 hz2 rfl (by decide) _ 0 [] hs
    (own_zero (Nat.le_refl _) (heap_at rfl)) ⟨b, off, none⟩ len cap (flat (lst g len)) hx (by rw [flat_len, lst_len])
    (flat_cells fun i hi' j hj => ((Below.alloc (Below.refl w0.heap.size w0) (Nat.le_refl _) _).cell (p := ⟨b, off + i * 3 + j, none⟩) hlt).trans (hc i hi' j hj)) (flat_one _) (by unfold maxLen; omega) (by omega) (by simp) ?_
  intro v' w' hown hg _
  rw [Nat.zero_add] at hown
  obtain ⟨g', cap', rfl, ho'⟩ := Own.of_row (by simpa using hown) (by rw [lst_len]) hp
  have hbel : Below w0.heap.size w0 w' := (Below.alloc (Below.refl w0.heap.size w0) (Nat.le_refl _) _).grown hg (by simp) (fun k hk => by simp [Value.ownBlock] at hk; omega)
  exact h g' cap' w' ho' hbel

theorem Own.sl' {B : Nat} {w : World} {g cap n : Nat} {L : List I} (h : Own B w g cap L) (hn : L.length = n) : Sl w (some ⟨g, 0, none⟩) n (fun i => L.getD i i0) := hn ▸ h.sl

theorem yes_le (g : Nat → I) (n : Nat) : cnt yesF g n ≤ cnt votesF g n := by
  induction n with
  | zero => simp [cnt]
  | succ n ih =>
    have : yesF (g n) = true → votesF (g n) = true := by unfold yesF votesF; cases (g n).2.2 <;> simp
    simp only [cnt]
    cases h1 : yesF (g n) <;> cases h2 : votesF (g n) <;> simp_all <;> omega

theorem set_getD (L : List I) (K : Nat) (x : I) (i : Nat) (h : K < L.length) : (L.set K x).getD i i0 = if i = K then x else L.getD i i0 := by
  simp only [List.getD]
  by_cases e : i = K
  · subst e; simp [h]
  · rw [List.getElem?_set_ne (fun q => e q.symm), if_neg e]

theorem Own.set3 {B : Nat} {w : World} {g cap : Nat} {L : List I} (h : Own B w g cap L) (k : Nat) (x : I) (hk : k < L.length) :
    Own B (((w.setCell ⟨g, k * 3, none⟩ (.bool x.1)).setCell ⟨g, k * 3 + 1, none⟩ (.bool x.2.1)).setCell ⟨g, k * 3 + 2, none⟩ (.bool x.2.2)) g cap (L.set k x) := by
  have h1 := h.set k 0 x.1 (x.1, (L.getD k i0).2) hk (by omega) rfl
  have h2 := h1.set k 1 x.2.1 (x.1, x.2.1, (L.getD k i0).2.2) (by simpa using hk) (by omega) (by rw [set_getD _ _ _ _ hk, if_pos rfl]; rfl)
  have h3 := h2.set k 2 x.2.2 x (by simpa using hk) (by omega) (by rw [set_getD _ _ _ _ (by simpa using hk), if_pos rfl]; rfl)
  simpa using h3

theorem cnt_congr (f : I → Bool) (g g' : Nat → I) (n : Nat) (h : ∀ i, i < n → f (g i) = f (g' i)) : cnt f g n = cnt f g' n := by
  induction n with
  | zero => rfl
  | succ n ih => simp only [cnt]; rw [ih (fun i hi => h i (by omega)), h n (by omega)]

theorem cnt_set (f : I → Bool) (L : List I) (K n : Nat) (x y : I) (h : K < L.length) (e : f x = f y) : cnt f (fun i => (L.set K x).getD i i0) n = cnt f (fun i => (L.set K y).getD i i0) n := by
  refine cnt_congr f _ _ n fun i _ => ?_
  simp only [set_getD L K _ i h]
  split
  · exact e
  · rfl

def anyF (g : Nat → I) (k : Nat) : Bool := decide (0 < cnt votesF g k)
def restF (g : Nat → I) (k : Nat) : Bool := decide (cnt yesF g k = cnt votesF g k)
theorem any_step (g : Nat → I) (k : Nat) : anyF g (k + 1) = (anyF g k || !(g k).2.2) := by
  unfold anyF
  rcases hp : g k with ⟨x, y, z⟩
  simp only [cnt, votesF, hp]
  cases z <;> simp
theorem rest_step (g : Nat → I) (k : Nat) : restF g (k + 1) = (if (g k).2.2 then restF g k else (restF g k && ((g k).1 || (g k).2.1))) := by
  have := yes_le g k
  unfold restF
  rcases hp : g k with ⟨x, y, z⟩
  simp only [cnt, votesF, yesF, hp]
  cases z <;> cases x <;> cases y <;> simp <;> omega

theorem trips_full (g : Nat → I) (len : Nat) (h : 0 < len) : tripsF len g len = (anyF g len && restF g len) := by
  have h1 := yes_le g len
  have h2 := cnt_le votesF g len
  have h3 : needF len (cnt votesF g len) = cnt votesF g len := by unfold needF; (repeat' split) <;> omega
  unfold tripsF anyF restF
  rw [h3]
  by_cases h : 0 < cnt votesF g len
  · by_cases h' : cnt yesF g len = cnt votesF g len
    · simp [h, h']
    · have : ¬ cnt votesF g len ≤ cnt yesF g len := by omega
      simp [h, h', this]
  · simp [h]

set_option maxRecDepth 100000 in
set_option maxHeartbeats 2000000 in
theorem less_walk (b off len cap : Nat) (at' : Int) (g : Nat → I) (w : World) (h : Sl w (some ⟨b, off, none⟩) len g) (h0 : 0 < len) (h5 : len ≤ 5000) (t0 : 0 ≤ at') (t1 : at' ≤ 65535) :
    Calls Try.prog 7 #[.slice (some ⟨b, off, none⟩) len cap, .int .u16 at'] w fun e w' => e = .returned (.bool true) ∧ Below w.heap.size w w' := by
  obtain ⟨b', off', ha, hlt, hc⟩ := h.pos h0
  simp at ha
  obtain ⟨rfl, rfl⟩ := ha
  have H := Lib.hid h
  have HC := Lib.hid hc
  clear h hc
  have d1 : decide (5000 < (len : Int)) = false := by simp; omega
  have d2 : ((len : Int) == 0) = false := by simp; omega
  obtain ⟨K, hK⟩ : ∃ K : Nat, (K : Int) = at' % (len : Int) := ⟨(at' % (len : Int)).toNat, Int.toNat_of_nonneg (Int.emod_nonneg _ (by omega))⟩
  have hKlt : K < len := by have := Int.emod_lt_of_pos at' (show (0 : Int) < len by omega); omega
  have HKK := Lib.hid hK
  clear hK
  go_enter Try.func7, Try.ntmps7
  go_wp2_with fail
  refine (head_any w).mono ?_
  rintro e w0 ⟨rfl, hb⟩
  have hcw : ∀ i, i < len → ∀ j, j < 3 → w0.cell? ⟨b, off + i * 3 + j, none⟩ = (inV (g i))[j]? := fun i hi' j hj => (hb.cell (p := ⟨b, off + i * 3 + j, none⟩) hlt).trans (HC.out i hi' j hj)
  have HCW := Lib.hid hcw
  clear hcw
  go_wp2_with (at_builtin; refine wpList_copy_in rfl (.tmp 29) (.tmp 30) rfl _ rfl b off len cap g rfl h0 (by omega) (by have := hb.size; omega) HCW.out ?_)
  intro gx cx wx ox bx
  rw [← HKK.out]
  have hwx := lst_len g len
  have e2 := ox.cell K 2 (by rw [hwx]; exact hKlt) (by omega)
  have e2' : wx.cell? ⟨gx, K * 3 + 2, none⟩ = some (.bool ((lst g len).getD K i0).2.2) := e2
  have f2 := ox.free (K * 3 + 2)
  clear e2 hwx
  have cl := ox.le
  have cm := ox.mx
  rw [lst_len] at cl
  unfold maxLen at cm
  go_wp2_with fail
  obtain ⟨X, hX⟩ : ∃ X, X = (lst g len).set K (((lst g len).getD K i0).1, ((lst g len).getD K i0).2.1, true) := ⟨_, rfl⟩
  have ox1 := ox.set K 2 true (((lst g len).getD K i0).1, ((lst g len).getD K i0).2.1, true) (by rw [lst_len]; exact hKlt) (by omega) rfl
  have bx1 := bx.setCell (p := ⟨gx, K * 3 + 2, none⟩) ox.hg (.bool true)
  have hXl : X.length = len := by rw [hX, List.length_set, lst_len]
  rw [← hX] at ox1
  clear e2' f2 hX
  generalize wx.setCell ⟨gx, K * 3 + 2, none⟩ (.bool true) = w1 at ox1 bx1 ⊢
  clear ox bx
  have OX := Lib.hid ox1
  have BX := Lib.hid bx1
  have HXL := Lib.hid hXl
  clear ox1 bx1 hXl
  obtain ⟨gX, hgX⟩ : ∃ gX : Nat → I, gX = fun i => X.getD i i0 := ⟨_, rfl⟩
  have hcx : ∀ i, i < len → ∀ j, j < 3 → w1.cell? ⟨gx, i * 3 + j, none⟩ = (inV (gX i))[j]? := by
    intro i hi j hj
    rw [hgX]
    exact OX.out.cell i j (by rw [HXL.out]; exact hi) hj
  have HCX := Lib.hid hcx
  have HGX := Lib.hid hgX
  clear hcx hgX
  go_loop [9, 10, 11] (fun r y i => ∃ k : Nat, k ≤ len ∧ i = .int .i64 k ∧ r = .bool (restF gX k) ∧ y = .bool (anyF gX k)) (fun _ _ i => len - (intOf i).toNat)
  case atStart => exact ⟨0, Nat.zero_le _, rfl, rfl, rfl⟩
  case round =>
    obtain ⟨k, hk, rfl, rfl, rfl⟩ := hrel
    by_cases hkl : k < len
    · have c0 : w1.cell? ⟨gx, k * 3, none⟩ = some (.bool (gX k).1) := HCX.out k hkl 0 (by omega)
      have c1 : w1.cell? ⟨gx, k * 3 + 1, none⟩ = some (.bool (gX k).2.1) := HCX.out k hkl 1 (by omega)
      have c2 : w1.cell? ⟨gx, k * 3 + 2, none⟩ = some (.bool (gX k).2.2) := HCX.out k hkl 2 (by omega)
      have s1 := any_step gX k
      have s2 := rest_step gX k
      generalize restF gX k = R at s2 ⊢
      generalize anyF gX k = A at s1 ⊢
      generalize (gX k).1 = x at *
      generalize (gX k).2.1 = y at *
      generalize (gX k).2.2 = z at *
      have S1 := Lib.hid s1
      have S2 := Lib.hid s2
      clear s1 s2
      cases z <;> cases R <;> cases x <;> cases y
      all_goals
        go_wp2_with fail
        go_round
        case rel => exact ⟨k + 1, by omega, by go_num, by rw [S2.out]; rfl, by rw [S1.out]; simp⟩
        case measure => simp [intOf]; omega
    · have hk' : len = k := by omega
      subst hk'
      clear hk hkl
      have hcw1 : ∀ i, i < len → ∀ j, j < 3 → w1.cell? ⟨b, off + i * 3 + j, none⟩ = (inV (g i))[j]? := fun i hi' j hj => (BX.out.cell (p := ⟨b, off + i * 3 + j, none⟩) (by have := hb.size; simp; omega)).trans (HCW.out i hi' j hj)
      have HCW1 := Lib.hid hcw1
      clear hcw1
      have hb1 : w0.heap.size ≤ w1.heap.size := BX.out.size
      have hb0 := hb.size
      have hgx : gx < w1.heap.size := OX.out.lt
      go_wp2_with (at_builtin; refine wpList_copy_in rfl (.tmp 65) (.tmp 66) rfl _ rfl b off len cap g rfl h0 (by omega) (by omega) HCW1.out ?_)
      intro gy cy wy oy by'
      have hcw2 : ∀ i, i < len → ∀ j, j < 3 → wy.cell? ⟨b, off + i * 3 + j, none⟩ = (inV (g i))[j]? := fun i hi' j hj => (by'.cell (p := ⟨b, off + i * 3 + j, none⟩) (by simp; omega)).trans (HCW1.out i hi' j hj)
      have HCW2 := Lib.hid hcw2
      have OY := Lib.hid oy
      have BY := Lib.hid by'
      have hb2 := by'.size
      have hgy := oy.lt
      have hgy' := oy.hg
      clear hcw2 oy by'
      go_wp2_with (at_builtin; refine wpList_copy_in rfl (.tmp 68) (.tmp 69) rfl _ rfl b off len cap g rfl h0 (by omega) (by omega) HCW2.out ?_)
      intro gz cz wz oz bz
      have hgz := oz.lt
      have hgz' := oz.hg
      have hb3 := bz.size
      have oy2 := OY.out.below bz
      have cyl := oy2.le
      have cym := oy2.mx
      have czl := oz.le
      have czm := oz.mx
      rw [lst_len] at cyl czl
      unfold maxLen at cym czm
      have y0 := oy2.cell K 0 (by rw [lst_len]; exact hKlt) (by omega)
      have y1 := oy2.cell K 1 (by rw [lst_len]; exact hKlt) (by omega)
      have y2 := oy2.cell K 2 (by rw [lst_len]; exact hKlt) (by omega)
      have z0 := oz.cell K 0 (by rw [lst_len]; exact hKlt) (by omega)
      have z1 := oz.cell K 1 (by rw [lst_len]; exact hKlt) (by omega)
      have z2 := oz.cell K 2 (by rw [lst_len]; exact hKlt) (by omega)
      simp only [inV, Nat.add_zero, List.getElem?_cons_zero, List.getElem?_cons_succ] at y0 y1 y2 z0 z1 z2
      have yf0 := oy2.free (K * 3)
      have yf1 := oy2.free (K * 3 + 1)
      have yf2 := oy2.free (K * 3 + 2)
      have zf0 := oz.free (K * 3)
      have zf1 := oz.free (K * 3 + 1)
      have zf2 := oz.free (K * 3 + 2)
      have hne : gy ≠ gz := by omega
      have OY2 := Lib.hid oy2
      have OZ := Lib.hid oz
      have BZ := Lib.hid bz
      clear oy2 oz bz
      go_wp2_with fail
      have oyF := (((OY2.out.set3 K (true, false, false) (by rw [lst_len]; exact hKlt)).other ⟨gz, K * 3, none⟩ (.bool false) (fun e => hne e.symm)).other ⟨gz, K * 3 + 1, none⟩ (.bool true) (fun e => hne e.symm)).other ⟨gz, K * 3 + 2, none⟩ (.bool false) (fun e => hne e.symm)
      have ozF := (((OZ.out.other ⟨gy, K * 3, none⟩ (.bool true) hne).other ⟨gy, K * 3 + 1, none⟩ (.bool false) hne).other ⟨gy, K * 3 + 2, none⟩ (.bool false) hne).set3 K (false, true, false) (by rw [lst_len]; exact hKlt)
      have bF : Below w1.heap.size w1 (((((((wz.setCell ⟨gy, K * 3, none⟩ (.bool true)).setCell ⟨gy, K * 3 + 1, none⟩ (.bool false)).setCell ⟨gy, K * 3 + 2, none⟩ (.bool false)).setCell ⟨gz, K * 3, none⟩ (.bool false)).setCell ⟨gz, K * 3 + 1, none⟩ (.bool true)).setCell ⟨gz, K * 3 + 2, none⟩ (.bool false))) :=
        ((((((BY.out.trans (BZ.out.mono hb2)).setCell (p := ⟨gy, K * 3, none⟩) hgy' _).setCell (p := ⟨gy, K * 3 + 1, none⟩) hgy' _).setCell (p := ⟨gy, K * 3 + 2, none⟩) hgy' _).setCell (p := ⟨gz, K * 3, none⟩) (by simp; omega) _).setCell (p := ⟨gz, K * 3 + 1, none⟩) (by simp; omega) _).setCell (p := ⟨gz, K * 3 + 2, none⟩) (by simp; omega) _
      clear y0 y1 y2 z0 z1 z2 yf0 yf1 yf2 zf0 zf1 zf2
      simp only [] at oyF ozF
      generalize (((((wz.setCell ⟨gy, K * 3, none⟩ (.bool true)).setCell ⟨gy, K * 3 + 1, none⟩ (.bool false)).setCell ⟨gy, K * 3 + 2, none⟩ (.bool false)).setCell ⟨gz, K * 3, none⟩ (.bool false)).setCell ⟨gz, K * 3 + 1, none⟩ (.bool true)).setCell ⟨gz, K * 3 + 2, none⟩ (.bool false) = w2 at oyF ozF bF ⊢
      have bW : Below w.heap.size w w2 := hb.trans ((BX.out.trans (bF.mono hb1)).mono hb0)
      have sx : Sl w2 (some ⟨gx, 0, none⟩) len (fun i => X.getD i i0) := (OX.out.below bF).sl' HXL.out
      have sy : Sl w2 (some ⟨gy, 0, none⟩) len _ := oyF.sl' (by rw [List.length_set, lst_len])
      have sz : Sl w2 (some ⟨gz, 0, none⟩) len _ := ozF.sl' (by rw [List.length_set, lst_len])
      have SX := Lib.hid sx
      have SY := Lib.hid sy
      have SZ := Lib.hid sz
      have eT := trips_full gX len h0
      have eYZv := cnt_set votesF (lst g len) K len (true, false, false) (false, true, false) (by rw [lst_len]; exact hKlt) rfl
      have eYZy := cnt_set yesF (lst g len) K len (true, false, false) (false, true, false) (by rw [lst_len]; exact hKlt) rfl
      have eTT : tripsF len (fun i => ((lst g len).set K (true, false, false)).getD i i0) len = tripsF len (fun i => ((lst g len).set K (false, true, false)).getD i i0) len := by
        unfold tripsF; rw [eYZv, eYZy]
      have ET := Lib.hid eT
      have EY := Lib.hid eYZy
      have ETT := Lib.hid eTT
      clear sx sy sz eT eYZv eYZy eTT oyF ozF
      refine (trips_all len _ len cx _ _ SX.out).mono ?_
      rintro e w3 ⟨rfl, q3⟩
      rw [← HGX.out, ET.out]
      generalize anyF gX len = A
      generalize restF gX len = R
      cases A <;> cases R
      all_goals
        go_wp2_with fail
        refine (trips_all len _ len cy _ _ (SY.out.below q3)).mono ?_
        rintro e w4 ⟨rfl, q4⟩
        rw [ETT.out]
        have q34 := q3.trans (q4.mono q3.size)
        go_wp2_with fail
        refine (trips_all len _ len cz _ _ (SZ.out.below q34)).mono ?_
        rintro e w5 ⟨rfl, q5⟩
        have q35 := q34.trans (q5.mono q34.size)
        go_wp2_with fail
        refine (yes_all _ len cy _ _ (SY.out.below q35)).mono ?_
        rintro e w6 ⟨rfl, q6⟩
        rw [EY.out]
        have q36 := q35.trans (q6.mono q35.size)
        go_wp2_with fail
        refine (yes_all _ len cz _ _ (SZ.out.below q36)).mono ?_
        rintro e w7 ⟨rfl, q7⟩
        go_wp2_with fail
        go_ret
        exact ⟨rfl, bW.trans ((q36.trans (q7.mono q36.size)).mono bW.size)⟩
theorem less_short (a : Option Addr) (len cap : Nat) (at' : Int) (w : World) (hl : len ≤ maxLen) (h : 5000 < len ∨ len = 0) :
    Calls Try.prog 7 #[.slice a len cap, .int .u16 at'] w fun e w' => e = .returned (.bool true) ∧ Below w.heap.size w w' := by
  unfold maxLen at hl
  by_cases h5 : 5000 < len
  · have d1 : decide (5000 < (len : Int)) = true := by simp; omega
    go_enter Try.func7, Try.ntmps7
    go_wp2_with fail
    refine (head_any w).mono ?_
    rintro e w0 ⟨rfl, hb⟩
    go_wp2_with fail
    go_ret
    exact ⟨rfl, hb⟩
  · have h0 : len = 0 := by omega
    subst h0
    go_enter Try.func7, Try.ntmps7
    go_wp2_with fail
    refine (head_any w).mono ?_
    rintro e w0 ⟨rfl, hb⟩
    go_wp2_with fail
    go_ret
    exact ⟨rfl, hb⟩

theorem less_all (a : Option Addr) (len cap : Nat) (at' : Int) (wat : (Lit.int .u16 at').wf = true) (g : Nat → I) (w : World) (h : Sl w a len g) :
    Calls Try.prog 7 #[.slice a len cap, .int .u16 at'] w fun e w' => e = .returned (.bool true) ∧ Below w.heap.size w w' := by
  by_cases hs : 5000 < len ∨ len = 0
  · exact less_short a len cap at' w h.le hs
  · obtain ⟨b, off, rfl, _, _⟩ := h.pos (by omega)
    exact less_walk b off len cap at' g w h (by omega) (by omega) (bd_u16 wat).1 (bd_u16 wat).2

end Go.Proofs.Ytblcihpojnfhfaa
