/- The walk of VoteAll. -/
import Derived.Test.YtblcihpojnfhfaaLess
namespace Go.Proofs.Ytblcihpojnfhfaa
set_option linter.unusedVariables false
open Go.ChangeShapes Go.WideShapes Go.ChangeAt Go.RowKit

/-- One more at the end of a slice of the call's own (nil, or in memory). -/
theorem wpList_push {ops : Array Oper} {rest : List Oper} {o : Oper} {a : Act} {Q : Exit → Act → World → Prop} (hgd : o.guard = none) (s x : Operand)
    (ho : o.op = .call { callee := .builtin .append, args := #[s, x], argTypes := #[22, 22] }) (B : Nat) (w : World) (y : I) (hB : B ≤ w.heap.size) (v : Value) (n : Nat) (L : List I) (hs : a.eval s = v)
    (hown : w.ownsRow B 29 3 v n (flat L)) (hx : a.eval x = .slice (some ⟨w.heap.size, 0, none⟩) 1 1) (hm : n ≤ 10000)
    (h : ∀ v' w', w'.ownsRow B 29 3 v' (n + 1) (flat (L ++ [y])) → Below B w w' → wpList Try.prog ops Q rest (a.put o.dst v') w') :
    wpList Try.prog ops Q (o :: rest) a (w.alloc (.cells #[.bool y.1, .bool y.2.1, .bool y.2.2] 29 (0, 0))) := by
  obtain ⟨i0, hi, hz0, hz1, hz2⟩ := info_parts info29
  refine wpList_append_own _ hgd s x 22 ho B 29 i0 (.agg #[.bool false, .bool false, .bool false]) 3 3 Try.underlying22 hi hz0 hz1 hz2 rfl (by decide) v n (flat L) hs
    (hown.alloc _) ⟨w.heap.size, 0, none⟩ 1 1 (inV y) hx rfl ?_ (inV_one y) (by unfold maxLen; omega) (by omega) (by simp; omega) ?_
  · intro j u hu
    rw [addr_add_none]
    have hh := heap_alloc_new w (.cells #[.bool y.1, .bool y.2.1, .bool y.2.2] 29 (0, 0))
    simp only [World.cell?, hh, Nat.zero_add]
    simpa [inV] using hu
  · intro v' w' hown' hg _
    refine h v' w' (by simpa [flat] using hown') ?_
    refine (Below.alloc (Below.refl B w) hB _).grown hg (by simp; omega) (fun k hk => ?_)
    obtain ⟨_, ⟨hv, _⟩ | ⟨g, cap, cur, hv, hb, _⟩⟩ := hown
    · subst hv; simp [Value.ownBlock] at hk
    · subst hv; simp [Value.ownBlock] at hk; omega

def tf (i : Nat) : I := (i % 2 == 0, i % 2 == 1, false)

def lsA (ys ns : Nat) : List I := (List.range ys).map tf ++ List.replicate ns i0
theorem lsA_len (ys ns : Nat) : (lsA ys ns).length = ys + ns := by simp [lsA]
theorem lsA_step (ys k : Nat) : lsA ys (k + 1) = lsA ys k ++ [i0] := by simp [lsA, List.replicate_succ']
theorem tf_step (k : Nat) : (List.range (k + 1)).map tf = (List.range k).map tf ++ [tf k] := by simp [List.range_succ]

theorem own_row {B : Nat} {w : World} {v : Value} {n : Nat} {L : List I} (h : w.ownsRow B 29 3 v n (flat L)) (hn : n = L.length) : ∃ a cap, v = .slice a n cap ∧ Sl w a n (fun i => L.getD i i0) ∧ n ≤ cap ∧ cap ≤ maxLen := by
  rcases Nat.eq_zero_or_pos n with h0 | h0
  · obtain ⟨_, ⟨hv, _⟩ | ⟨g, cap, cur, hv, hb, hh, hl, hm, hs, ht⟩⟩ := h
    · exact ⟨none, 0, by rw [hv, h0], ⟨by omega, .inl h0⟩, by omega, by omega⟩
    · exact ⟨_, cap, hv, ⟨by omega, .inl h0⟩, hl, hm⟩
  · obtain ⟨g, cap, hv, ho⟩ := Own.of_row h hn h0
    exact ⟨_, cap, hv, ho.sl' hn.symm, by rw [hn]; exact ho.le, ho.mx⟩

theorem made_flat (n : Nat) : (madeCells (Value.cells (.agg #[.bool false, .bool false, .bool false])) (n * 3)).toList = flat (List.replicate n i0) := by
  have h1 : ∀ m, (madeCells (Value.cells (.agg #[.bool false, .bool false, .bool false])) m).toList = List.replicate m (.bool false) := by
    intro m
    apply List.ext_getElem
    · simp [madeCells]
    · intro i h1 h2
      simp [madeCells, Value.cells]
      have : i % 3 = 0 ∨ i % 3 = 1 ∨ i % 3 = 2 := by omega
      rcases this with h | h | h <;> simp [h]
  have h2 : flat (List.replicate n i0) = List.replicate (n * 3) (.bool false) := by
    induction n with
    | zero => rfl
    | succ n ih =>
      rw [List.replicate_succ, show (n + 1) * 3 = 3 + n * 3 by omega, ← List.replicate_append_replicate, ← ih]
      rfl
  rw [h1, h2]

theorem cnt_all (f : I → Bool) (g : Nat → I) (n : Nat) (h : ∀ i, i < n → f (g i) = true) : cnt f g n = n := by
  induction n with
  | zero => rfl
  | succ n ih => simp only [cnt]; rw [ih (fun i hi => h i (by omega)), h n (by omega)]; simp
theorem cnt_none (f : I → Bool) (g : Nat → I) (n : Nat) (h : ∀ i, i < n → f (g i) = false) : cnt f g n = 0 := by
  induction n with
  | zero => rfl
  | succ n ih => simp only [cnt]; rw [ih (fun i hi => h i (by omega)), h n (by omega)]; simp
theorem cnt_split (f : I → Bool) (g : Nat → I) (a b : Nat) (h1 : ∀ i, i < a → f (g i) = true) (h2 : ∀ i, a ≤ i → i < a + b → f (g i) = false) : cnt f g (a + b) = a := by
  induction b with
  | zero => exact cnt_all f g a h1
  | succ b ih =>
    rw [show a + (b + 1) = (a + b) + 1 by omega]
    simp only [cnt]
    rw [ih (fun i hi hj => h2 i hi (by omega)), h2 (a + b) (by omega) (by omega)]; simp

theorem lsA_get1 (ys ns i : Nat) (h : i < ys) : (lsA ys ns).getD i i0 = tf i := by
  simp [lsA, List.getD, List.getElem?_append_left, h]
theorem lsA_get2 (ys ns i : Nat) (h : ys ≤ i) (h2 : i < ys + ns) : (lsA ys ns).getD i i0 = i0 := by
  have : i - ys < ns := by omega
  simp [lsA, List.getD, List.getElem?_append_right, h, this]
theorem tf_yes (i : Nat) : yesF (tf i) = true ∧ votesF (tf i) = true := by
  have : i % 2 = 0 ∨ i % 2 = 1 := by omega
  rcases this with h | h <;> simp [yesF, votesF, tf, h]
theorem lsA_yes (ys ns : Nat) : cnt yesF (fun i => (lsA ys ns).getD i i0) (ys + ns) = ys :=
  cnt_split _ _ _ _ (fun i hi => by simp only [lsA_get1 ys ns i hi]; exact (tf_yes i).1) (fun i h1 h2 => by simp only [lsA_get2 ys ns i h1 h2]; rfl)
theorem lsA_votes (ys ns : Nat) : cnt votesF (fun i => (lsA ys ns).getD i i0) (ys + ns) = ys + ns :=
  cnt_all _ _ _ fun i hi => by
    by_cases h : i < ys
    · simp only [lsA_get1 ys ns i h]; exact (tf_yes i).2
    · simp only [lsA_get2 ys ns i (by omega) hi]; rfl

def needA (n len : Nat) : Int := if (len : Int) < (if (n : Int) < 1 then 1 else (n : Int)) then len else (if (n : Int) < 1 then 1 else n)
theorem trips_A (n ys ns : Nat) : tripsF n (fun i => (lsA ys ns).getD i i0) (ys + ns) = (decide (0 < ys + ns) && decide (needF n (ys + ns) ≤ (ys : Int))) := by
  unfold tripsF
  rw [lsA_yes, lsA_votes]
  congr 1
  exact decide_eq_decide.2 (need_pos n (ys + ns))
theorem healthy_A (n ys ns : Nat) : healthyF n (fun i => (lsA ys ns).getD i i0) (ys + ns) = !tripsF n (fun i => (lsA ys ns).getD i i0) (ys + ns) := by
  unfold healthyF
  rw [lsA_votes]
  simp

theorem out_none (n : Int) (g : Nat → I) (len : Nat) (h : ∀ i, i < len → (g i).2.2 = true) : tripsF n g len = false ∧ needF n (cnt votesF g len) = 0 := by
  have e : cnt votesF g len = 0 := cnt_none _ _ _ fun i hi => by simp [votesF, h i hi]
  have e2 : needF n 0 = 0 := by unfold needF; (repeat' split) <;> omega
  unfold tripsF
  rw [e, e2]
  exact ⟨rfl, rfl⟩

theorem Own.to_row {B : Nat} {w : World} {g cap n : Nat} {L : List I} (h : Own B w g cap L) (hn : L.length = n) : w.ownsRow B 29 3 (.slice (some ⟨g, 0, none⟩) n cap) n (flat L) := by
  subst hn
  obtain ⟨cur, hb, hs, ht⟩ := h.blk
  exact ⟨by rw [flat_len], .inr ⟨g, cap, cur, rfl, h.hg, hb, h.le, h.mx, hs, ht⟩⟩
theorem Own.at_row {B : Nat} {w : World} {g cap n : Nat} {L : List I} (h : w.ownsRow B 29 3 (.slice (some ⟨g, 0, none⟩) n cap) n (flat L)) (hn : n = L.length) (hp : 0 < n) : Own B w g cap L := by
  obtain ⟨g', cap', hv, ho⟩ := Own.of_row h hn hp
  simp at hv
  obtain ⟨rfl, rfl⟩ := hv
  exact ho

/-- The first k of the copies are bypassed. -/
def outK (X : List I) (n k : Nat) : Prop := X.length = n ∧ ∀ j, j < k → (X.getD j i0).2.2 = true

set_option maxRecDepth 100000 in
set_option maxHeartbeats 16000000 in
theorem all_walk (n ys ns : Nat) (w : World) (hn : n ≤ 255) (hy : ys ≤ 255) (hno : ns ≤ 255) :
    Calls Try.prog 6 #[.int .u8 n, .int .u8 ys, .int .u8 ns] w fun e w' => e = .returned (.bool true) ∧ Below w.heap.size w w' := by
  go_enter Try.func6, Try.ntmps6
  go_wp2_with fail
  refine (head_any w).mono ?_
  rintro e w0 ⟨rfl, hb⟩
  go_wp2_with fail
  have HB := Lib.hid hb
  go_loopw [8, 9] (fun v i wr => ∃ k : Nat, k ≤ ys ∧ i = .int .i64 k ∧ wr.ownsRow w.heap.size 29 3 v k (flat ((List.range k).map tf)) ∧ Below w.heap.size w wr) (fun _ i _ => ys - (intOf i).toNat)
  case atStart => exact ⟨0, Nat.zero_le _, rfl, ⟨rfl, .inl ⟨rfl, rfl⟩⟩, HB.out⟩
  case round =>
    obtain ⟨k, hk, rfl, hown, hbr⟩ := hrel
    have HO := Lib.hid hown
    have hsz := hbr.size
    have HBR := Lib.hid hbr
    clear hown hbr
    by_cases hlt : k < ys
    · rcases Nat.mod_two_eq_zero_or_one k with hm | hm
      · have m0 : (((k : Int) % 2) == 0) = true := by simp; omega
        have m1 : (((k : Int) % 2) == 1) = false := by simp; omega
        go_wp2_with (at_builtin; refine wpList_push rfl (.tmp 21) (.tmp 29) rfl w.heap.size wr (true, false, false) hsz _ k _ rfl HO.out rfl (by omega) ?_)
        intro v' w' ho' hb'
        have et : (List.range (k + 1)).map tf = (List.range k).map tf ++ [(true, false, false)] := by rw [tf_step]; simp [tf, hm]
        rw [← et] at ho'
        have HO' := Lib.hid ho'
        clear ho' et
        go_wp2_with fail
        go_roundw
        case rel => exact ⟨k + 1, by omega, by go_num, HO'.out, HBR.out.trans hb'⟩
        case measure => simp [intOf]; omega
      · have m0 : (((k : Int) % 2) == 0) = false := by simp; omega
        have m1 : (((k : Int) % 2) == 1) = true := by simp; omega
        go_wp2_with (at_builtin; refine wpList_push rfl (.tmp 21) (.tmp 29) rfl w.heap.size wr (false, true, false) hsz _ k _ rfl HO.out rfl (by omega) ?_)
        intro v' w' ho' hb'
        have et : (List.range (k + 1)).map tf = (List.range k).map tf ++ [(false, true, false)] := by rw [tf_step]; simp [tf, hm]
        rw [← et] at ho'
        have HO' := Lib.hid ho'
        clear ho' et
        go_wp2_with fail
        go_roundw
        case rel => exact ⟨k + 1, by omega, by go_num, HO'.out, HBR.out.trans hb'⟩
        case measure => simp [intOf]; omega
    · have hk' : ys = k := by omega
      subst hk'
      go_wp2_with fail
      clear hlt hk
      have HO1 := Lib.hid (show wr.ownsRow w.heap.size 29 3 _ (ys + 0) (flat (lsA ys 0)) by simpa [lsA] using HO.out)
      clear HO
      go_loopw [8, 10] (fun v i wr => ∃ k : Nat, k ≤ ns ∧ i = .int .i64 k ∧ wr.ownsRow w.heap.size 29 3 v (ys + k) (flat (lsA ys k)) ∧ Below w.heap.size w wr) (fun _ i _ => ns - (intOf i).toNat)
      case atStart => exact ⟨0, Nat.zero_le _, rfl, HO1.out, HBR.out⟩
      case round =>
        clear HO1 HBR hsz
        obtain ⟨k, hk, rfl, hown, hbr⟩ := hrel
        have HO := Lib.hid hown
        have hsz := hbr.size
        have HBR := Lib.hid hbr
        clear hown hbr
        by_cases hlt : k < ns
        · go_wp2_with (at_builtin; refine wpList_push rfl (.tmp 37) (.tmp 39) rfl w.heap.size _ (false, false, false) hsz _ (ys + k) _ rfl HO.out rfl (by omega) ?_)
          intro v' w' ho' hb'
          rw [← lsA_step] at ho'
          have HO' := Lib.hid ho'
          clear ho'
          go_wp2_with fail
          go_roundw
          case rel => exact ⟨k + 1, by omega, by go_num, HO'.out, HBR.out.trans hb'⟩
          case measure => simp [intOf]; omega
        · have hk' : ns = k := by omega
          subst hk'
          clear hlt hk
          obtain ⟨wb, hwb⟩ : ∃ wb : World, wb = wr := ⟨_, rfl⟩
          subst hwb
          obtain ⟨a, cap, hv8, sl, hc1, hc2⟩ := own_row HO.out (lsA_len ys ns).symm
          subst hv8
          unfold maxLen at hc2
          have SL := Lib.hid sl
          clear sl HO
          obtain ⟨ti, hi, hz0, hz1, hz2⟩ := info_parts info29
          go_wp2_with (at_make; refine wpList_make_full _ rfl (.tmp 42) (.tmp 42) 22 rfl wb.heap.size 29 ti (.agg #[.bool false, .bool false, .bool false]) 3 Try.underlying22 hi hz0 hz1 .i64 .i64 _ _ (ys + ns) rfl rfl ?c1 ?c2 ?c3 ?c4 (Nat.le_refl _) ?_)
          case c1 => simp
          case c2 => simp
          case c3 => rw [hz2]; omega
          case c4 => unfold maxLen; omega
          intro w2 hr hg
          have hr2 : w2.ownsRow wb.heap.size 29 3 (.slice (some ⟨wb.heap.size, 0, none⟩) (ys + ns) (ys + ns)) (ys + ns) (flat (List.replicate (ys + ns) i0)) := by
            rw [← made_flat]; exact hr
          have hb2 : Below wb.heap.size wb w2 := (Below.refl _ _).grown hg (Nat.le_refl _) (fun k hk => by cases hk)
          have HR := Lib.hid hr2
          have HB2 := Lib.hid hb2
          clear hr hr2 hg hb2 hi hz0 hz1 hz2
          go_wp2_with fail
          go_loopw [12] (fun i w3 => ∃ (k : Nat) (X : List I), k ≤ ys + ns ∧ i = .int .i64 k ∧ outK X (ys + ns) k ∧ w3.ownsRow wb.heap.size 29 3 (.slice (some ⟨wb.heap.size, 0, none⟩) (ys + ns) (ys + ns)) (ys + ns) (flat X) ∧ Below wb.heap.size wb w3) (fun i _ => (ys + ns) - (intOf i).toNat)
          case atStart => exact ⟨0, _, Nat.zero_le _, rfl, ⟨by simp, fun j hj => absurd hj (Nat.not_lt_zero _)⟩, HR.out, HB2.out⟩
          case round =>
            clear HR HB2
            obtain ⟨w3, hw3⟩ : ∃ w3 : World, w3 = wr := ⟨_, rfl⟩
            subst hw3
            obtain ⟨k, X, hk, rfl, hX, hown, hbr⟩ := hrel
            have HO := Lib.hid hown
            have HB3 := Lib.hid hbr
            clear hown hbr
            by_cases hlt : k < ys + ns
            · obtain ⟨b, off, ha, hltb, hcs⟩ := SL.out.pos (by omega)
              have hcs3 : ∀ j, j < 3 → w3.cell? ⟨b, off + k * 3 + j, none⟩ = (inV ((lsA ys ns).getD k i0))[j]? := fun j hj => (HB3.out.cell (p := ⟨b, off + k * 3 + j, none⟩) hltb).trans (hcs k hlt j hj)
              have c0 : w3.cell? ⟨b, off + k * 3, none⟩ = some (.bool ((lsA ys ns).getD k i0).1) := hcs3 0 (by omega)
              have c1 : w3.cell? ⟨b, off + k * 3 + 1, none⟩ = some (.bool ((lsA ys ns).getD k i0).2.1) := hcs3 1 (by omega)
              have c2 : w3.cell? ⟨b, off + k * 3 + 2, none⟩ = some (.bool ((lsA ys ns).getD k i0).2.2) := hcs3 2 (by omega)
              clear hcs hcs3
              subst ha
              generalize (lsA ys ns).getD k i0 = y at c0 c1 c2
              have hXl := hX.1
              have ow := Own.at_row HO.out hXl.symm (by omega)
              have e0 := ow.cell k 0 (by omega) (by omega)
              have e1 := ow.cell k 1 (by omega) (by omega)
              have e2 := ow.cell k 2 (by omega) (by omega)
              simp only [inV, Nat.add_zero, List.getElem?_cons_zero, List.getElem?_cons_succ] at e0 e1 e2
              have f0 := ow.free (k * 3)
              have f1 := ow.free (k * 3 + 1)
              have f2 := ow.free (k * 3 + 2)
              have o3 := (ow.set3 k y (by omega)).set k 2 true (y.1, y.2.1, true) (by simpa using by omega) (by omega) (by rw [set_getD _ _ _ _ (by omega), if_pos rfl]; rfl)
              have b3 := (((HB3.out.setCell (p := ⟨wb.heap.size, k * 3, none⟩) (Nat.le_refl _) (.bool y.1)).setCell (p := ⟨wb.heap.size, k * 3 + 1, none⟩) (Nat.le_refl _) (.bool y.2.1)).setCell (p := ⟨wb.heap.size, k * 3 + 2, none⟩) (Nat.le_refl _) (.bool y.2.2)).setCell (p := ⟨wb.heap.size, k * 3 + 2, none⟩) (Nat.le_refl _) (.bool true)
              have hX' : outK ((X.set k y).set k (y.1, y.2.1, true)) (ys + ns) (k + 1) := by
                refine ⟨by simpa using hXl, fun j hj => ?_⟩
                rw [set_getD _ _ _ _ (by simpa using by omega), set_getD _ _ _ _ (by omega)]
                by_cases e : j = k
                · simp [e]
                · simp only [e, if_false]
                  exact hX.2 j (by omega)
              have O3 := Lib.hid (o3.to_row (by simpa using hXl))
              have B3 := Lib.hid b3
              have HX' := Lib.hid hX'
              clear ow o3 b3 hX hX' hXl
              go_wp2_with fail
              go_roundw
              case rel => exact ⟨k + 1, _, by omega, by go_num, HX'.out, O3.out, B3.out⟩
              case measure => simp [intOf]; omega
            · have hk' : k = ys + ns := by omega
              have hXk := hX.2
              rw [hk'] at hXk
              clear hk hlt
              obtain ⟨ao, co, hvo, slo, _, _⟩ := own_row HO.out hX.1.symm
              have hb3 := HBR.out.trans (HB3.out.mono HBR.out.size)
              have SLO := Lib.hid slo
              have HN := Lib.hid (out_none n (fun i => X.getD i i0) (ys + ns) hXk)
              have HBB := Lib.hid hb3
              simp only [Value.slice.injEq] at hvo
              obtain ⟨hv1, hv2, hv3⟩ := hvo
              subst hv1 hv3
              have SL3 := Lib.hid (SL.out.below HB3.out)
              clear hX hXk slo hb3 HB3 HBR HO SL
              have hT := trips_A n ys ns
              have hH := healthy_A n ys ns
              have hNil : tripsF n (fun _ => i0) 0 = false := (out_none n (fun _ => i0) 0 (fun i hi => absurd hi (Nat.not_lt_zero _))).1
              have HT := Lib.hid hT
              have HH := Lib.hid hH
              have HNil := Lib.hid hNil
              clear hT hH hNil
              have h4 : ((n : Int) < 1 ∧ (ys : Int) + ns < 1) ∨ (1 ≤ (n : Int) ∧ (ys : Int) + ns < n) ∨ ((n : Int) < 1 ∧ 1 ≤ (ys : Int) + ns) ∨ (1 ≤ (n : Int) ∧ (n : Int) ≤ (ys : Int) + ns) := by omega
              clear hv2
              rcases h4 with ⟨p1, p2⟩ | ⟨p1, p2⟩ | ⟨p1, p2⟩ | ⟨p1, p2⟩
              · have hN : needF (n : Int) (ys + ns) = ((ys : Int) + (ns : Int)) := by unfold needF; (repeat' split) <;> omega
                have HNN := Lib.hid hN
                clear hN
                go_wp2_with fail
                refine (trips_all n a _ cap _ _ SL3.out).mono ?_
                rintro e w4 ⟨rfl, q4⟩
                rw [HT.out, HNN.out]
                by_cases hz : 0 < ys + ns
                · have hz1 : decide (0 < ys + ns) = true := by simpa using hz
                  rw [hz1, Bool.true_and]
                  clear hz1
                  have hz2 : decide ((0 : Int) < (ys : Int) + (ns : Int)) = true := by simp; omega
                  go_wp2_with fail
                  refine (trips_all n _ _ (ys + ns) _ _ (SLO.out.below q4)).mono ?_
                  rintro e w5 ⟨rfl, q5⟩
                  rw [HN.out.1]
                  have q45 := q4.trans (q5.mono q4.size)
                  go_wp2_with fail
                  refine (trips_all n none 0 0 (fun _ => i0) _ ⟨Nat.zero_le _, .inl rfl⟩).mono ?_
                  rintro e w6 ⟨rfl, q6⟩
                  rw [HNil.out]
                  have q46 := q45.trans (q6.mono q45.size)
                  go_wp2_with fail
                  refine (need_all n _ _ (ys + ns) _ _ (SLO.out.below q46)).mono ?_
                  rintro e w7 ⟨rfl, q7⟩
                  rw [HN.out.2]
                  have q47 := q46.trans (q7.mono q46.size)
                  go_wp2_with fail
                  refine (healthy_all n a _ cap _ _ (SL3.out.below q47)).mono ?_
                  rintro e w8 ⟨rfl, q8⟩
                  rw [HH.out]
                  have q48 := q47.trans (q8.mono q47.size)
                  go_wp2_with fail
                  refine (trips_all n a _ cap _ _ (SL3.out.below q48)).mono ?_
                  rintro e w9 ⟨rfl, q9⟩
                  have q49 := q48.trans (q9.mono q48.size)
                  go_wp2_with fail
                  go_ret
                  exact ⟨rfl, HBB.out.trans (q49.mono HBB.out.size)⟩
                · have hz1 : decide (0 < ys + ns) = false := by simpa using hz
                  rw [hz1, Bool.false_and]
                  clear hz1
                  have hz2 : decide ((0 : Int) < (ys : Int) + (ns : Int)) = false := by simp; omega
                  go_wp2_with fail
                  refine (trips_all n _ _ (ys + ns) _ _ (SLO.out.below q4)).mono ?_
                  rintro e w5 ⟨rfl, q5⟩
                  rw [HN.out.1]
                  have q45 := q4.trans (q5.mono q4.size)
                  go_wp2_with fail
                  refine (trips_all n none 0 0 (fun _ => i0) _ ⟨Nat.zero_le _, .inl rfl⟩).mono ?_
                  rintro e w6 ⟨rfl, q6⟩
                  rw [HNil.out]
                  have q46 := q45.trans (q6.mono q45.size)
                  go_wp2_with fail
                  refine (need_all n _ _ (ys + ns) _ _ (SLO.out.below q46)).mono ?_
                  rintro e w7 ⟨rfl, q7⟩
                  rw [HN.out.2]
                  have q47 := q46.trans (q7.mono q46.size)
                  go_wp2_with fail
                  refine (healthy_all n a _ cap _ _ (SL3.out.below q47)).mono ?_
                  rintro e w8 ⟨rfl, q8⟩
                  rw [HH.out]
                  have q48 := q47.trans (q8.mono q47.size)
                  go_wp2_with fail
                  refine (trips_all n a _ cap _ _ (SL3.out.below q48)).mono ?_
                  rintro e w9 ⟨rfl, q9⟩
                  have q49 := q48.trans (q9.mono q48.size)
                  go_wp2_with fail
                  go_ret
                  exact ⟨rfl, HBB.out.trans (q49.mono HBB.out.size)⟩
              · have hN : needF (n : Int) (ys + ns) = ((ys : Int) + (ns : Int)) := by unfold needF; (repeat' split) <;> omega
                have HNN := Lib.hid hN
                clear hN
                go_wp2_with fail
                refine (trips_all n a _ cap _ _ SL3.out).mono ?_
                rintro e w4 ⟨rfl, q4⟩
                rw [HT.out, HNN.out]
                by_cases hz : 0 < ys + ns
                · have hz1 : decide (0 < ys + ns) = true := by simpa using hz
                  rw [hz1, Bool.true_and]
                  clear hz1
                  have hz2 : decide ((0 : Int) < (ys : Int) + (ns : Int)) = true := by simp; omega
                  go_wp2_with fail
                  refine (trips_all n _ _ (ys + ns) _ _ (SLO.out.below q4)).mono ?_
                  rintro e w5 ⟨rfl, q5⟩
                  rw [HN.out.1]
                  have q45 := q4.trans (q5.mono q4.size)
                  go_wp2_with fail
                  refine (trips_all n none 0 0 (fun _ => i0) _ ⟨Nat.zero_le _, .inl rfl⟩).mono ?_
                  rintro e w6 ⟨rfl, q6⟩
                  rw [HNil.out]
                  have q46 := q45.trans (q6.mono q45.size)
                  go_wp2_with fail
                  refine (need_all n _ _ (ys + ns) _ _ (SLO.out.below q46)).mono ?_
                  rintro e w7 ⟨rfl, q7⟩
                  rw [HN.out.2]
                  have q47 := q46.trans (q7.mono q46.size)
                  go_wp2_with fail
                  refine (healthy_all n a _ cap _ _ (SL3.out.below q47)).mono ?_
                  rintro e w8 ⟨rfl, q8⟩
                  rw [HH.out]
                  have q48 := q47.trans (q8.mono q47.size)
                  go_wp2_with fail
                  refine (trips_all n a _ cap _ _ (SL3.out.below q48)).mono ?_
                  rintro e w9 ⟨rfl, q9⟩
                  have q49 := q48.trans (q9.mono q48.size)
                  go_wp2_with fail
                  go_ret
                  exact ⟨rfl, HBB.out.trans (q49.mono HBB.out.size)⟩
                · have hz1 : decide (0 < ys + ns) = false := by simpa using hz
                  rw [hz1, Bool.false_and]
                  clear hz1
                  have hz2 : decide ((0 : Int) < (ys : Int) + (ns : Int)) = false := by simp; omega
                  go_wp2_with fail
                  refine (trips_all n _ _ (ys + ns) _ _ (SLO.out.below q4)).mono ?_
                  rintro e w5 ⟨rfl, q5⟩
                  rw [HN.out.1]
                  have q45 := q4.trans (q5.mono q4.size)
                  go_wp2_with fail
                  refine (trips_all n none 0 0 (fun _ => i0) _ ⟨Nat.zero_le _, .inl rfl⟩).mono ?_
                  rintro e w6 ⟨rfl, q6⟩
                  rw [HNil.out]
                  have q46 := q45.trans (q6.mono q45.size)
                  go_wp2_with fail
                  refine (need_all n _ _ (ys + ns) _ _ (SLO.out.below q46)).mono ?_
                  rintro e w7 ⟨rfl, q7⟩
                  rw [HN.out.2]
                  have q47 := q46.trans (q7.mono q46.size)
                  go_wp2_with fail
                  refine (healthy_all n a _ cap _ _ (SL3.out.below q47)).mono ?_
                  rintro e w8 ⟨rfl, q8⟩
                  rw [HH.out]
                  have q48 := q47.trans (q8.mono q47.size)
                  go_wp2_with fail
                  refine (trips_all n a _ cap _ _ (SL3.out.below q48)).mono ?_
                  rintro e w9 ⟨rfl, q9⟩
                  have q49 := q48.trans (q9.mono q48.size)
                  go_wp2_with fail
                  go_ret
                  exact ⟨rfl, HBB.out.trans (q49.mono HBB.out.size)⟩
              · have hN : needF (n : Int) (ys + ns) = 1 := by unfold needF; (repeat' split) <;> omega
                have HNN := Lib.hid hN
                clear hN
                go_wp2_with fail
                refine (trips_all n a _ cap _ _ SL3.out).mono ?_
                rintro e w4 ⟨rfl, q4⟩
                rw [HT.out, HNN.out]
                by_cases hz : 0 < ys + ns
                · have hz1 : decide (0 < ys + ns) = true := by simpa using hz
                  rw [hz1, Bool.true_and]
                  clear hz1
                  have hz2 : decide ((0 : Int) < (ys : Int) + (ns : Int)) = true := by simp; omega
                  go_wp2_with fail
                  refine (trips_all n _ _ (ys + ns) _ _ (SLO.out.below q4)).mono ?_
                  rintro e w5 ⟨rfl, q5⟩
                  rw [HN.out.1]
                  have q45 := q4.trans (q5.mono q4.size)
                  go_wp2_with fail
                  refine (trips_all n none 0 0 (fun _ => i0) _ ⟨Nat.zero_le _, .inl rfl⟩).mono ?_
                  rintro e w6 ⟨rfl, q6⟩
                  rw [HNil.out]
                  have q46 := q45.trans (q6.mono q45.size)
                  go_wp2_with fail
                  refine (need_all n _ _ (ys + ns) _ _ (SLO.out.below q46)).mono ?_
                  rintro e w7 ⟨rfl, q7⟩
                  rw [HN.out.2]
                  have q47 := q46.trans (q7.mono q46.size)
                  go_wp2_with fail
                  refine (healthy_all n a _ cap _ _ (SL3.out.below q47)).mono ?_
                  rintro e w8 ⟨rfl, q8⟩
                  rw [HH.out]
                  have q48 := q47.trans (q8.mono q47.size)
                  go_wp2_with fail
                  refine (trips_all n a _ cap _ _ (SL3.out.below q48)).mono ?_
                  rintro e w9 ⟨rfl, q9⟩
                  have q49 := q48.trans (q9.mono q48.size)
                  go_wp2_with fail
                  go_ret
                  exact ⟨rfl, HBB.out.trans (q49.mono HBB.out.size)⟩
                · have hz1 : decide (0 < ys + ns) = false := by simpa using hz
                  rw [hz1, Bool.false_and]
                  clear hz1
                  have hz2 : decide ((0 : Int) < (ys : Int) + (ns : Int)) = false := by simp; omega
                  go_wp2_with fail
                  refine (trips_all n _ _ (ys + ns) _ _ (SLO.out.below q4)).mono ?_
                  rintro e w5 ⟨rfl, q5⟩
                  rw [HN.out.1]
                  have q45 := q4.trans (q5.mono q4.size)
                  go_wp2_with fail
                  refine (trips_all n none 0 0 (fun _ => i0) _ ⟨Nat.zero_le _, .inl rfl⟩).mono ?_
                  rintro e w6 ⟨rfl, q6⟩
                  rw [HNil.out]
                  have q46 := q45.trans (q6.mono q45.size)
                  go_wp2_with fail
                  refine (need_all n _ _ (ys + ns) _ _ (SLO.out.below q46)).mono ?_
                  rintro e w7 ⟨rfl, q7⟩
                  rw [HN.out.2]
                  have q47 := q46.trans (q7.mono q46.size)
                  go_wp2_with fail
                  refine (healthy_all n a _ cap _ _ (SL3.out.below q47)).mono ?_
                  rintro e w8 ⟨rfl, q8⟩
                  rw [HH.out]
                  have q48 := q47.trans (q8.mono q47.size)
                  go_wp2_with fail
                  refine (trips_all n a _ cap _ _ (SL3.out.below q48)).mono ?_
                  rintro e w9 ⟨rfl, q9⟩
                  have q49 := q48.trans (q9.mono q48.size)
                  go_wp2_with fail
                  go_ret
                  exact ⟨rfl, HBB.out.trans (q49.mono HBB.out.size)⟩
              · have hN : needF (n : Int) (ys + ns) = (n : Int) := by unfold needF; (repeat' split) <;> omega
                have HNN := Lib.hid hN
                clear hN
                go_wp2_with fail
                refine (trips_all n a _ cap _ _ SL3.out).mono ?_
                rintro e w4 ⟨rfl, q4⟩
                rw [HT.out, HNN.out]
                by_cases hz : 0 < ys + ns
                · have hz1 : decide (0 < ys + ns) = true := by simpa using hz
                  rw [hz1, Bool.true_and]
                  clear hz1
                  have hz2 : decide ((0 : Int) < (ys : Int) + (ns : Int)) = true := by simp; omega
                  go_wp2_with fail
                  refine (trips_all n _ _ (ys + ns) _ _ (SLO.out.below q4)).mono ?_
                  rintro e w5 ⟨rfl, q5⟩
                  rw [HN.out.1]
                  have q45 := q4.trans (q5.mono q4.size)
                  go_wp2_with fail
                  refine (trips_all n none 0 0 (fun _ => i0) _ ⟨Nat.zero_le _, .inl rfl⟩).mono ?_
                  rintro e w6 ⟨rfl, q6⟩
                  rw [HNil.out]
                  have q46 := q45.trans (q6.mono q45.size)
                  go_wp2_with fail
                  refine (need_all n _ _ (ys + ns) _ _ (SLO.out.below q46)).mono ?_
                  rintro e w7 ⟨rfl, q7⟩
                  rw [HN.out.2]
                  have q47 := q46.trans (q7.mono q46.size)
                  go_wp2_with fail
                  refine (healthy_all n a _ cap _ _ (SL3.out.below q47)).mono ?_
                  rintro e w8 ⟨rfl, q8⟩
                  rw [HH.out]
                  have q48 := q47.trans (q8.mono q47.size)
                  go_wp2_with fail
                  refine (trips_all n a _ cap _ _ (SL3.out.below q48)).mono ?_
                  rintro e w9 ⟨rfl, q9⟩
                  have q49 := q48.trans (q9.mono q48.size)
                  go_wp2_with fail
                  go_ret
                  exact ⟨rfl, HBB.out.trans (q49.mono HBB.out.size)⟩
                · have hz1 : decide (0 < ys + ns) = false := by simpa using hz
                  rw [hz1, Bool.false_and]
                  clear hz1
                  have hz2 : decide ((0 : Int) < (ys : Int) + (ns : Int)) = false := by simp; omega
                  go_wp2_with fail
                  refine (trips_all n _ _ (ys + ns) _ _ (SLO.out.below q4)).mono ?_
                  rintro e w5 ⟨rfl, q5⟩
                  rw [HN.out.1]
                  have q45 := q4.trans (q5.mono q4.size)
                  go_wp2_with fail
                  refine (trips_all n none 0 0 (fun _ => i0) _ ⟨Nat.zero_le _, .inl rfl⟩).mono ?_
                  rintro e w6 ⟨rfl, q6⟩
                  rw [HNil.out]
                  have q46 := q45.trans (q6.mono q45.size)
                  go_wp2_with fail
                  refine (need_all n _ _ (ys + ns) _ _ (SLO.out.below q46)).mono ?_
                  rintro e w7 ⟨rfl, q7⟩
                  rw [HN.out.2]
                  have q47 := q46.trans (q7.mono q46.size)
                  go_wp2_with fail
                  refine (healthy_all n a _ cap _ _ (SL3.out.below q47)).mono ?_
                  rintro e w8 ⟨rfl, q8⟩
                  rw [HH.out]
                  have q48 := q47.trans (q8.mono q47.size)
                  go_wp2_with fail
                  refine (trips_all n a _ cap _ _ (SL3.out.below q48)).mono ?_
                  rintro e w9 ⟨rfl, q9⟩
                  have q49 := q48.trans (q9.mono q48.size)
                  go_wp2_with fail
                  go_ret
                  exact ⟨rfl, HBB.out.trans (q49.mono HBB.out.size)⟩
end Go.Proofs.Ytblcihpojnfhfaa
