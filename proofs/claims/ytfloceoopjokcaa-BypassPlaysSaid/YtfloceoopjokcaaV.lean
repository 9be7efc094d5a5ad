/- BypassApart. -/
import Derived.Test.YtfloceoopjokcaaS
namespace Go.Proofs.Ytfloceoopjokcaa
set_option linter.unusedVariables false
open Go.ChangeShapes Go.WideShapes Go.ChangeAt Go.RowKit

abbrev obj (wh gi gn gt : Int) (oa : Option Addr) (ol oc : Nat) : Obj := .cells #[.int .i64 wh, .int .i64 gi, .int .i64 gn, .int .i64 gt, .slice oa ol oc] 31 (0, 0)
theorem obj_cells {W : World} {G : Nat} {wh gi gn gt : Int} {oa : Option Addr} {ol oc : Nat} (h : W.heap[G]? = some (obj wh gi gn gt oa ol oc)) :
    W.cell? ⟨G, 0, none⟩ = some (.int .i64 wh) ∧ W.cell? ⟨G, 1, none⟩ = some (.int .i64 gi) ∧ W.cell? ⟨G, 2, none⟩ = some (.int .i64 gn) ∧ W.cell? ⟨G, 3, none⟩ = some (.int .i64 gt) := by
  simp [World.cell?, h]
abbrev AR (w wr : World) (C tx mx ty my : Nat) (Lm : List Int) (K k : Nat) (Ex Ey : List Int) : Prop :=
  Two (w.heap.size) C wr tx mx Ex ty my Ey k Lm ∧ Ex.getD K 0 = Ey.getD K 0 ∧ Below w.heap.size w wr
set_option maxRecDepth 100000 in
set_option maxHeartbeats 8000000 in
theorem apart_any (w : World) (la : Option Addr) (n lc : Nat) (Lm : List Int) (hA : ArgI w la n lc Lm) (hn : n * 8 ≤ 140737488355328) (q : Nat) (hq : q ≤ 255) (a : Option Addr) (len cap : Nat) (g : Nat → Opn) (hS : Sl w a len g) :
    Calls Try.prog 5 #[.slice la n lc, .int .u8 (q : Int), .slice a len cap] w (LapsesP w) := by
  have hlen := hS.row.le
  unfold maxLen at hlen
  have A := Lib.hid hA
  have S := Lib.hid hS
  have LN := Lib.hid hA.row.ln
  clear hA hS
  go_enter Try.func5, Try.ntmps5
  go_wp2_with fail
  refine (head_any w).mono ?_
  rintro e w1 ⟨rfl, b1⟩
  have B1 := Lib.hid b1
  have s1 := b1.size
  clear b1
  go_wp2_with fail
  refine (new_any la n lc Lm w1 ⟨A.out.row.below B1.out, A.out.nil, A.out.le, A.out.mx⟩ hn).mono ?_
  rintro e w2 ⟨tx, mx, rfl, T2, b2⟩
  have B2 := Lib.hid (B1.out.trans (b2.mono s1))
  have s2 := B2.out.size
  have X2 := Lib.hid T2
  have s12 := b2.size
  clear T2 b2
  go_wp2_with fail
  refine (new2_any la n lc Lm w2 ⟨A.out.row.below B2.out, A.out.nil, A.out.le, A.out.mx⟩ hn).mono ?_
  rintro e w3 ⟨ty, my, rfl, T3, b3, hfr⟩
  have B3 := Lib.hid (B2.out.trans (b3.mono s2))
  have hT : Two w.heap.size w2.heap.size w3 tx mx (List.replicate Lm.length 0) ty my (List.replicate Lm.length 0) 0 Lm := by
    have hx := X2.out
    have l1 := hx.lt
    have l2 := T3.hm
    refine ⟨⟨by have := hx.ht; omega, by have := hx.hm; omega, hx.ne, hx.ln, hx.bd, (hx.below b3).blk, (hx.below b3).map⟩, T3, l1.1, l1.2, fun la' lc' b off e1 e2 h0 => ?_, fun la' lc' b off e1 e2 h0 => ?_⟩
    · obtain ⟨la2, lc2, q1, q2, _⟩ := hx.blk
      rw [b3.block tx l1.1, q1] at e1
      simp only [Option.some.injEq, Obj.cells.injEq, Array.mk.injEq, List.cons.injEq, Value.slice.injEq, and_true] at e1
      obtain ⟨b', off', e', hlt, _⟩ := q2.pos h0
      rw [e1.1, e2] at e'
      simp only [Option.some.injEq, Addr.mk.injEq, and_true] at e'
      omega
    · have := hfr la' lc' b off e1 e2 h0
      omega
  have T := Lib.hid hT
  clear T3 b3 hfr hT X2
  go_wp2_with fail
  refine (great_any la n lc a len cap g w3 A.out.row.le (S.out.below B3.out)).mono ?_
  rintro e w3' ⟨bg, rfl, hbg, rfl⟩
  cases bg with
  | true =>
    clear hbg
    go_wp2_with fail
    go_ret
    exact ⟨rfl, B3.out⟩
  | false =>
    obtain ⟨hg1, hg2⟩ := hbg rfl
    clear hbg
    by_cases h0 : n = 0
    · subst h0
      go_wp2_with fail
      go_ret
      exact ⟨rfl, B3.out⟩
    have d0 : ((n : Int) == 0) = false := by simp; omega
    have d0' : decide ((n : Int) = 0) = false := by simp; omega
    obtain ⟨K, hKe⟩ : ∃ K : Nat, K = q % n := ⟨_, rfl⟩
    have hKn : K < n := by rw [hKe]; exact Nat.mod_lt _ (by omega)
    have hK : ((q : Int) % (n : Int)) = (K : Int) := by rw [hKe]; simp
    clear hKe
    have hKw : (Lit.int .i64 (K : Int)).wf = true := wf_i64 (by omega) (by omega)
    have KW := Lib.hid hKw
    clear hKw
    go_wp2_with fail
    simp only [hK]
    clear hK
    go_loopw [11] (fun iv wr => ∃ (k : Nat) (Ex Ey : List Int), k ≤ len ∧ iv = .int .i64 k ∧ AR w wr w2.heap.size tx mx ty my Lm K k Ex Ey) (fun iv _ => len - (intOf iv).toNat)
    case atStart => exact ⟨0, _, _, Nat.zero_le _, rfl, T.out, rfl, B3.out⟩
    case round =>
      obtain ⟨wo, rfl⟩ : ∃ wo : World, wo = wr := ⟨_, rfl⟩
      obtain ⟨k, Ex, Ey, hk, rfl, hT, hE, hbe⟩ := hrel
      by_cases hkn : k < len
      · obtain ⟨b, off, ha, hblt, hcs⟩ := (S.out.below hbe).row.pos (by omega)
        have c0 : wo.cell? ⟨b, off + k * 5, none⟩ = some (.int .i64 (g k).wh) := hcs k hkn 0 (by omega)
        have c1 : wo.cell? ⟨b, off + k * 5 + 1, none⟩ = some (.int .i64 (g k).i) := hcs k hkn 1 (by omega)
        have c2 : wo.cell? ⟨b, off + k * 5 + 2, none⟩ = some (.int .i64 (g k).n) := hcs k hkn 2 (by omega)
        have c3 : wo.cell? ⟨b, off + k * 5 + 3, none⟩ = some (.int .i64 (g k).now) := hcs k hkn 3 (by omega)
        have c4 : wo.cell? ⟨b, off + k * 5 + 4, none⟩ = some (.slice (g k).a (g k).l (g k).c) := hcs k hkn 4 (by omega)
        obtain ⟨⟨_, wi, _, _⟩, _⟩ := S.out.wf k hkn
        subst ha
        clear hcs
        generalize (g k).wh = wh at c0
        generalize (g k).i = gi at c1 wi
        generalize (g k).n = gn at c2
        generalize (g k).now = gt at c3
        generalize (g k).a = oa at c4
        generalize (g k).l = ol at c4
        generalize (g k).c = oc at c4
        obtain ⟨G, hG⟩ : ∃ G, G = wo.heap.size := ⟨_, rfl⟩
        have hOb : (wo.alloc (obj wh gi gn gt oa ol oc)).heap[wo.heap.size]? = some (obj wh gi gn gt oa ol oc) := heap_alloc_new wo _
        have TA := Lib.hid (hT.below (alloc_b wo (obj wh gi gn gt oa ol oc)))
        have BA := Lib.hid (hbe.alloc hbe.size (obj wh gi gn gt oa ol oc))
        have OB := Lib.hid hOb
        have E := Lib.hid hE
        have lx := hT.x.lt
        have ly := hT.y.lt
        have hmx := hT.x.hm
        have hmy : w.heap.size ≤ my := by have := hT.y.hm; omega
        have WI := Lib.hid wi
        have hex : Ex.length = n := by rw [hT.x.ln]; exact LN.out
        have hey : Ey.length = n := by rw [hT.y.ln]; exact LN.out
        clear hT hE hbe hOb wi hG
        by_cases h2 : wh = 2
        · subst h2
          go_wp2_with fail
          refine (drop_any TA.out.x gi WI.out).mono ?_
          rintro e w5 ⟨rfl, T5, f5⟩
          have how5 : w5.heap[wo.heap.size]? = some (obj 2 gi gn gt oa ol oc) := (f5.block wo.heap.size (by simp) (by omega)).trans OB.out
          obtain ⟨z0w5, z1w5, z2w5, z3w5⟩ := obj_cells how5
          clear how5
          have t5 := Lib.hid ((TA.out.opx T5 (Nat.le_refl _) f5).mono (Nat.le_succ k))
          have B5 := Lib.hid (BA.out.trans (f5.below hmx BA.out.size))
          clear T5 f5 TA BA
          by_cases h3 : gi = (K : Int)
          · subst h3
            rw [unt_nat, E.out]
            go_wp2_with fail
            refine (drop_any t5.out.y (K : Int) KW.out).mono ?_
            rintro e w6 ⟨rfl, T6, f6⟩
            have T7 := Lib.hid (t5.out.opy T6 (Nat.le_refl _) f6)
            have B7 := Lib.hid (B5.out.trans (f6.below hmy B5.out.size))
            have E7 := Lib.hid (show (dropE Ex (K : Int)).getD K 0 = (dropE Ey (K : Int)).getD K 0 by rw [dropE_getD, dropE_getD, if_pos rfl, if_pos rfl])
            clear T6 f6 t5 B5
            rw [unt_nat]
            go_wp2_with fail
            refine (until_any T7.out.x (K : Int) KW.out).mono ?_
            rintro e wu ⟨rfl, rfl⟩
            go_wp2_with fail
            refine (until_any T7.out.y (K : Int) KW.out).mono ?_
            rintro e wu ⟨rfl, rfl⟩
            rw [unt_nat, unt_nat, E7.out]
            go_wp2_with fail
            go_roundw
            case rel => exact ⟨k + 1, _, _, by omega, by go_num, T7.out, E7.out, B7.out⟩
            case measure => simp [intOf]; omega
          · have h3' : (gi == (K : Int)) = false := by simpa using h3
            have h3'' : decide (gi = (K : Int)) = false := by simpa using h3
            have E5 := Lib.hid (show (dropE Ex gi).getD K 0 = Ey.getD K 0 by rw [dropE_getD, if_neg (fun e => h3 e.symm)]; exact E.out)
            have T5 := t5
            clear t5
            go_wp2_with fail
            refine (until_any T5.out.x (K : Int) KW.out).mono ?_
            rintro e wu ⟨rfl, rfl⟩
            go_wp2_with fail
            refine (until_any T5.out.y (K : Int) KW.out).mono ?_
            rintro e wu ⟨rfl, rfl⟩
            rw [unt_nat, unt_nat, E5.out]
            go_wp2_with fail
            go_roundw
            case rel => exact ⟨k + 1, _, _, by omega, by go_num, T5.out, E5.out, B5.out⟩
            case measure => simp [intOf]; omega
        have d2 : (wh == 2) = false := by simpa using h2
        by_cases hw3 : wh = 3
        · subst hw3
          go_wp2_with fail
          refine (lapse_any TA.out.x gt (by rw [LN.out]; exact hn)).mono ?_
          rintro e w5 ⟨a5, k5, rfl, A5, g5, T5, f5⟩
          have how5 : w5.heap[wo.heap.size]? = some (obj 3 gi gn gt oa ol oc) := (f5.block wo.heap.size (by simp) (by omega)).trans OB.out
          obtain ⟨z0w5, z1w5, z2w5, z3w5⟩ := obj_cells how5
          clear how5
          have t5 := Lib.hid (TA.out.opx T5 (Nat.le_refl _) f5)
          have B5 := Lib.hid (BA.out.trans (f5.below hmx BA.out.size))
          have A5' := Lib.hid A5
          have G5 := Lib.hid g5
          clear T5 f5 A5 g5 TA BA
          go_wp2_with fail
          refine (lapse_any t5.out.y gt (by rw [LN.out]; exact hn)).mono ?_
          rintro e w6 ⟨a6, k6, rfl, A6, g6, T6, f6⟩
          have T6' := Lib.hid ((t5.out.opy T6 (Nat.le_refl _) f6).mono (Nat.le_succ k))
          have B6 := Lib.hid (B5.out.trans (f6.below hmy B5.out.size))
          have R5 := Lib.hid (A5'.out.row.fr f6 (fun b off e _ => by have := G5.out b off e; simp at this; omega))
          have A6' := Lib.hid A6
          clear T6 f6 A6 g6 t5 B5 A5' G5
          go_wp2_with fail
          refine (has_any a5 _ k5 _ (K : Int) w6 R5.out KW.out).mono ?_
          rintro e w7 ⟨a7, k7, rfl, _, b7⟩
          obtain ⟨hh, hhe⟩ : ∃ hh : Nat, hh = if (K : Int) ∈ ovL Ex gt Lm.length then 1 else 0 := ⟨_, rfl⟩
          rw [← hhe]
          have HH := Lib.hid hhe
          clear hhe
          have T7' := Lib.hid (T6'.out.below b7)
          have B7' := Lib.hid (B6.out.trans (b7.mono B6.out.size))
          have R6 := Lib.hid (A6'.out.row.below b7)
          clear b7 T6' B6 R5 A6'
          go_wp2_with fail
          refine (has_any a6 _ k6 _ (K : Int) w7 R6.out KW.out).mono ?_
          rintro e w8 ⟨a8, k8, rfl, _, b8⟩
          have T7 := Lib.hid (T7'.out.below b8)
          have B7 := Lib.hid (B7'.out.trans (b8.mono B7'.out.size))
          have E7 := Lib.hid (show (dropAll Ex (ovL Ex gt Lm.length)).getD K 0 = (dropAll Ey (ovL Ey gt Lm.length)).getD K 0 from lapse_eq E.out gt Lm.length)
          rw [show (if (K : Int) ∈ ovL Ey gt Lm.length then 1 else (0 : Nat)) = hh from by rw [HH.out]; simp only [ov_eq E.out]]
          clear b8 T7' B7' R6
          go_wp2_with fail
          refine (until_any T7.out.x (K : Int) KW.out).mono ?_
          rintro e wu ⟨rfl, rfl⟩
          go_wp2_with fail
          refine (until_any T7.out.y (K : Int) KW.out).mono ?_
          rintro e wu ⟨rfl, rfl⟩
          rw [unt_nat, unt_nat, E7.out]
          go_wp2_with fail
          go_roundw
          case rel => exact ⟨k + 1, _, _, by omega, by go_num, T7.out, E7.out, B7.out⟩
          case measure => simp [intOf]; omega
        · have d3 : (wh == 3) = false := by simpa using hw3
          go_wp2_with fail
          refine (put_any TA.out.x (by unfold maxLen; omega) gi gn gt).mono ?_
          rintro e w5 ⟨rfl, T5, f5⟩
          have how5 : w5.heap[wo.heap.size]? = some (obj wh gi gn gt oa ol oc) := (f5.block wo.heap.size (by simp) (by omega)).trans OB.out
          obtain ⟨z0w5, z1w5, z2w5, z3w5⟩ := obj_cells how5
          clear how5
          have t5 := Lib.hid (TA.out.opx T5 (Nat.le_succ k) f5)
          have ty5 := Lib.hid (TA.out.y.frame f5 (by have := TA.out.xm; have := TA.out.y.ht; omega) (by have := TA.out.xm; have := TA.out.y.hm; omega) (fun b off la lc e1 e2 e3 => TA.out.yl la lc b off e1 e2 e3))
          have B5 := Lib.hid (BA.out.trans (f5.below hmx BA.out.size))
          clear T5 f5 TA BA
          by_cases h3 : gi = (K : Int)
          · subst h3
            rw [putC_eq E.out]
            generalize hcc : putC Lm Ey (K : Int) gn gt = cc
            have HCC := Lib.hid hcc
            clear hcc
            go_wp2_with fail
            refine (put_any ty5.out (by unfold maxLen; omega) (K : Int) gn gt).mono ?_
            rintro e w6 ⟨rfl, T6, f6⟩
            rw [HCC.out]
            have T7 := Lib.hid (t5.out.opy T6 (Nat.le_refl _) f6)
            have B7 := Lib.hid (B5.out.trans (f6.below hmy B5.out.size))
            have E7 := Lib.hid (putE_eq (Lm := Lm) E.out (by rw [hex]; exact hKn) (by rw [hey]; exact hKn) gn gt)
            clear T6 f6 t5 B5 ty5
            go_wp2_with fail
            refine (until_any T7.out.x (K : Int) KW.out).mono ?_
            rintro e wu ⟨rfl, rfl⟩
            go_wp2_with fail
            refine (until_any T7.out.y (K : Int) KW.out).mono ?_
            rintro e wu ⟨rfl, rfl⟩
            rw [unt_nat, unt_nat, E7.out]
            go_wp2_with fail
            go_roundw
            case rel => exact ⟨k + 1, _, _, by omega, by go_num, T7.out, E7.out, B7.out⟩
            case measure => simp [intOf]; omega
          · have h3' : (gi == (K : Int)) = false := by simpa using h3
            have h3'' : decide (gi = (K : Int)) = false := by simpa using h3
            have E5 := Lib.hid (show (putE Lm Ex gi gn gt).getD K 0 = Ey.getD K 0 by rw [put_other (fun e => h3 e.symm)]; exact E.out)
            have T5 := t5
            clear t5 ty5
            go_wp2_with fail
            refine (until_any T5.out.x (K : Int) KW.out).mono ?_
            rintro e wu ⟨rfl, rfl⟩
            go_wp2_with fail
            refine (until_any T5.out.y (K : Int) KW.out).mono ?_
            rintro e wu ⟨rfl, rfl⟩
            rw [unt_nat, unt_nat, E5.out]
            go_wp2_with fail
            go_roundw
            case rel => exact ⟨k + 1, _, _, by omega, by go_num, T5.out, E5.out, B5.out⟩
            case measure => simp [intOf]; omega
      · have hk' : k = len := by omega
        subst hk'
        have BE := Lib.hid hbe
        clear hT hE hbe
        go_wp2_with fail
        go_ret
        exact ⟨rfl, BE.out⟩
end Go.Proofs.Ytfloceoopjokcaa
