/- BypassPlays. -/
import Derived.Test.YtfloceoopjokcaaX
import Derived.Test.YtfloceoopjokcaaZ
import Derived.Test.YtfloceoopjokcaaV
import Derived.Deep.RegionHeld3
namespace Go.Proofs.Ytfloceoopjokcaa
set_option linter.unusedVariables false
open Go.ChangeShapes Go.WideShapes Go.ChangeAt Go.RowKit

theorem Tb.belowC {B C : Nat} {w w' : World} {t m cn : Nat} {Lm E : List Int} (h : Tb B w t m cn Lm E) (ht : t < C) (hm : m < C) (hl : ∀ la lc b off, w.heap[t]? = some (.cells #[.slice la Lm.length lc, .map (some m)] 52 (0, 0)) → la = some ⟨b, off, none⟩ → 0 < Lm.length → b < C) (hs : w.heap.size ≤ w'.heap.size) (hb : Below C w w') : Tb B w' t m cn Lm E := by
  obtain ⟨la, lc, h1, h2, h3⟩ := h.blk
  refine ⟨h.ht, h.hm, h.ne, h.ln, h.bd, ⟨la, lc, (hb.block t ht).trans h1, ⟨h2.ln, h2.le, h2.wf, ?_⟩, h3⟩, h.map.same (hb.block m hm)⟩
  rcases h2.at' with z | ⟨b, off, e, hlt, hc⟩
  · exact .inl z
  · by_cases h0 : Lm.length = 0
    · exact .inl h0
    · exact .inr ⟨b, off, e, Nat.lt_of_lt_of_le hlt hs, fun i hi => (hb.cell (p := ⟨b, off + i, none⟩) (hl la lc b off h1 e (by omega))).trans (hc i hi)⟩
structure Duo (B C : Nat) (w : World) (tx mx : Nat) (Ex : List Int) (ty eb : Nat) (Ey : List Int) (cn : Nat) (Lm : List Int) : Prop where
  x : Tb B w tx mx cn Lm Ex
  y : Rt C w ty eb Lm Ey
  xt : tx < C
  xm : mx < C
  xl : ∀ la lc b off, w.heap[tx]? = some (.cells #[.slice la Lm.length lc, .map (some mx)] 52 (0, 0)) → la = some ⟨b, off, none⟩ → 0 < Lm.length → b < C
section
variable {B C tx mx ty eb eb' cn cn' : Nat} {w w' : World} {Ex Ey Ex' Ey' Lm : List Int}
theorem Duo.below (h : Duo B C w tx mx Ex ty eb Ey cn Lm) (hb : Below w.heap.size w w') : Duo B C w' tx mx Ex ty eb Ey cn Lm :=
  ⟨h.x.below hb, h.y.below hb, h.xt, h.xm, fun la lc b off e => h.xl la lc b off ((hb.block tx h.x.lt.1).symm.trans e)⟩
theorem Duo.opx (h : Duo B C w tx mx Ex ty eb Ey cn Lm) (T : Tb B w' tx mx cn' Lm Ex') (f : Fr mx w w') : Duo B C w' tx mx Ex' ty eb Ey cn' Lm :=
  ⟨T, h.y.fr f h.xm, h.xt, h.xm, fun la lc b off e => h.xl la lc b off ((f.block tx h.x.lt.1 h.x.ne).symm.trans e)⟩
theorem Duo.opy (h : Duo B C w tx mx Ex ty eb Ey cn Lm) (T : Rt C w' ty eb' Lm Ey') (hs : w.heap.size ≤ w'.heap.size) (hb : Below C w w') : Duo B C w' tx mx Ex ty eb' Ey' cn Lm :=
  ⟨h.x.belowC h.xt h.xm h.xl hs hb, T, h.xt, h.xm, fun la lc b off e => h.xl la lc b off ((hb.block tx h.xt).symm.trans e)⟩
theorem Duo.mono (h : Duo B C w tx mx Ex ty eb Ey cn Lm) (hc : cn ≤ cn') : Duo B C w tx mx Ex ty eb Ey cn' Lm := ⟨h.x.mono hc, h.y, h.xt, h.xm, h.xl⟩
end
theorem Ir.f2 {p q : Nat} {W W' : World} {a : Option Addr} {n : Nat} {L : List Int} (h : Ir W a n L) (hf : F2 p q W W') (hne : ∀ b off, a = some ⟨b, off, none⟩ → 0 < n → b ≠ p ∧ b ≠ q) : Ir W' a n L := by
  refine ⟨h.ln, h.le, h.wf, ?_⟩
  rcases h.at' with z | ⟨b, off, e, hlt, hc⟩
  · exact .inl z
  · by_cases h0 : n = 0
    · exact .inl h0
    · exact .inr ⟨b, off, e, Nat.lt_of_lt_of_le hlt hf.size, fun i hi => (World.cell?_of_block (a := ⟨b, off + i, none⟩) (hf.block b hlt (hne b off e (by omega)).1 (hne b off e (by omega)).2)).trans (hc i hi)⟩
theorem all_row {B : Nat} {w : World} {t m cn n : Nat} {Lm E : List Int} (h : Tb B w t m cn Lm E) (hl : Lm.length = n) (hn : n * 8 ≤ 140737488355328) : Calls Try.prog 25 #[.pointer (some ⟨t, 0, none⟩)] w fun e w' => ∃ a c, e = .returned (.slice a n c) ∧ Ir w' a n E ∧ Below w.heap.size w w' := by
  subst hl
  refine (all_any h hn).mono ?_
  rintro e w' ⟨g, rfl, h2, _, h3⟩
  exact ⟨_, _, rfl, h2.row, h3⟩
theorem rall_row {C : Nat} {w : World} {t eb n : Nat} {Lm E : List Int} (h : Rt C w t eb Lm E) (hl : Lm.length = n) (hn : n * 8 ≤ 140737488355328) : Calls Try.prog 26 #[.pointer (some ⟨t, 0, none⟩)] w fun e w' => ∃ a c, e = .returned (.slice a n c) ∧ Ir w' a n E ∧ Below w.heap.size w w' := by
  subst hl
  refine (rall_any h hn).mono ?_
  rintro e w' ⟨a, c, rfl, h2, _, h3⟩
  exact ⟨_, _, rfl, h2.row, h3⟩
/-- What a world behind W still reads. -/
def Gd (W w' : World) : Prop := Below W.heap.size W w'
theorem Gd.step {W a b : World} (h : Gd W a) (hb : Below a.heap.size a b) : Gd W b := Below.trans h (hb.mono h.size)

set_option maxRecDepth 100000 in
set_option maxHeartbeats 16000000 in
theorem plays_any (w : World) (la : Option Addr) (n lc : Nat) (Lm : List Int) (hA : ArgI w la n lc Lm) (hn : n * 8 ≤ 140737488355328) (a : Option Addr) (len cap : Nat) (g : Nat → Opn) (hS : Sl w a len g) :
    Calls Try.prog 3 #[.slice la n lc, .slice a len cap] w (LapsesP w) := by
  have hlen := hS.row.le
  unfold maxLen at hlen
  have A := Lib.hid hA
  have S := Lib.hid hS
  have LN := Lib.hid hA.row.ln
  clear hA hS
  go_enter Try.func3, Try.ntmps3
  go_wp2_with fail
  refine (head_any w).mono ?_
  rintro e w1 ⟨rfl, b1⟩
  have B1 := Lib.hid b1
  have s1 := b1.size
  clear b1
  go_wp2_with fail
  refine (new_any la n lc Lm w1 ⟨A.out.row.below B1.out, A.out.nil, A.out.le, A.out.mx⟩ hn).mono ?_
  rintro e w2 ⟨tx, mx, rfl, T2, b2⟩
  have B2 := Lib.hid (B1.out.trans (b2.mono s1))
  have s2 := B2.out.size
  have X2 := Lib.hid T2
  have s12 := b2.size
  clear T2 b2
  go_wp2_with fail
  refine (rnew_any la n lc Lm w2 ⟨A.out.row.below B2.out, A.out.nil, A.out.le, A.out.mx⟩ hn).mono ?_
  rintro e w3 ⟨ty, eb0, rfl, T3, b3⟩
  have B3 := Lib.hid (B2.out.trans (b3.mono s2))
  have hT : Duo w.heap.size w2.heap.size w3 tx mx (List.replicate n 0) ty eb0 (List.replicate n 0) 0 Lm := by
    have hx := X2.out
    have l1 := hx.lt
    rw [LN.out] at hx
    refine ⟨⟨by have := hx.ht; omega, by have := hx.hm; omega, hx.ne, hx.ln, hx.bd, (hx.below b3).blk, (hx.below b3).map⟩, T3, l1.1, l1.2, fun la' lc' b off e1 e2 h0 => ?_⟩
    obtain ⟨la2, lc2, q1, q2, _⟩ := hx.blk
    rw [b3.block tx l1.1, q1] at e1
    simp only [Option.some.injEq, Obj.cells.injEq, Array.mk.injEq, List.cons.injEq, Value.slice.injEq, and_true] at e1
    obtain ⟨b', off', e', hlt, _⟩ := q2.pos h0
    rw [e1.1, e2] at e'
    simp only [Option.some.injEq, Addr.mk.injEq, and_true] at e'
    omega
  have T := Lib.hid hT
  clear T3 b3 hT X2
  go_wp2_with fail
  refine (great_any la n lc a len cap g w3 A.out.row.le (S.out.below B3.out)).mono ?_
  rintro e w3' ⟨bg, rfl, hbg, rfl⟩
  cases bg with
  | true =>
    clear hbg
    go_wp2_with fail
    go_ret
    exact ⟨rfl, B3.out⟩
  | false =>
    obtain ⟨hg1, hg2⟩ := hbg rfl
    clear hbg
    go_wp2_with fail
    go_loopw [8] (fun iv wr => ∃ (k eb : Nat) (E : List Int), k ≤ len ∧ iv = .int .i64 k ∧ Duo w.heap.size w2.heap.size wr tx mx E ty eb E (100 + k) Lm ∧ Below w.heap.size w wr) (fun iv _ => len - (intOf iv).toNat)
    case atStart => exact ⟨0, eb0, _, Nat.zero_le _, rfl, T.out.mono (by omega), B3.out⟩
    case round =>
      obtain ⟨wo, rfl⟩ : ∃ wo : World, wo = wr := ⟨_, rfl⟩
      obtain ⟨k, eb, E, hk, rfl, hT, hbe⟩ := hrel
      by_cases hkn : k < len
      · obtain ⟨b, off, ha, hblt, hcs⟩ := (S.out.below hbe).row.pos (by omega)
        have c0 : wo.cell? ⟨b, off + k * 5, none⟩ = some (.int .i64 (g k).wh) := hcs k hkn 0 (by omega)
        have c1 : wo.cell? ⟨b, off + k * 5 + 1, none⟩ = some (.int .i64 (g k).i) := hcs k hkn 1 (by omega)
        have c2 : wo.cell? ⟨b, off + k * 5 + 2, none⟩ = some (.int .i64 (g k).n) := hcs k hkn 2 (by omega)
        have c3 : wo.cell? ⟨b, off + k * 5 + 3, none⟩ = some (.int .i64 (g k).now) := hcs k hkn 3 (by omega)
        have c4 : wo.cell? ⟨b, off + k * 5 + 4, none⟩ = some (.slice (g k).a (g k).l (g k).c) := hcs k hkn 4 (by omega)
        obtain ⟨⟨_, wi, _, _⟩, hL⟩ := S.out.wf k hkn
        subst ha
        clear hcs
        generalize (g k).wh = wh at c0
        generalize (g k).i = gi at c1 wi
        generalize (g k).n = gn at c2
        generalize (g k).now = gt at c3
        generalize (g k).a = oa at c4 hL
        generalize (g k).l = ol at c4 hL
        generalize (g k).c = oc at c4 hL
        generalize (g k).f = of at hL
        have HL := Lib.hid hL
        have hOb : (wo.alloc (obj wh gi gn gt oa ol oc)).heap[wo.heap.size]? = some (obj wh gi gn gt oa ol oc) := heap_alloc_new wo _
        have TA := Lib.hid (hT.below (alloc_b wo (obj wh gi gn gt oa ol oc)))
        have BA := Lib.hid (hbe.alloc hbe.size (obj wh gi gn gt oa ol oc))
        have OB := Lib.hid hOb
        have lx := hT.x.lt
        have ly := hT.y.lt
        have hmx := hT.x.hm
        have WI := Lib.hid wi
        have hmC := hT.xm
        have htC := hT.xt
        have hyC := hT.y.ht
        have heC := hT.y.he
        clear hT hbe hOb wi hL
        by_cases h2 : wh = 2
        · subst h2
          go_wp2_with fail
          refine (drop_any TA.out.x gi WI.out).mono ?_
          rintro e w5 ⟨rfl, T5, f5⟩
          have how5 : w5.heap[wo.heap.size]? = some (obj 2 gi gn gt oa ol oc) := (f5.block wo.heap.size (by simp) (by omega)).trans OB.out
          have hGw5 := blk_lt how5
          obtain ⟨z0w5, z1w5, z2w5, z3w5⟩ := obj_cells how5
          have HOw5 := Lib.hid how5
          have t5 := Lib.hid (TA.out.opx T5 f5)
          have B5 := Lib.hid (BA.out.trans (f5.below hmx BA.out.size))
          clear T5 f5 TA BA how5
          go_wp2_with fail
          refine (rdrop_any t5.out.y gi).mono ?_
          rintro e w6 ⟨rfl, T6, f6⟩
          have how6 : w6.heap[wo.heap.size]? = some (obj 2 gi gn gt oa ol oc) := (f6.block wo.heap.size hGw5 (by omega) (by omega)).trans HOw5.out
          have hGW := blk_lt how6
          obtain ⟨z0w6, z1w6, z2w6, z3w6⟩ := obj_cells how6
          clear how6
          have D6 := Lib.hid ((t5.out.opy T6 f6.size (f6.below hyC heC (by omega))).mono (Nat.le_succ (100 + k)))
          have B6 := Lib.hid (B5.out.trans (f6.below (by omega) (by omega) B5.out.size))
          clear T6 f6 t5 B5 HOw5
          go_wp2_with fail
          obtain ⟨u, hu⟩ : ∃ u, u = unt (dropE E gi) gi := ⟨_, rfl⟩
          obtain ⟨bb, hbb⟩ : ∃ bb, bb = isB (dropE E gi) gi gt := ⟨_, rfl⟩
          have C20 := Lib.hid (fun (w' : World) (g : Gd w6 w') => show Calls Try.prog 20 #[.pointer (some ⟨tx, 0, none⟩), .int .i64 gi] w' fun e w'' => e = .returned (.int .i64 u) ∧ w' = w'' by rw [hu]; exact until_any (D6.out.x.below g) gi WI.out)
          have C21 := Lib.hid (fun (w' : World) (g : Gd w6 w') => show Calls Try.prog 21 #[.pointer (some ⟨ty, 0, none⟩), .int .i64 gi] w' fun e w'' => e = .returned (.int .i64 u) ∧ w' = w'' by rw [hu]; exact runtil_any (D6.out.y.below g) gi)
          have C22 := Lib.hid (fun (w' : World) (g : Gd w6 w') => show Calls Try.prog 22 #[.pointer (some ⟨tx, 0, none⟩), .int .i64 gi, .int .i64 gt] w' fun e w'' => e = .returned (.bool bb) ∧ w' = w'' by rw [hbb]; exact is_any (D6.out.x.below g) gi gt WI.out)
          have C23 := Lib.hid (fun (w' : World) (g : Gd w6 w') => show Calls Try.prog 23 #[.pointer (some ⟨ty, 0, none⟩), .int .i64 gi, .int .i64 gt] w' fun e w'' => e = .returned (.bool bb) ∧ w' = w'' by rw [hbb]; exact ris_any (D6.out.y.below g) gi gt)
          have C25 := Lib.hid (fun (w' : World) (g : Gd w6 w') => all_row (D6.out.x.below g) LN.out hn)
          have C26 := Lib.hid (fun (w' : World) (g : Gd w6 w') => rall_row (D6.out.y.below g) LN.out hn)
          have KS := Lib.hid (fun (w' : World) (g : Gd w6 w') => show w'.cell? ⟨wo.heap.size, 1, none⟩ = some (.int .i64 gi) ∧ w'.cell? ⟨wo.heap.size, 3, none⟩ = some (.int .i64 gt) from ⟨(g.cell (p := ⟨wo.heap.size, 1, none⟩) hGW).trans z1w6, (g.cell (p := ⟨wo.heap.size, 3, none⟩) hGW).trans z3w6⟩)
          have g0 : Gd w6 w6.drew := (Below.refl _ _).drew
          clear hu hbb z0w6 z2w6
          go_wp2_with fail
          go_region_held3 (fun w' => w'.cell? ⟨wo.heap.size, 1, none⟩ = some (.int .i64 gi) ∧ w'.cell? ⟨wo.heap.size, 3, none⟩ = some (.int .i64 gt)) (first | exact KS.out _ (by assumption) | go_keep) (first
            | (go_at_call 20; refine (C20.out _ (by assumption)).mono ?_; rintro e wq ⟨rfl, rfl⟩)
            | (go_at_call 21; refine (C21.out _ (by assumption)).mono ?_; rintro e wq ⟨rfl, rfl⟩)
            | (go_at_call 22; refine (C22.out _ (by assumption)).mono ?_; rintro e wq ⟨rfl, rfl⟩)
            | (go_at_call 23; refine (C23.out _ (by assumption)).mono ?_; rintro e wq ⟨rfl, rfl⟩)
            | (go_at_call 25; refine (C25.out _ (by assumption)).mono ?_; rintro e w25 ⟨a25, c25, rfl, r25, b25⟩; have g25 : Gd w6 w25 := Gd.step (by assumption) b25)
            | (go_at_call 26; refine (C26.out _ (by assumption)).mono ?_; rintro e w26 ⟨a26, c26, rfl, r26, b26⟩; have g26 : Gd w6 w26 := Gd.step (by assumption) b26)
            | (go_at_call 24; refine (same_any _ _ _ _ _ _ (dropE E gi) (dropE E gi) _ (by first | exact r25 | exact r25.below b26) (by first | exact r26 | exact r26.below b25)).mono ?_; rintro e w24 ⟨rfl, b24⟩; have g24 : Gd w6 w24 := Gd.step (by assumption) b24; rw [decide_eq_true rfl])
            | fail)
          all_goals
            go_wp2_with fail
            go_roundw
            case rel => exact ⟨k + 1, eb, (dropE E gi), by omega, by go_num, D6.out.below g24, B6.out.trans (Below.mono g24 B6.out.size)⟩
            case measure => simp [intOf]; omega
        have d2 : (wh == 2) = false := by simpa using h2
        by_cases hw3 : wh = 3
        · subst hw3
          go_wp2_with fail
          refine (lapse_any TA.out.x gt (by rw [LN.out]; exact hn)).mono ?_
          rintro e w5 ⟨a5, k5, rfl, A5, g5, T5, f5⟩
          have how5 : w5.heap[wo.heap.size]? = some (obj 3 gi gn gt oa ol oc) := (f5.block wo.heap.size (by simp) (by omega)).trans OB.out
          have hGw5 := blk_lt how5
          obtain ⟨z0w5, z1w5, z2w5, z3w5⟩ := obj_cells how5
          have HOw5 := Lib.hid how5
          have t5 := Lib.hid (TA.out.opx T5 f5)
          have B5 := Lib.hid (BA.out.trans (f5.below hmx BA.out.size))
          have A5' := Lib.hid A5
          have G5 := Lib.hid g5
          clear T5 f5 A5 g5 TA BA how5
          go_wp2_with fail
          refine (rlapse_any t5.out.y gt (by rw [LN.out]; exact hn)).mono ?_
          rintro e w6 ⟨a6, k6, rfl, A6, T6, f6⟩
          have R5 := Lib.hid (A5'.out.row.f2 f6 (fun b off e _ => by have := G5.out b off e; simp at this; omega))
          have how6 : w6.heap[wo.heap.size]? = some (obj 3 gi gn gt oa ol oc) := (f6.block wo.heap.size hGw5 (by omega) (by omega)).trans HOw5.out
          have hGW := blk_lt how6
          obtain ⟨z0w6, z1w6, z2w6, z3w6⟩ := obj_cells how6
          clear how6
          have hGw6 := hGW
          have HOw6 := Lib.hid (show w6.heap[wo.heap.size]? = some (obj 3 gi gn gt oa ol oc) from (f6.block wo.heap.size hGw5 (by omega) (by omega)).trans HOw5.out)
          have D6 := Lib.hid ((t5.out.opy T6 f6.size (f6.below hyC heC (by omega))).mono (Nat.le_succ (100 + k)))
          have B6 := Lib.hid (B5.out.trans (f6.below (by omega) (by omega) B5.out.size))
          have A6' := Lib.hid A6
          clear T6 f6 t5 B5 HOw5 A6 A5' G5 z0w6 z1w6 z2w6 z3w6 hGW
          go_wp2_with fail
          refine (sameInts_any _ _ _ k5 _ k6 _ _ w6 R5.out A6'.out.row).mono ?_
          rintro e w7 ⟨rfl, b7⟩
          rw [decide_eq_true rfl]
          have how7 : w7.heap[wo.heap.size]? = some (obj 3 gi gn gt oa ol oc) := (b7.block wo.heap.size hGw6).trans HOw6.out
          have hGW := blk_lt how7
          obtain ⟨z0w7, z1w7, z2w7, z3w7⟩ := obj_cells how7
          have D7 := Lib.hid (D6.out.below b7)
          have B7 := Lib.hid (B6.out.trans (b7.mono B6.out.size))
          clear how7 b7 D6 B6 R5 A6' HOw6
          go_wp2_with fail
          obtain ⟨u, hu⟩ : ∃ u, u = unt (dropAll E (ovL E gt Lm.length)) gi := ⟨_, rfl⟩
          obtain ⟨bb, hbb⟩ : ∃ bb, bb = isB (dropAll E (ovL E gt Lm.length)) gi gt := ⟨_, rfl⟩
          have C20 := Lib.hid (fun (w' : World) (g : Gd w7 w') => show Calls Try.prog 20 #[.pointer (some ⟨tx, 0, none⟩), .int .i64 gi] w' fun e w'' => e = .returned (.int .i64 u) ∧ w' = w'' by rw [hu]; exact until_any (D7.out.x.below g) gi WI.out)
          have C21 := Lib.hid (fun (w' : World) (g : Gd w7 w') => show Calls Try.prog 21 #[.pointer (some ⟨ty, 0, none⟩), .int .i64 gi] w' fun e w'' => e = .returned (.int .i64 u) ∧ w' = w'' by rw [hu]; exact runtil_any (D7.out.y.below g) gi)
          have C22 := Lib.hid (fun (w' : World) (g : Gd w7 w') => show Calls Try.prog 22 #[.pointer (some ⟨tx, 0, none⟩), .int .i64 gi, .int .i64 gt] w' fun e w'' => e = .returned (.bool bb) ∧ w' = w'' by rw [hbb]; exact is_any (D7.out.x.below g) gi gt WI.out)
          have C23 := Lib.hid (fun (w' : World) (g : Gd w7 w') => show Calls Try.prog 23 #[.pointer (some ⟨ty, 0, none⟩), .int .i64 gi, .int .i64 gt] w' fun e w'' => e = .returned (.bool bb) ∧ w' = w'' by rw [hbb]; exact ris_any (D7.out.y.below g) gi gt)
          have C25 := Lib.hid (fun (w' : World) (g : Gd w7 w') => all_row (D7.out.x.below g) LN.out hn)
          have C26 := Lib.hid (fun (w' : World) (g : Gd w7 w') => rall_row (D7.out.y.below g) LN.out hn)
          have KS := Lib.hid (fun (w' : World) (g : Gd w7 w') => show w'.cell? ⟨wo.heap.size, 1, none⟩ = some (.int .i64 gi) ∧ w'.cell? ⟨wo.heap.size, 3, none⟩ = some (.int .i64 gt) from ⟨(g.cell (p := ⟨wo.heap.size, 1, none⟩) hGW).trans z1w7, (g.cell (p := ⟨wo.heap.size, 3, none⟩) hGW).trans z3w7⟩)
          have g0 : Gd w7 w7.drew := (Below.refl _ _).drew
          clear hu hbb z0w7 z2w7
          go_wp2_with fail
          go_region_held3 (fun w' => w'.cell? ⟨wo.heap.size, 1, none⟩ = some (.int .i64 gi) ∧ w'.cell? ⟨wo.heap.size, 3, none⟩ = some (.int .i64 gt)) (first | exact KS.out _ (by assumption) | go_keep) (first
            | (go_at_call 20; refine (C20.out _ (by assumption)).mono ?_; rintro e wq ⟨rfl, rfl⟩)
            | (go_at_call 21; refine (C21.out _ (by assumption)).mono ?_; rintro e wq ⟨rfl, rfl⟩)
            | (go_at_call 22; refine (C22.out _ (by assumption)).mono ?_; rintro e wq ⟨rfl, rfl⟩)
            | (go_at_call 23; refine (C23.out _ (by assumption)).mono ?_; rintro e wq ⟨rfl, rfl⟩)
            | (go_at_call 25; refine (C25.out _ (by assumption)).mono ?_; rintro e w25 ⟨a25, c25, rfl, r25, b25⟩; have g25 : Gd w7 w25 := Gd.step (by assumption) b25)
            | (go_at_call 26; refine (C26.out _ (by assumption)).mono ?_; rintro e w26 ⟨a26, c26, rfl, r26, b26⟩; have g26 : Gd w7 w26 := Gd.step (by assumption) b26)
            | (go_at_call 24; refine (same_any _ _ _ _ _ _ (dropAll E (ovL E gt Lm.length)) (dropAll E (ovL E gt Lm.length)) _ (by first | exact r25 | exact r25.below b26) (by first | exact r26 | exact r26.below b25)).mono ?_; rintro e w24 ⟨rfl, b24⟩; have g24 : Gd w7 w24 := Gd.step (by assumption) b24; rw [decide_eq_true rfl])
            | fail)
          all_goals
            go_wp2_with fail
            go_roundw
            case rel => exact ⟨k + 1, eb, (dropAll E (ovL E gt Lm.length)), by omega, by go_num, D7.out.below g24, B7.out.trans (Below.mono g24 B7.out.size)⟩
            case measure => simp [intOf]; omega
        have d3 : (wh == 3) = false := by simpa using hw3
        by_cases hw4 : wh = 4
        · subst hw4
          go_wp2_with fail
          refine (load_any TA.out.x oa ol oc of (HL.out.row.below BA.out) (fun b off e h0 => by
            obtain ⟨b', o', e', hb', _⟩ := HL.out.row.pos h0
            rw [e'] at e
            simp only [Option.some.injEq, Addr.mk.injEq, and_true] at e
            omega)).mono ?_
          rintro e w5 (⟨rfl, hw5, hno⟩ | ⟨rfl, hl5, hb5, T5, f5⟩)
          · have D5 := Lib.hid (show Duo w.heap.size w2.heap.size w5 tx mx E ty eb E (100 + k) Lm by rw [hw5]; exact TA.out)
            have B5 := Lib.hid (show Below w.heap.size w w5 by rw [hw5]; exact BA.out)
            have ho5 : w5.heap[wo.heap.size]? = some (obj 4 gi gn gt oa ol oc) := by rw [hw5]; exact OB.out
            have z4w5 : w5.cell? ⟨wo.heap.size, 4, none⟩ = some (.slice oa ol oc) := by simp [World.cell?, ho5]
            have HO5 := Lib.hid ho5
            clear hw5 TA BA ho5
            go_wp2_with fail
            refine (rload_any D5.out.y oa ol oc of (HL.out.below B5.out) (by rw [LN.out]; exact hn)).mono ?_
            rintro e w6 (⟨rfl, hw6, _⟩ | ⟨_, hl6, hb6, _⟩)
            · have ho6 : w6.heap[wo.heap.size]? = some (obj 4 gi gn gt oa ol oc) := by rw [hw6]; exact HO5.out
              have hGW := blk_lt ho6
              obtain ⟨z0w6, z1w6, z2w6, z3w6⟩ := obj_cells ho6
              have D6 := Lib.hid (show Duo w.heap.size w2.heap.size w6 tx mx E ty eb E (100 + (k + 1)) Lm by rw [hw6]; exact D5.out.mono (by omega))
              have B6 := Lib.hid (show Below w.heap.size w w6 by rw [hw6]; exact B5.out)
              clear hw6 D5 B5 HO5 hno ho6 z4w5
              go_wp2_with fail
              obtain ⟨u, hu⟩ : ∃ u, u = unt E gi := ⟨_, rfl⟩
              obtain ⟨bb, hbb⟩ : ∃ bb, bb = isB E gi gt := ⟨_, rfl⟩
              have C20 := Lib.hid (fun (w' : World) (g : Gd w6 w') => show Calls Try.prog 20 #[.pointer (some ⟨tx, 0, none⟩), .int .i64 gi] w' fun e w'' => e = .returned (.int .i64 u) ∧ w' = w'' by rw [hu]; exact until_any (D6.out.x.below g) gi WI.out)
              have C21 := Lib.hid (fun (w' : World) (g : Gd w6 w') => show Calls Try.prog 21 #[.pointer (some ⟨ty, 0, none⟩), .int .i64 gi] w' fun e w'' => e = .returned (.int .i64 u) ∧ w' = w'' by rw [hu]; exact runtil_any (D6.out.y.below g) gi)
              have C22 := Lib.hid (fun (w' : World) (g : Gd w6 w') => show Calls Try.prog 22 #[.pointer (some ⟨tx, 0, none⟩), .int .i64 gi, .int .i64 gt] w' fun e w'' => e = .returned (.bool bb) ∧ w' = w'' by rw [hbb]; exact is_any (D6.out.x.below g) gi gt WI.out)
              have C23 := Lib.hid (fun (w' : World) (g : Gd w6 w') => show Calls Try.prog 23 #[.pointer (some ⟨ty, 0, none⟩), .int .i64 gi, .int .i64 gt] w' fun e w'' => e = .returned (.bool bb) ∧ w' = w'' by rw [hbb]; exact ris_any (D6.out.y.below g) gi gt)
              have C25 := Lib.hid (fun (w' : World) (g : Gd w6 w') => all_row (D6.out.x.below g) LN.out hn)
              have C26 := Lib.hid (fun (w' : World) (g : Gd w6 w') => rall_row (D6.out.y.below g) LN.out hn)
              have KS := Lib.hid (fun (w' : World) (g : Gd w6 w') => show w'.cell? ⟨wo.heap.size, 1, none⟩ = some (.int .i64 gi) ∧ w'.cell? ⟨wo.heap.size, 3, none⟩ = some (.int .i64 gt) from ⟨(g.cell (p := ⟨wo.heap.size, 1, none⟩) hGW).trans z1w6, (g.cell (p := ⟨wo.heap.size, 3, none⟩) hGW).trans z3w6⟩)
              have g0 : Gd w6 w6.drew := (Below.refl _ _).drew
              clear hu hbb z0w6 z2w6
              go_wp2_with fail
              go_region_held3 (fun w' => w'.cell? ⟨wo.heap.size, 1, none⟩ = some (.int .i64 gi) ∧ w'.cell? ⟨wo.heap.size, 3, none⟩ = some (.int .i64 gt)) (first | exact KS.out _ (by assumption) | go_keep) (first
                | (go_at_call 20; refine (C20.out _ (by assumption)).mono ?_; rintro e wq ⟨rfl, rfl⟩)
                | (go_at_call 21; refine (C21.out _ (by assumption)).mono ?_; rintro e wq ⟨rfl, rfl⟩)
                | (go_at_call 22; refine (C22.out _ (by assumption)).mono ?_; rintro e wq ⟨rfl, rfl⟩)
                | (go_at_call 23; refine (C23.out _ (by assumption)).mono ?_; rintro e wq ⟨rfl, rfl⟩)
                | (go_at_call 25; refine (C25.out _ (by assumption)).mono ?_; rintro e w25 ⟨a25, c25, rfl, r25, b25⟩; have g25 : Gd w6 w25 := Gd.step (by assumption) b25)
                | (go_at_call 26; refine (C26.out _ (by assumption)).mono ?_; rintro e w26 ⟨a26, c26, rfl, r26, b26⟩; have g26 : Gd w6 w26 := Gd.step (by assumption) b26)
                | (go_at_call 24; refine (same_any _ _ _ _ _ _ E E _ (by first | exact r25 | exact r25.below b26) (by first | exact r26 | exact r26.below b25)).mono ?_; rintro e w24 ⟨rfl, b24⟩; have g24 : Gd w6 w24 := Gd.step (by assumption) b24; rw [decide_eq_true rfl])
                | fail)
              all_goals
                go_wp2_with fail
                go_roundw
                case rel => exact ⟨k + 1, eb, E, by omega, by go_num, D6.out.below g24, B6.out.trans (Below.mono g24 B6.out.size)⟩
                case measure => simp [intOf]; omega
            · exfalso
              rcases hno with h | h
              · exact h hl6
              · rw [hb6] at h; cases h
          · have how5 : w5.heap[wo.heap.size]? = some (obj 4 gi gn gt oa ol oc) := (f5.block wo.heap.size (by simp) (by omega)).trans OB.out
            have z4w5 : w5.cell? ⟨wo.heap.size, 4, none⟩ = some (.slice oa ol oc) := by simp [World.cell?, how5]
            have hGw5 := blk_lt how5
            have HO5 := Lib.hid how5
            have hol : ol ≤ 60 := by have := HL.out.row.ln; have := LN.out; omega
            have t5 := Lib.hid ((TA.out.opx T5 f5).mono (show ol ≤ 100 + (k + 1) by omega))
            have B5 := Lib.hid (BA.out.trans (f5.below hmx BA.out.size))
            clear T5 f5 TA BA how5
            go_wp2_with fail
            refine (rload_any t5.out.y oa ol oc of (HL.out.below B5.out) (by rw [LN.out]; exact hn)).mono ?_
            rintro e w6 (⟨_, _, hno⟩ | ⟨rfl, _, _, ⟨eb', T6⟩, f6⟩)
            · exfalso
              rcases hno with h | h
              · exact h hl5
              · rw [hb5] at h; cases h
            · have ho6 : w6.heap[wo.heap.size]? = some (obj 4 gi gn gt oa ol oc) := (f6.block wo.heap.size hGw5 (by omega)).trans HO5.out
              have hGW := blk_lt ho6
              obtain ⟨z0w6, z1w6, z2w6, z3w6⟩ := obj_cells ho6
              have D6 := Lib.hid (t5.out.opy T6 f6.size (f6.below hyC (by omega)))
              have B6 := Lib.hid (B5.out.trans (f6.below (by omega) B5.out.size))
              clear T6 f6 t5 B5 HO5 hl5 hb5 ho6 z4w5
              go_wp2_with fail
              obtain ⟨u, hu⟩ : ∃ u, u = unt of gi := ⟨_, rfl⟩
              obtain ⟨bb, hbb⟩ : ∃ bb, bb = isB of gi gt := ⟨_, rfl⟩
              have C20 := Lib.hid (fun (w' : World) (g : Gd w6 w') => show Calls Try.prog 20 #[.pointer (some ⟨tx, 0, none⟩), .int .i64 gi] w' fun e w'' => e = .returned (.int .i64 u) ∧ w' = w'' by rw [hu]; exact until_any (D6.out.x.below g) gi WI.out)
              have C21 := Lib.hid (fun (w' : World) (g : Gd w6 w') => show Calls Try.prog 21 #[.pointer (some ⟨ty, 0, none⟩), .int .i64 gi] w' fun e w'' => e = .returned (.int .i64 u) ∧ w' = w'' by rw [hu]; exact runtil_any (D6.out.y.below g) gi)
              have C22 := Lib.hid (fun (w' : World) (g : Gd w6 w') => show Calls Try.prog 22 #[.pointer (some ⟨tx, 0, none⟩), .int .i64 gi, .int .i64 gt] w' fun e w'' => e = .returned (.bool bb) ∧ w' = w'' by rw [hbb]; exact is_any (D6.out.x.below g) gi gt WI.out)
              have C23 := Lib.hid (fun (w' : World) (g : Gd w6 w') => show Calls Try.prog 23 #[.pointer (some ⟨ty, 0, none⟩), .int .i64 gi, .int .i64 gt] w' fun e w'' => e = .returned (.bool bb) ∧ w' = w'' by rw [hbb]; exact ris_any (D6.out.y.below g) gi gt)
              have C25 := Lib.hid (fun (w' : World) (g : Gd w6 w') => all_row (D6.out.x.below g) LN.out hn)
              have C26 := Lib.hid (fun (w' : World) (g : Gd w6 w') => rall_row (D6.out.y.below g) LN.out hn)
              have KS := Lib.hid (fun (w' : World) (g : Gd w6 w') => show w'.cell? ⟨wo.heap.size, 1, none⟩ = some (.int .i64 gi) ∧ w'.cell? ⟨wo.heap.size, 3, none⟩ = some (.int .i64 gt) from ⟨(g.cell (p := ⟨wo.heap.size, 1, none⟩) hGW).trans z1w6, (g.cell (p := ⟨wo.heap.size, 3, none⟩) hGW).trans z3w6⟩)
              have g0 : Gd w6 w6.drew := (Below.refl _ _).drew
              clear hu hbb z0w6 z2w6
              go_wp2_with fail
              go_region_held3 (fun w' => w'.cell? ⟨wo.heap.size, 1, none⟩ = some (.int .i64 gi) ∧ w'.cell? ⟨wo.heap.size, 3, none⟩ = some (.int .i64 gt)) (first | exact KS.out _ (by assumption) | go_keep) (first
                | (go_at_call 20; refine (C20.out _ (by assumption)).mono ?_; rintro e wq ⟨rfl, rfl⟩)
                | (go_at_call 21; refine (C21.out _ (by assumption)).mono ?_; rintro e wq ⟨rfl, rfl⟩)
                | (go_at_call 22; refine (C22.out _ (by assumption)).mono ?_; rintro e wq ⟨rfl, rfl⟩)
                | (go_at_call 23; refine (C23.out _ (by assumption)).mono ?_; rintro e wq ⟨rfl, rfl⟩)
                | (go_at_call 25; refine (C25.out _ (by assumption)).mono ?_; rintro e w25 ⟨a25, c25, rfl, r25, b25⟩; have g25 : Gd w6 w25 := Gd.step (by assumption) b25)
                | (go_at_call 26; refine (C26.out _ (by assumption)).mono ?_; rintro e w26 ⟨a26, c26, rfl, r26, b26⟩; have g26 : Gd w6 w26 := Gd.step (by assumption) b26)
                | (go_at_call 24; refine (same_any _ _ _ _ _ _ of of _ (by first | exact r25 | exact r25.below b26) (by first | exact r26 | exact r26.below b25)).mono ?_; rintro e w24 ⟨rfl, b24⟩; have g24 : Gd w6 w24 := Gd.step (by assumption) b24; rw [decide_eq_true rfl])
                | fail)
              all_goals
                go_wp2_with fail
                go_roundw
                case rel => exact ⟨k + 1, eb', of, by omega, by go_num, D6.out.below g24, B6.out.trans (Below.mono g24 B6.out.size)⟩
                case measure => simp [intOf]; omega
        · have d4 : (wh == 4) = false := by simpa using hw4
          go_wp2_with fail
          refine (put_any TA.out.x (by unfold maxLen; omega) gi gn gt).mono ?_
          rintro e w5 ⟨rfl, T5, f5⟩
          have how5 : w5.heap[wo.heap.size]? = some (obj wh gi gn gt oa ol oc) := (f5.block wo.heap.size (by simp) (by omega)).trans OB.out
          have hGw5 := blk_lt how5
          obtain ⟨z0w5, z1w5, z2w5, z3w5⟩ := obj_cells how5
          have HOw5 := Lib.hid how5
          have t5 := Lib.hid (TA.out.opx T5 f5)
          have B5 := Lib.hid (BA.out.trans (f5.below hmx BA.out.size))
          clear T5 f5 TA BA how5
          generalize hcc : putC Lm E gi gn gt = cc
          have HCC := Lib.hid hcc
          clear hcc
          go_wp2_with fail
          refine (rput_any t5.out.y gi gn gt).mono ?_
          rintro e w6 ⟨rfl, T6, f6⟩
          rw [HCC.out]
          have how6 : w6.heap[wo.heap.size]? = some (obj wh gi gn gt oa ol oc) := (f6.block wo.heap.size hGw5 (by omega) (by omega)).trans HOw5.out
          have hGW := blk_lt how6
          obtain ⟨z0w6, z1w6, z2w6, z3w6⟩ := obj_cells how6
          clear how6
          have D6 := Lib.hid ((t5.out.opy T6 f6.size (f6.below hyC heC (by omega))))
          have B6 := Lib.hid (B5.out.trans (f6.below (by omega) (by omega) B5.out.size))
          clear T6 f6 t5 B5 HOw5
          go_wp2_with fail
          obtain ⟨u, hu⟩ : ∃ u, u = unt (putE Lm E gi gn gt) gi := ⟨_, rfl⟩
          obtain ⟨bb, hbb⟩ : ∃ bb, bb = isB (putE Lm E gi gn gt) gi gt := ⟨_, rfl⟩
          have C20 := Lib.hid (fun (w' : World) (g : Gd w6 w') => show Calls Try.prog 20 #[.pointer (some ⟨tx, 0, none⟩), .int .i64 gi] w' fun e w'' => e = .returned (.int .i64 u) ∧ w' = w'' by rw [hu]; exact until_any (D6.out.x.below g) gi WI.out)
          have C21 := Lib.hid (fun (w' : World) (g : Gd w6 w') => show Calls Try.prog 21 #[.pointer (some ⟨ty, 0, none⟩), .int .i64 gi] w' fun e w'' => e = .returned (.int .i64 u) ∧ w' = w'' by rw [hu]; exact runtil_any (D6.out.y.below g) gi)
          have C22 := Lib.hid (fun (w' : World) (g : Gd w6 w') => show Calls Try.prog 22 #[.pointer (some ⟨tx, 0, none⟩), .int .i64 gi, .int .i64 gt] w' fun e w'' => e = .returned (.bool bb) ∧ w' = w'' by rw [hbb]; exact is_any (D6.out.x.below g) gi gt WI.out)
          have C23 := Lib.hid (fun (w' : World) (g : Gd w6 w') => show Calls Try.prog 23 #[.pointer (some ⟨ty, 0, none⟩), .int .i64 gi, .int .i64 gt] w' fun e w'' => e = .returned (.bool bb) ∧ w' = w'' by rw [hbb]; exact ris_any (D6.out.y.below g) gi gt)
          have C25 := Lib.hid (fun (w' : World) (g : Gd w6 w') => all_row (D6.out.x.below g) LN.out hn)
          have C26 := Lib.hid (fun (w' : World) (g : Gd w6 w') => rall_row (D6.out.y.below g) LN.out hn)
          have KS := Lib.hid (fun (w' : World) (g : Gd w6 w') => show w'.cell? ⟨wo.heap.size, 1, none⟩ = some (.int .i64 gi) ∧ w'.cell? ⟨wo.heap.size, 3, none⟩ = some (.int .i64 gt) from ⟨(g.cell (p := ⟨wo.heap.size, 1, none⟩) hGW).trans z1w6, (g.cell (p := ⟨wo.heap.size, 3, none⟩) hGW).trans z3w6⟩)
          have g0 : Gd w6 w6.drew := (Below.refl _ _).drew
          clear hu hbb z0w6 z2w6
          go_wp2_with fail
          go_region_held3 (fun w' => w'.cell? ⟨wo.heap.size, 1, none⟩ = some (.int .i64 gi) ∧ w'.cell? ⟨wo.heap.size, 3, none⟩ = some (.int .i64 gt)) (first | exact KS.out _ (by assumption) | go_keep) (first
            | (go_at_call 20; refine (C20.out _ (by assumption)).mono ?_; rintro e wq ⟨rfl, rfl⟩)
            | (go_at_call 21; refine (C21.out _ (by assumption)).mono ?_; rintro e wq ⟨rfl, rfl⟩)
            | (go_at_call 22; refine (C22.out _ (by assumption)).mono ?_; rintro e wq ⟨rfl, rfl⟩)
            | (go_at_call 23; refine (C23.out _ (by assumption)).mono ?_; rintro e wq ⟨rfl, rfl⟩)
            | (go_at_call 25; refine (C25.out _ (by assumption)).mono ?_; rintro e w25 ⟨a25, c25, rfl, r25, b25⟩; have g25 : Gd w6 w25 := Gd.step (by assumption) b25)
            | (go_at_call 26; refine (C26.out _ (by assumption)).mono ?_; rintro e w26 ⟨a26, c26, rfl, r26, b26⟩; have g26 : Gd w6 w26 := Gd.step (by assumption) b26)
            | (go_at_call 24; refine (same_any _ _ _ _ _ _ (putE Lm E gi gn gt) (putE Lm E gi gn gt) _ (by first | exact r25 | exact r25.below b26) (by first | exact r26 | exact r26.below b25)).mono ?_; rintro e w24 ⟨rfl, b24⟩; have g24 : Gd w6 w24 := Gd.step (by assumption) b24; rw [decide_eq_true rfl])
            | fail)
          all_goals
            go_wp2_with fail
            go_roundw
            case rel => exact ⟨k + 1, eb, (putE Lm E gi gn gt), by omega, by go_num, D6.out.below g24, B6.out.trans (Below.mono g24 B6.out.size)⟩
            case measure => simp [intOf]; omega
      · have hk' : k = len := by omega
        subst hk'
        have BE := Lib.hid hbe
        clear hT hbe
        go_wp2_with fail
        go_ret
        exact ⟨rfl, BE.out⟩
end Go.Proofs.Ytfloceoopjokcaa
