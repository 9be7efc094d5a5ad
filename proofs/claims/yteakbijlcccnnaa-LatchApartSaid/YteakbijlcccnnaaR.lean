/- LatchApart. -/
import Derived.Test.YteakbijlcccnnaaQ
namespace Go.Proofs.Yteakbijlcccnnaa
set_option linter.unusedVariables false
open Go.ChangeShapes Go.WideShapes Go.ChangeAt Go.RowKit

theorem lit5i (w : World) (x y z u v : Int) (hw : ∀ e ∈ [x, y, z, u, v], (Lit.int .i64 e).wf = true) : Ir (w.alloc (.cells #[.int .i64 x, .int .i64 y, .int .i64 z, .int .i64 u, .int .i64 v] 3 (0, 0))) (some ⟨w.heap.size, 0, none⟩) 5 [x, y, z, u, v] := by
  refine ⟨rfl, by unfold maxLen; omega, hw, .inr ⟨w.heap.size, 0, rfl, by simp, fun i hi => ?_⟩⟩
  rcases (by omega : i = 0 ∨ i = 1 ∨ i = 2 ∨ i = 3 ∨ i = 4) with e | e | e | e | e
  all_goals
    subst e
    simp only [World.cell?, heap_alloc_new]; rfl
set_option maxRecDepth 100000 in
set_option maxHeartbeats 16000000 in
theorem apart_any (w : World) (a : Option Addr) (len cap : Nat) (g : Nat → Opn) (hS : Sl w a len g) :
    Calls Try.prog 5 #[.slice a len cap] w (BP w true) := by
  have hlen := hS.row.le
  unfold maxLen at hlen
  have S := Lib.hid hS
  clear hS
  go_enter Try.func5, Try.ntmps5
  go_wp2_with fail
  refine (head_any w).mono ?_
  rintro e w0 ⟨rfl, b0⟩
  have b1 := b0.alloc b0.size (.cells #[.int .i64 1, .int .i64 2, .int .i64 1, .int .i64 2, .int .i64 0] 3 (0, 0))
  have hI := lit5i w0 1 2 1 2 0 (by decide)
  obtain ⟨w1, hw1⟩ : ∃ W, W = w0.alloc (.cells #[.int .i64 1, .int .i64 2, .int .i64 1, .int .i64 2, .int .i64 0] 3 (0, 0)) := ⟨_, rfl⟩
  rw [← hw1] at b1 hI
  have B1 := Lib.hid b1
  have I1 := Lib.hid hI
  have s1 := b1.size
  clear b0 b1 hI
  go_wp2_with fail
  rw [← hw1]
  obtain ⟨ga, hga⟩ : ∃ ga, ga = w0.heap.size := ⟨_, rfl⟩
  rw [← hga] at I1
  rw [← hga]
  clear hw1 hga
  refine (new_any _ 5 5 aG w1 I1.out (by omega)).mono ?_
  rintro e w2 ⟨tx, mx, bx, rfl, T2, b2⟩
  have B2 := Lib.hid (B1.out.trans (b2.mono s1))
  have s2 := B2.out.size
  have s12 := b2.size
  have I2 := Lib.hid (I1.out.below b2)
  have X2 := Lib.hid T2
  clear T2 b2
  go_wp2_with fail
  refine (new_any _ 5 5 aG w2 I2.out (by omega)).mono ?_
  rintro e w3 ⟨ty, my, b_y, rfl, T3, b3⟩
  have B3 := Lib.hid (B2.out.trans (b3.mono s2))
  have hT : Two w1.heap.size w2.heap.size w3 tx mx bx (List.replicate 5 La.z) ty my b_y (List.replicate 5 La.z) 0 5 aG :=
    ⟨X2.out.below b3, T3, X2.out.lt.1, X2.out.lt.2.1, X2.out.lt.2.2 (by omega)⟩
  have T := Lib.hid hT
  clear T3 b3 hT X2
  go_wp2_with fail
  refine (great_any _ 5 5 a len cap g w3 (by unfold maxLen; omega) (S.out.below B3.out)).mono ?_
  rintro e w3' ⟨bg, rfl, hbg, rfl⟩
  cases bg with
  | true =>
    clear hbg
    go_wp2_with fail
    go_ret
    exact ⟨rfl, B3.out⟩
  | false =>
    obtain ⟨hg1, hg2⟩ := hbg rfl
    clear hbg
    go_wp2_with fail
    go_loopw [7] (fun iv wr => ∃ (k : Nat) (Sx Sy : List La), k ≤ len ∧ iv = .int .i64 k ∧ Two w1.heap.size w2.heap.size wr tx mx bx Sx ty my b_y Sy (100 + 2 * k) 5 aG ∧ agree aG Sx Sy 1 ∧ Below w.heap.size w wr) (fun iv _ => len - (intOf iv).toNat)
    case atStart => exact ⟨0, _, _, Nat.zero_le _, rfl, T.out.mono (by omega), fun _ _ _ => rfl, B3.out⟩
    case round =>
      obtain ⟨wo, rfl⟩ : ∃ wo : World, wo = wr := ⟨_, rfl⟩
      obtain ⟨k, Sx, Sy, hk, rfl, hT, hag, hbe⟩ := hrel
      by_cases hkn : k < len
      · obtain ⟨b, off, ha, hblt, hcs⟩ := (S.out.below hbe).row.pos (by omega)
        have c0 : wo.cell? ⟨b, off + k * 4, none⟩ = some (.int .i64 (g k).wh) := hcs k hkn 0 (by omega)
        have c1 : wo.cell? ⟨b, off + k * 4 + 1, none⟩ = some (.int .i64 (g k).i) := hcs k hkn 1 (by omega)
        have c2 : wo.cell? ⟨b, off + k * 4 + 2, none⟩ = some (.int .i64 (g k).now) := hcs k hkn 2 (by omega)
        have c3 : wo.cell? ⟨b, off + k * 4 + 3, none⟩ = some (.slice (g k).a (g k).l (g k).c) := hcs k hkn 3 (by omega)
        obtain ⟨⟨_, wi, wt⟩, _⟩ := S.out.wf k hkn
        subst ha
        clear hcs
        generalize (g k).wh = wh at c0
        generalize (g k).i = gi at c1 wi
        generalize (g k).now = gt at c2 wt
        generalize (g k).a = oa at c3
        generalize (g k).l = ol at c3
        generalize (g k).c = oc at c3
        have hOb : (wo.alloc (obj wh gi gt oa ol oc)).heap[wo.heap.size]? = some (obj wh gi gt oa ol oc) := heap_alloc_new wo _
        have TA := Lib.hid (hT.below (alloc_b wo (obj wh gi gt oa ol oc)))
        have BA := Lib.hid (hbe.alloc hbe.size (obj wh gi gt oa ol oc))
        have OB := Lib.hid hOb
        have lx := hT.x.lt
        have lx3 := lx.2.2 (by omega)
        have ly := hT.y.lt
        have ly3 := ly.2.2 (by omega)
        have hx1 := hT.x.hm
        have hx2 := hT.x.hb
        have hy1 := hT.y.hm
        have hy2 := hT.y.hb
        have WT := Lib.hid wt
        have AG := Lib.hid hag
        clear hT hbe hOb wi wt hag
        have hownc : (gi = 0 ∨ gi = 2) ∨ ¬ (gi = 0 ∨ gi = 2) := Classical.em _
        by_cases h3 : wh = 3
        · subst h3
          rcases hownc with hown | hown
          · rcases hown with rfl | rfl
            · have hown : (0 : Int) = 0 ∨ (0 : Int) = 2 := .inl rfl
              have AG6 := Lib.hid (own_rsS AG.out TA.out.x.ok TA.out.y.ok hown)
              have EQ := Lib.hid (own_rsB AG.out hown)
              clear hown
              go_wp2_with fail
              refine (reset_any TA.out.x 0).mono ?_
              rintro e w5 ⟨rfl, T5, f5⟩
              have t5 := Lib.hid (TA.out.opx T5 (Nat.le_refl _) f5)
              have B5 := Lib.hid (BA.out.trans (f5.below (by simp; omega) BA.out.size))
              have k5 := (f5.block wo.heap.size (by simp) (by simp; omega)).trans OB.out
              obtain ⟨y0, y1, y2, y3⟩ := obj_cells k5
              have K5 := Lib.hid k5
              have l5 := blk_lt k5
              clear T5 f5 k5
              obtain ⟨bb, hbb⟩ : ∃ b, b = rsB Sx 5 0 := ⟨_, rfl⟩
              have EQ2 := Lib.hid (EQ.out.trans hbb.symm)
              rw [← hbb]
              clear hbb
              go_wp2_with fail
              refine (reset_any t5.out.y 0).mono ?_
              rintro e w6 ⟨rfl, T6, f6⟩
              rw [EQ2.out]
              have D6 := Lib.hid (t5.out.opy T6 (Nat.le_refl _) f6)
              have B6 := Lib.hid (B5.out.trans (f6.below (by simp; omega) B5.out.size))
              have A6 := AG6
              clear T6 f6 t5 B5 TA BA OB K5 AG AG6 y0 y1 y2 y3 EQ EQ2
              have hfx : ∃ f b, fiV aG (rsS Sx 5 0) 1 = .tuple #[.int .i64 f, .bool b] := ⟨_, _, rfl⟩
              obtain ⟨fv, fb, hfx⟩ := hfx
              have hfe : fo aG (rsS Sy 5 0) 1 = fo aG (rsS Sx 5 0) 1 := (A6.out.fo D6.out.x.ok D6.out.y.ok).symm
              have hfy : fiV aG (rsS Sy 5 0) 1 = .tuple #[.int .i64 fv, .bool fb] := by rw [← hfx]; unfold fiV; rw [hfe]
              obtain ⟨s0, hs0⟩ : ∃ z, z = atS (rsS Sx 5 0) 0 := ⟨_, rfl⟩
              obtain ⟨s2, hs2⟩ : ∃ z, z = atS (rsS Sx 5 0) 2 := ⟨_, rfl⟩
              have hy0 : s0 = atS (rsS Sy 5 0) 0 := by rw [hs0]; exact A6.out 0 (by decide) (by decide)
              have hy2 : s2 = atS (rsS Sy 5 0) 2 := by rw [hs2]; exact A6.out 2 (by decide) (by decide)
              have HFX := Lib.hid hfx
              have HFY := Lib.hid hfy
              have HX0 := Lib.hid hs0
              have HX2 := Lib.hid hs2
              have HY0 := Lib.hid hy0
              have HY2 := Lib.hid hy2
              clear hfx hfe hfy hs0 hs2 hy0 hy2
              obtain ⟨p0, p1, p2⟩ := s0
              obtain ⟨q0, q1, q2⟩ := s2
              go_wp2_with fail
              refine (first_any D6.out.x 1 (by decide)).mono ?_
              rintro e w6' ⟨rfl, rfl⟩
              rw [HFX.out]
              go_wp2_with fail
              refine (first_any D6.out.y 1 (by decide)).mono ?_
              rintro e w6' ⟨rfl, rfl⟩
              rw [HFY.out]
              go_wp2_with fail
              refine (at_any D6.out.x 0).mono ?_
              rintro e w7 ⟨rfl, b7⟩
              rw [← HX0.out]
              unfold lv
              have D7 := Lib.hid (D6.out.below b7)
              have B7 := Lib.hid (B6.out.trans (b7.mono B6.out.size))
              clear b7
              go_wp2_with fail
              refine (at_any D7.out.y 0).mono ?_
              rintro e w8 ⟨rfl, b8⟩
              rw [← HY0.out]
              unfold lv
              have D8 := Lib.hid (D7.out.below b8)
              have B8 := Lib.hid (B7.out.trans (b8.mono B7.out.size))
              clear b8
              go_wp2_with fail
              refine (at_any D8.out.x 2).mono ?_
              rintro e w9 ⟨rfl, b9⟩
              rw [← HX2.out]
              unfold lv
              have D9 := Lib.hid (D8.out.below b9)
              have B9 := Lib.hid (B8.out.trans (b9.mono B8.out.size))
              clear b9
              go_wp2_with fail
              refine (at_any D9.out.y 2).mono ?_
              rintro e w10 ⟨rfl, b10⟩
              rw [← HY2.out]
              unfold lv
              have D10 := Lib.hid (D9.out.below b10)
              have B10 := Lib.hid (B9.out.trans (b10.mono B9.out.size))
              clear b10
              go_wp2_with fail
              go_roundw
              case rel => exact ⟨k + 1, (rsS Sx 5 0), (rsS Sy 5 0), by omega, by go_num, D10.out.mono (by omega), A6.out, B10.out⟩
              case measure => simp [intOf]; omega
            · have hown : (2 : Int) = 0 ∨ (2 : Int) = 2 := .inr rfl
              have AG6 := Lib.hid (own_rsS AG.out TA.out.x.ok TA.out.y.ok hown)
              have EQ := Lib.hid (own_rsB AG.out hown)
              clear hown
              go_wp2_with fail
              refine (reset_any TA.out.x 2).mono ?_
              rintro e w5 ⟨rfl, T5, f5⟩
              have t5 := Lib.hid (TA.out.opx T5 (Nat.le_refl _) f5)
              have B5 := Lib.hid (BA.out.trans (f5.below (by simp; omega) BA.out.size))
              have k5 := (f5.block wo.heap.size (by simp) (by simp; omega)).trans OB.out
              obtain ⟨y0, y1, y2, y3⟩ := obj_cells k5
              have K5 := Lib.hid k5
              have l5 := blk_lt k5
              clear T5 f5 k5
              obtain ⟨bb, hbb⟩ : ∃ b, b = rsB Sx 5 2 := ⟨_, rfl⟩
              have EQ2 := Lib.hid (EQ.out.trans hbb.symm)
              rw [← hbb]
              clear hbb
              go_wp2_with fail
              refine (reset_any t5.out.y 2).mono ?_
              rintro e w6 ⟨rfl, T6, f6⟩
              rw [EQ2.out]
              have D6 := Lib.hid (t5.out.opy T6 (Nat.le_refl _) f6)
              have B6 := Lib.hid (B5.out.trans (f6.below (by simp; omega) B5.out.size))
              have A6 := AG6
              clear T6 f6 t5 B5 TA BA OB K5 AG AG6 y0 y1 y2 y3 EQ EQ2
              have hfx : ∃ f b, fiV aG (rsS Sx 5 2) 1 = .tuple #[.int .i64 f, .bool b] := ⟨_, _, rfl⟩
              obtain ⟨fv, fb, hfx⟩ := hfx
              have hfe : fo aG (rsS Sy 5 2) 1 = fo aG (rsS Sx 5 2) 1 := (A6.out.fo D6.out.x.ok D6.out.y.ok).symm
              have hfy : fiV aG (rsS Sy 5 2) 1 = .tuple #[.int .i64 fv, .bool fb] := by rw [← hfx]; unfold fiV; rw [hfe]
              obtain ⟨s0, hs0⟩ : ∃ z, z = atS (rsS Sx 5 2) 0 := ⟨_, rfl⟩
              obtain ⟨s2, hs2⟩ : ∃ z, z = atS (rsS Sx 5 2) 2 := ⟨_, rfl⟩
              have hy0 : s0 = atS (rsS Sy 5 2) 0 := by rw [hs0]; exact A6.out 0 (by decide) (by decide)
              have hy2 : s2 = atS (rsS Sy 5 2) 2 := by rw [hs2]; exact A6.out 2 (by decide) (by decide)
              have HFX := Lib.hid hfx
              have HFY := Lib.hid hfy
              have HX0 := Lib.hid hs0
              have HX2 := Lib.hid hs2
              have HY0 := Lib.hid hy0
              have HY2 := Lib.hid hy2
              clear hfx hfe hfy hs0 hs2 hy0 hy2
              obtain ⟨p0, p1, p2⟩ := s0
              obtain ⟨q0, q1, q2⟩ := s2
              go_wp2_with fail
              refine (first_any D6.out.x 1 (by decide)).mono ?_
              rintro e w6' ⟨rfl, rfl⟩
              rw [HFX.out]
              go_wp2_with fail
              refine (first_any D6.out.y 1 (by decide)).mono ?_
              rintro e w6' ⟨rfl, rfl⟩
              rw [HFY.out]
              go_wp2_with fail
              refine (at_any D6.out.x 0).mono ?_
              rintro e w7 ⟨rfl, b7⟩
              rw [← HX0.out]
              unfold lv
              have D7 := Lib.hid (D6.out.below b7)
              have B7 := Lib.hid (B6.out.trans (b7.mono B6.out.size))
              clear b7
              go_wp2_with fail
              refine (at_any D7.out.y 0).mono ?_
              rintro e w8 ⟨rfl, b8⟩
              rw [← HY0.out]
              unfold lv
              have D8 := Lib.hid (D7.out.below b8)
              have B8 := Lib.hid (B7.out.trans (b8.mono B7.out.size))
              clear b8
              go_wp2_with fail
              refine (at_any D8.out.x 2).mono ?_
              rintro e w9 ⟨rfl, b9⟩
              rw [← HX2.out]
              unfold lv
              have D9 := Lib.hid (D8.out.below b9)
              have B9 := Lib.hid (B8.out.trans (b9.mono B8.out.size))
              clear b9
              go_wp2_with fail
              refine (at_any D9.out.y 2).mono ?_
              rintro e w10 ⟨rfl, b10⟩
              rw [← HY2.out]
              unfold lv
              have D10 := Lib.hid (D9.out.below b10)
              have B10 := Lib.hid (B9.out.trans (b10.mono B9.out.size))
              clear b10
              go_wp2_with fail
              go_roundw
              case rel => exact ⟨k + 1, (rsS Sx 5 2), (rsS Sy 5 2), by omega, by go_num, D10.out.mono (by omega), A6.out, B10.out⟩
              case measure => simp [intOf]; omega
          · have d1 : (gi == 0) = false := by simp; omega
            have d2 : (gi == 2) = false := by simp; omega
            have AG6 := Lib.hid (other_rsS AG.out TA.out.x.ok hown)
            
            clear hown
            go_wp2_with fail
            refine (reset_any TA.out.x gi).mono ?_
            rintro e w5 ⟨rfl, T5, f5⟩
            have t5 := Lib.hid (TA.out.opx T5 (Nat.le_refl _) f5)
            have B5 := Lib.hid (BA.out.trans (f5.below (by simp; omega) BA.out.size))
            have k5 := (f5.block wo.heap.size (by simp) (by simp; omega)).trans OB.out
            obtain ⟨y0, y1, y2, y3⟩ := obj_cells k5
            have K5 := Lib.hid k5
            have l5 := blk_lt k5
            clear T5 f5 k5
            have D6 := t5
            have B6 := B5
            have A6 := AG6
            clear t5 B5 TA BA OB K5 AG AG6
            have hfx : ∃ f b, fiV aG (rsS Sx 5 gi) 1 = .tuple #[.int .i64 f, .bool b] := ⟨_, _, rfl⟩
            obtain ⟨fv, fb, hfx⟩ := hfx
            have hfe : fo aG Sy 1 = fo aG (rsS Sx 5 gi) 1 := (A6.out.fo D6.out.x.ok D6.out.y.ok).symm
            have hfy : fiV aG Sy 1 = .tuple #[.int .i64 fv, .bool fb] := by rw [← hfx]; unfold fiV; rw [hfe]
            obtain ⟨s0, hs0⟩ : ∃ z, z = atS (rsS Sx 5 gi) 0 := ⟨_, rfl⟩
            obtain ⟨s2, hs2⟩ : ∃ z, z = atS (rsS Sx 5 gi) 2 := ⟨_, rfl⟩
            have hy0 : s0 = atS Sy 0 := by rw [hs0]; exact A6.out 0 (by decide) (by decide)
            have hy2 : s2 = atS Sy 2 := by rw [hs2]; exact A6.out 2 (by decide) (by decide)
            have HFX := Lib.hid hfx
            have HFY := Lib.hid hfy
            have HX0 := Lib.hid hs0
            have HX2 := Lib.hid hs2
            have HY0 := Lib.hid hy0
            have HY2 := Lib.hid hy2
            clear hfx hfe hfy hs0 hs2 hy0 hy2
            obtain ⟨p0, p1, p2⟩ := s0
            obtain ⟨q0, q1, q2⟩ := s2
            go_wp2_with fail
            refine (first_any D6.out.x 1 (by decide)).mono ?_
            rintro e w6' ⟨rfl, rfl⟩
            rw [HFX.out]
            go_wp2_with fail
            refine (first_any D6.out.y 1 (by decide)).mono ?_
            rintro e w6' ⟨rfl, rfl⟩
            rw [HFY.out]
            go_wp2_with fail
            refine (at_any D6.out.x 0).mono ?_
            rintro e w7 ⟨rfl, b7⟩
            rw [← HX0.out]
            unfold lv
            have D7 := Lib.hid (D6.out.below b7)
            have B7 := Lib.hid (B6.out.trans (b7.mono B6.out.size))
            clear b7
            go_wp2_with fail
            refine (at_any D7.out.y 0).mono ?_
            rintro e w8 ⟨rfl, b8⟩
            rw [← HY0.out]
            unfold lv
            have D8 := Lib.hid (D7.out.below b8)
            have B8 := Lib.hid (B7.out.trans (b8.mono B7.out.size))
            clear b8
            go_wp2_with fail
            refine (at_any D8.out.x 2).mono ?_
            rintro e w9 ⟨rfl, b9⟩
            rw [← HX2.out]
            unfold lv
            have D9 := Lib.hid (D8.out.below b9)
            have B9 := Lib.hid (B8.out.trans (b9.mono B8.out.size))
            clear b9
            go_wp2_with fail
            refine (at_any D9.out.y 2).mono ?_
            rintro e w10 ⟨rfl, b10⟩
            rw [← HY2.out]
            unfold lv
            have D10 := Lib.hid (D9.out.below b10)
            have B10 := Lib.hid (B9.out.trans (b10.mono B9.out.size))
            clear b10
            go_wp2_with fail
            go_roundw
            case rel => exact ⟨k + 1, (rsS Sx 5 gi), Sy, by omega, by go_num, D10.out.mono (by omega), A6.out, B10.out⟩
            case measure => simp [intOf]; omega
        · have d3 : (wh == 3) = false := by simpa using h3
          rcases hownc with hown | hown
          · rcases hown with rfl | rfl
            · have hown : (0 : Int) = 0 ∨ (0 : Int) = 2 := .inl rfl
              have AG6 := Lib.hid (own_trS AG.out TA.out.x.ok TA.out.y.ok hown gt)
              have EQ := Lib.hid (own_trB AG.out hown)
              clear hown
              go_wp2_with fail
              refine (trip_any TA.out.x (by unfold maxLen; omega) 0 gt WT.out).mono ?_
              rintro e w5 ⟨rfl, T5, f5⟩
              have t5 := Lib.hid (TA.out.opx T5 (Nat.le_succ _) f5)
              have B5 := Lib.hid (BA.out.trans (f5.below (by simp; omega) BA.out.size))
              have k5 := (f5.block wo.heap.size (by simp) (by simp; omega)).trans OB.out
              obtain ⟨y0, y1, y2, y3⟩ := obj_cells k5
              have K5 := Lib.hid k5
              have l5 := blk_lt k5
              clear T5 f5 k5
              obtain ⟨bb, hbb⟩ : ∃ b, b = trB Sx 5 0 := ⟨_, rfl⟩
              have EQ2 := Lib.hid (EQ.out.trans hbb.symm)
              rw [← hbb]
              clear hbb
              go_wp2_with fail
              refine (trip_any (t5.out.y) (by unfold maxLen; omega) 0 gt WT.out).mono ?_
              rintro e w6 ⟨rfl, T6, f6⟩
              rw [EQ2.out]
              have D6 := Lib.hid (t5.out.opy T6 (Nat.le_succ _) f6)
              have B6 := Lib.hid (B5.out.trans (f6.below (by simp; omega) B5.out.size))
              have A6 := AG6
              clear T6 f6 t5 B5 TA BA OB K5 AG AG6 y0 y1 y2 y3 EQ EQ2
              have hfx : ∃ f b, fiV aG (trS aG Sx 5 0 gt) 1 = .tuple #[.int .i64 f, .bool b] := ⟨_, _, rfl⟩
              obtain ⟨fv, fb, hfx⟩ := hfx
              have hfe : fo aG (trS aG Sy 5 0 gt) 1 = fo aG (trS aG Sx 5 0 gt) 1 := (A6.out.fo D6.out.x.ok D6.out.y.ok).symm
              have hfy : fiV aG (trS aG Sy 5 0 gt) 1 = .tuple #[.int .i64 fv, .bool fb] := by rw [← hfx]; unfold fiV; rw [hfe]
              obtain ⟨s0, hs0⟩ : ∃ z, z = atS (trS aG Sx 5 0 gt) 0 := ⟨_, rfl⟩
              obtain ⟨s2, hs2⟩ : ∃ z, z = atS (trS aG Sx 5 0 gt) 2 := ⟨_, rfl⟩
              have hy0 : s0 = atS (trS aG Sy 5 0 gt) 0 := by rw [hs0]; exact A6.out 0 (by decide) (by decide)
              have hy2 : s2 = atS (trS aG Sy 5 0 gt) 2 := by rw [hs2]; exact A6.out 2 (by decide) (by decide)
              have HFX := Lib.hid hfx
              have HFY := Lib.hid hfy
              have HX0 := Lib.hid hs0
              have HX2 := Lib.hid hs2
              have HY0 := Lib.hid hy0
              have HY2 := Lib.hid hy2
              clear hfx hfe hfy hs0 hs2 hy0 hy2
              obtain ⟨p0, p1, p2⟩ := s0
              obtain ⟨q0, q1, q2⟩ := s2
              go_wp2_with fail
              refine (first_any D6.out.x 1 (by decide)).mono ?_
              rintro e w6' ⟨rfl, rfl⟩
              rw [HFX.out]
              go_wp2_with fail
              refine (first_any D6.out.y 1 (by decide)).mono ?_
              rintro e w6' ⟨rfl, rfl⟩
              rw [HFY.out]
              go_wp2_with fail
              refine (at_any D6.out.x 0).mono ?_
              rintro e w7 ⟨rfl, b7⟩
              rw [← HX0.out]
              unfold lv
              have D7 := Lib.hid (D6.out.below b7)
              have B7 := Lib.hid (B6.out.trans (b7.mono B6.out.size))
              clear b7
              go_wp2_with fail
              refine (at_any D7.out.y 0).mono ?_
              rintro e w8 ⟨rfl, b8⟩
              rw [← HY0.out]
              unfold lv
              have D8 := Lib.hid (D7.out.below b8)
              have B8 := Lib.hid (B7.out.trans (b8.mono B7.out.size))
              clear b8
              go_wp2_with fail
              refine (at_any D8.out.x 2).mono ?_
              rintro e w9 ⟨rfl, b9⟩
              rw [← HX2.out]
              unfold lv
              have D9 := Lib.hid (D8.out.below b9)
              have B9 := Lib.hid (B8.out.trans (b9.mono B8.out.size))
              clear b9
              go_wp2_with fail
              refine (at_any D9.out.y 2).mono ?_
              rintro e w10 ⟨rfl, b10⟩
              rw [← HY2.out]
              unfold lv
              have D10 := Lib.hid (D9.out.below b10)
              have B10 := Lib.hid (B9.out.trans (b10.mono B9.out.size))
              clear b10
              go_wp2_with fail
              go_roundw
              case rel => exact ⟨k + 1, (trS aG Sx 5 0 gt), (trS aG Sy 5 0 gt), by omega, by go_num, D10.out.mono (by omega), A6.out, B10.out⟩
              case measure => simp [intOf]; omega
            · have hown : (2 : Int) = 0 ∨ (2 : Int) = 2 := .inr rfl
              have AG6 := Lib.hid (own_trS AG.out TA.out.x.ok TA.out.y.ok hown gt)
              have EQ := Lib.hid (own_trB AG.out hown)
              clear hown
              go_wp2_with fail
              refine (trip_any TA.out.x (by unfold maxLen; omega) 2 gt WT.out).mono ?_
              rintro e w5 ⟨rfl, T5, f5⟩
              have t5 := Lib.hid (TA.out.opx T5 (Nat.le_succ _) f5)
              have B5 := Lib.hid (BA.out.trans (f5.below (by simp; omega) BA.out.size))
              have k5 := (f5.block wo.heap.size (by simp) (by simp; omega)).trans OB.out
              obtain ⟨y0, y1, y2, y3⟩ := obj_cells k5
              have K5 := Lib.hid k5
              have l5 := blk_lt k5
              clear T5 f5 k5
              obtain ⟨bb, hbb⟩ : ∃ b, b = trB Sx 5 2 := ⟨_, rfl⟩
              have EQ2 := Lib.hid (EQ.out.trans hbb.symm)
              rw [← hbb]
              clear hbb
              go_wp2_with fail
              refine (trip_any (t5.out.y) (by unfold maxLen; omega) 2 gt WT.out).mono ?_
              rintro e w6 ⟨rfl, T6, f6⟩
              rw [EQ2.out]
              have D6 := Lib.hid (t5.out.opy T6 (Nat.le_succ _) f6)
              have B6 := Lib.hid (B5.out.trans (f6.below (by simp; omega) B5.out.size))
              have A6 := AG6
              clear T6 f6 t5 B5 TA BA OB K5 AG AG6 y0 y1 y2 y3 EQ EQ2
              have hfx : ∃ f b, fiV aG (trS aG Sx 5 2 gt) 1 = .tuple #[.int .i64 f, .bool b] := ⟨_, _, rfl⟩
              obtain ⟨fv, fb, hfx⟩ := hfx
              have hfe : fo aG (trS aG Sy 5 2 gt) 1 = fo aG (trS aG Sx 5 2 gt) 1 := (A6.out.fo D6.out.x.ok D6.out.y.ok).symm
              have hfy : fiV aG (trS aG Sy 5 2 gt) 1 = .tuple #[.int .i64 fv, .bool fb] := by rw [← hfx]; unfold fiV; rw [hfe]
              obtain ⟨s0, hs0⟩ : ∃ z, z = atS (trS aG Sx 5 2 gt) 0 := ⟨_, rfl⟩
              obtain ⟨s2, hs2⟩ : ∃ z, z = atS (trS aG Sx 5 2 gt) 2 := ⟨_, rfl⟩
              have hy0 : s0 = atS (trS aG Sy 5 2 gt) 0 := by rw [hs0]; exact A6.out 0 (by decide) (by decide)
              have hy2 : s2 = atS (trS aG Sy 5 2 gt) 2 := by rw [hs2]; exact A6.out 2 (by decide) (by decide)
              have HFX := Lib.hid hfx
              have HFY := Lib.hid hfy
              have HX0 := Lib.hid hs0
              have HX2 := Lib.hid hs2
              have HY0 := Lib.hid hy0
              have HY2 := Lib.hid hy2
              clear hfx hfe hfy hs0 hs2 hy0 hy2
              obtain ⟨p0, p1, p2⟩ := s0
              obtain ⟨q0, q1, q2⟩ := s2
              go_wp2_with fail
              refine (first_any D6.out.x 1 (by decide)).mono ?_
              rintro e w6' ⟨rfl, rfl⟩
              rw [HFX.out]
              go_wp2_with fail
              refine (first_any D6.out.y 1 (by decide)).mono ?_
              rintro e w6' ⟨rfl, rfl⟩
              rw [HFY.out]
              go_wp2_with fail
              refine (at_any D6.out.x 0).mono ?_
              rintro e w7 ⟨rfl, b7⟩
              rw [← HX0.out]
              unfold lv
              have D7 := Lib.hid (D6.out.below b7)
              have B7 := Lib.hid (B6.out.trans (b7.mono B6.out.size))
              clear b7
              go_wp2_with fail
              refine (at_any D7.out.y 0).mono ?_
              rintro e w8 ⟨rfl, b8⟩
              rw [← HY0.out]
              unfold lv
              have D8 := Lib.hid (D7.out.below b8)
              have B8 := Lib.hid (B7.out.trans (b8.mono B7.out.size))
              clear b8
              go_wp2_with fail
              refine (at_any D8.out.x 2).mono ?_
              rintro e w9 ⟨rfl, b9⟩
              rw [← HX2.out]
              unfold lv
              have D9 := Lib.hid (D8.out.below b9)
              have B9 := Lib.hid (B8.out.trans (b9.mono B8.out.size))
              clear b9
              go_wp2_with fail
              refine (at_any D9.out.y 2).mono ?_
              rintro e w10 ⟨rfl, b10⟩
              rw [← HY2.out]
              unfold lv
              have D10 := Lib.hid (D9.out.below b10)
              have B10 := Lib.hid (B9.out.trans (b10.mono B9.out.size))
              clear b10
              go_wp2_with fail
              go_roundw
              case rel => exact ⟨k + 1, (trS aG Sx 5 2 gt), (trS aG Sy 5 2 gt), by omega, by go_num, D10.out.mono (by omega), A6.out, B10.out⟩
              case measure => simp [intOf]; omega
          · have d1 : (gi == 0) = false := by simp; omega
            have d2 : (gi == 2) = false := by simp; omega
            have AG6 := Lib.hid (other_trS AG.out TA.out.x.ok hown gt)
            
            clear hown
            go_wp2_with fail
            refine (trip_any TA.out.x (by unfold maxLen; omega) gi gt WT.out).mono ?_
            rintro e w5 ⟨rfl, T5, f5⟩
            have t5 := Lib.hid (TA.out.opx T5 (Nat.le_succ _) f5)
            have B5 := Lib.hid (BA.out.trans (f5.below (by simp; omega) BA.out.size))
            have k5 := (f5.block wo.heap.size (by simp) (by simp; omega)).trans OB.out
            obtain ⟨y0, y1, y2, y3⟩ := obj_cells k5
            have K5 := Lib.hid k5
            have l5 := blk_lt k5
            clear T5 f5 k5
            have D6 := t5
            have B6 := B5
            have A6 := AG6
            clear t5 B5 TA BA OB K5 AG AG6
            have hfx : ∃ f b, fiV aG (trS aG Sx 5 gi gt) 1 = .tuple #[.int .i64 f, .bool b] := ⟨_, _, rfl⟩
            obtain ⟨fv, fb, hfx⟩ := hfx
            have hfe : fo aG Sy 1 = fo aG (trS aG Sx 5 gi gt) 1 := (A6.out.fo D6.out.x.ok D6.out.y.ok).symm
            have hfy : fiV aG Sy 1 = .tuple #[.int .i64 fv, .bool fb] := by rw [← hfx]; unfold fiV; rw [hfe]
            obtain ⟨s0, hs0⟩ : ∃ z, z = atS (trS aG Sx 5 gi gt) 0 := ⟨_, rfl⟩
            obtain ⟨s2, hs2⟩ : ∃ z, z = atS (trS aG Sx 5 gi gt) 2 := ⟨_, rfl⟩
            have hy0 : s0 = atS Sy 0 := by rw [hs0]; exact A6.out 0 (by decide) (by decide)
            have hy2 : s2 = atS Sy 2 := by rw [hs2]; exact A6.out 2 (by decide) (by decide)
            have HFX := Lib.hid hfx
            have HFY := Lib.hid hfy
            have HX0 := Lib.hid hs0
            have HX2 := Lib.hid hs2
            have HY0 := Lib.hid hy0
            have HY2 := Lib.hid hy2
            clear hfx hfe hfy hs0 hs2 hy0 hy2
            obtain ⟨p0, p1, p2⟩ := s0
            obtain ⟨q0, q1, q2⟩ := s2
            go_wp2_with fail
            refine (first_any D6.out.x 1 (by decide)).mono ?_
            rintro e w6' ⟨rfl, rfl⟩
            rw [HFX.out]
            go_wp2_with fail
            refine (first_any D6.out.y 1 (by decide)).mono ?_
            rintro e w6' ⟨rfl, rfl⟩
            rw [HFY.out]
            go_wp2_with fail
            refine (at_any D6.out.x 0).mono ?_
            rintro e w7 ⟨rfl, b7⟩
            rw [← HX0.out]
            unfold lv
            have D7 := Lib.hid (D6.out.below b7)
            have B7 := Lib.hid (B6.out.trans (b7.mono B6.out.size))
            clear b7
            go_wp2_with fail
            refine (at_any D7.out.y 0).mono ?_
            rintro e w8 ⟨rfl, b8⟩
            rw [← HY0.out]
            unfold lv
            have D8 := Lib.hid (D7.out.below b8)
            have B8 := Lib.hid (B7.out.trans (b8.mono B7.out.size))
            clear b8
            go_wp2_with fail
            refine (at_any D8.out.x 2).mono ?_
            rintro e w9 ⟨rfl, b9⟩
            rw [← HX2.out]
            unfold lv
            have D9 := Lib.hid (D8.out.below b9)
            have B9 := Lib.hid (B8.out.trans (b9.mono B8.out.size))
            clear b9
            go_wp2_with fail
            refine (at_any D9.out.y 2).mono ?_
            rintro e w10 ⟨rfl, b10⟩
            rw [← HY2.out]
            unfold lv
            have D10 := Lib.hid (D9.out.below b10)
            have B10 := Lib.hid (B9.out.trans (b10.mono B9.out.size))
            clear b10
            go_wp2_with fail
            go_roundw
            case rel => exact ⟨k + 1, (trS aG Sx 5 gi gt), Sy, by omega, by go_num, D10.out.mono (by omega), A6.out, B10.out⟩
            case measure => simp [intOf]; omega
      · have hk' : k = len := by omega
        subst hk'
        have BE := Lib.hid hbe
        clear hT hag hbe
        go_wp2_with fail
        go_ret
        exact ⟨rfl, BE.out⟩
end Go.Proofs.Yteakbijlcccnnaa
