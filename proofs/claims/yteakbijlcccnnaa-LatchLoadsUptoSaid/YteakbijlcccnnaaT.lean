/- LatchPlays. -/
import Derived.Test.YteakbijlcccnnaaQ
import Derived.Deep.RegionHeld3
namespace Go.Proofs.Yteakbijlcccnnaa
set_option linter.unusedVariables false
open Go.ChangeShapes Go.WideShapes Go.ChangeAt Go.RowKit

/-- A row, and the document's own. -/
structure Duo (B C : Nat) (w : World) (tx mx bx : Nat) (Sx : List La) (ty gb eb : Nat) (Sy : List La) (cn n : Nat) (G : List Int) : Prop where
  x : Lt B w tx mx bx cn n G Sx
  y : Rt C w ty gb eb n G Sy
  xb : bx < C
section
variable {B C tx mx bx ty gb eb cn cn' n : Nat} {w w' : World} {Sx Sy S' : List La} {G : List Int}
theorem Duo.apart (h : Duo B C w tx mx bx Sx ty gb eb Sy cn n G) : tx ≠ ty ∧ tx ≠ eb ∧ mx ≠ ty ∧ mx ≠ eb ∧ bx ≠ ty ∧ bx ≠ eb ∧ (0 < n → gb ≠ tx ∧ gb ≠ mx ∧ gb ≠ bx) := by
  obtain ⟨ma, c, q1, _⟩ := h.x.blk
  obtain ⟨D, ⟨es, clock, hbk, _⟩, _⟩ := h.x.map.ex
  obtain ⟨ga, gc, ec, r1, _⟩ := h.y.blk
  obtain ⟨ar, r2, _⟩ := h.y.row
  have h1 := h.xb
  have h2 := h.y.ht
  have h3 := h.y.he
  refine ⟨?_, ?_, ?_, ?_, by omega, by omega, fun h0 => ?_⟩
  · rintro rfl; rw [q1] at r1; simp at r1
  · rintro rfl; rw [q1] at r2; simp at r2
  · rintro rfl; rw [hbk] at r1; cases r1
  · rintro rfl; rw [hbk] at r2; cases r2
  · obtain ⟨ag, g1, _⟩ := h.y.gs h0
    obtain ⟨am, m1, _⟩ := h.x.row h0
    refine ⟨?_, ?_, ?_⟩
    · rintro rfl; rw [q1] at g1; simp at g1
    · rintro rfl; rw [hbk] at g1; cases g1
    · rintro rfl; rw [m1] at g1; simp at g1
theorem Duo.below (h : Duo B C w tx mx bx Sx ty gb eb Sy cn n G) (hb : Below w.heap.size w w') : Duo B C w' tx mx bx Sx ty gb eb Sy cn n G := ⟨h.x.below hb, h.y.below hb, h.xb⟩
theorem Duo.mono (h : Duo B C w tx mx bx Sx ty gb eb Sy cn n G) (hc : cn ≤ cn') : Duo B C w tx mx bx Sx ty gb eb Sy cn' n G := ⟨h.x.mono hc, h.y, h.xb⟩
theorem Duo.opx (h : Duo B C w tx mx bx Sx ty gb eb Sy cn n G) (T : Lt B w' tx mx bx cn' n G S') (f : Fs [tx, mx, bx] w w') : Duo B C w' tx mx bx S' ty gb eb Sy cn' n G := by
  obtain ⟨a1, a2, a3, a4, a5, a6, a7⟩ := h.apart
  exact ⟨T, h.y.fs f (by simp; omega) (fun h0 => by have := a7 h0; simp; omega) (by simp; omega), h.xb⟩
theorem Duo.opx' {m' : Nat} (h : Duo B C w tx mx bx Sx ty gb eb Sy cn n G) (T : Lt B w' tx m' bx cn' n G S') (f : Fs [tx, bx] w w') : Duo B C w' tx m' bx S' ty gb eb Sy cn' n G := by
  obtain ⟨a1, a2, a3, a4, a5, a6, a7⟩ := h.apart
  exact ⟨T, h.y.fs f (by simp; omega) (fun h0 => by have := a7 h0; simp; omega) (by simp; omega), h.xb⟩
theorem Duo.opy {eb' : Nat} (h : Duo B C w tx mx bx Sx ty gb eb Sy cn n G) (T : Rt C w' ty gb eb' n G S') (f : Fs [ty, eb] w w') : Duo B C w' tx mx bx Sx ty gb eb' S' cn n G := by
  obtain ⟨a1, a2, a3, a4, a5, a6, a7⟩ := h.apart
  exact ⟨h.x.fs f (by simp; omega) (by simp; omega) (fun _ => by simp; omega), T, h.xb⟩
end
theorem Lt.fix {B t m mb cn n : Nat} {w : World} {G : List Int} {S : List La} (h : Lt B w t m mb cn n G S) : ∃ mb', Lt B w t m mb' cn n G S ∧ mb' < w.heap.size := by
  by_cases h0 : 0 < n
  · exact ⟨mb, h, h.lt.2.2 h0⟩
  · obtain ⟨ma, c, q1, q2, q3⟩ := h.blk
    exact ⟨t, ⟨h.ht, h.hm, h.ht, h.ln, h.le, h.wg, h.wt, h.ok, ⟨ma, c, q1, fun q => absurd q h0, q3⟩, fun q => absurd q h0, h.map⟩, h.lt.1⟩
/-- What a world behind W still reads. -/
def Gd (W w' : World) : Prop := Below W.heap.size W w'
theorem Gd.step {W a b : World} (h : Gd W a) (hb : Below a.heap.size a b) : Gd W b := Below.trans h (hb.mono h.size)
theorem at_val {B t m mb cn n : Nat} {w : World} {G : List Int} {S : List La} (h : Lt B w t m mb cn n G S) (i : Int) {p0 p2 : Bool} {p1 : Int} (hz : (⟨p0, p1, p2⟩ : La) = atS S i) :
    Calls Try.prog 16 #[.pointer (some ⟨t, 0, none⟩), .int .i64 i] w fun e w' => e = .returned (.agg #[.bool p0, .int .i64 p1, .bool p2]) ∧ Below w.heap.size w w' :=
  (at_any h i).mono fun e w' ⟨h1, h2⟩ => ⟨by rw [h1, ← hz]; rfl, h2⟩
theorem rat_val {C t gb eb n : Nat} {w : World} {G : List Int} {S : List La} (h : Rt C w t gb eb n G S) (i : Int) {p0 p2 : Bool} {p1 : Int} (hz : (⟨p0, p1, p2⟩ : La) = atS S i) :
    Calls Try.prog 17 #[.pointer (some ⟨t, 0, none⟩), .int .i64 i] w fun e w' => e = .returned (.agg #[.bool p0, .int .i64 p1, .bool p2]) ∧ Below w.heap.size w w' :=
  (rat_any h i).mono fun e w' ⟨h1, h2⟩ => ⟨by rw [h1, ← hz]; rfl, h2⟩
theorem all_val {B t m mb cn n : Nat} {w : World} {G : List Int} {S : List La} (h : Lt B w t m mb cn n G S) (hn : n ≤ 2000000) :
    Calls Try.prog 19 #[.pointer (some ⟨t, 0, none⟩)] w fun e w' => ∃ g, e = .returned (.slice (some ⟨g, 0, none⟩) n n) ∧ Lr w' (some ⟨g, 0, none⟩) n S ∧ Below w.heap.size w w' :=
  (all_any h hn).mono fun e w' ⟨g, h1, h2, h3, h4⟩ => ⟨g, h1, h2.lr (by rw [h.ok.ln, h.ln]) h.le h.wt, h4⟩
set_option maxRecDepth 100000 in
set_option maxHeartbeats 32000000 in
theorem plays_any (w : World) (la : Option Addr) (n lc : Nat) (G : List Int) (hA : ArgI w la n lc G) (hn : n ≤ 1048576) (a : Option Addr) (len cap : Nat) (g : Nat → Opn) (hS : Sl w a len g) :
    Calls Try.prog 3 #[.slice la n lc, .slice a len cap] w (BP w true) := by
  have hlen := hS.row.le
  unfold maxLen at hlen
  have A := Lib.hid hA
  have SL := Lib.hid hS
  clear hA hS
  go_enter Try.func3, Try.ntmps3
  go_wp2_with fail
  refine (head_any w).mono ?_
  rintro e w1 ⟨rfl, b1⟩
  have B1 := Lib.hid b1
  have s1 := b1.size
  clear b1
  go_wp2_with fail
  refine (new_any la n lc G w1 (A.out.row.below B1.out) (by omega)).mono ?_
  rintro e w2 ⟨tx, mx0, bx', rfl, T2', b2⟩
  obtain ⟨bx, T2, hbx⟩ := T2'.fix
  have B2 := Lib.hid (B1.out.trans (b2.mono s1))
  have s2 := B2.out.size
  have s12 := b2.size
  have X2 := Lib.hid T2
  clear T2 T2' b2
  go_wp2_with fail
  refine (rnew_any la n lc G w2 (A.out.below B2.out) (by omega)).mono ?_
  rintro e w3 ⟨ty, gb, eb0, rfl, T3, b3⟩
  have B3 := Lib.hid (B2.out.trans (b3.mono s2))
  have T := Lib.hid (show Duo w1.heap.size w2.heap.size w3 tx mx0 bx (List.replicate n La.z) ty gb eb0 (List.replicate n La.z) 0 n G from ⟨X2.out.below b3, T3, hbx⟩)
  clear T3 b3 X2
  go_wp2_with fail
  refine (great_any la n lc a len cap g w3 A.out.row.le (SL.out.below B3.out)).mono ?_
  rintro e w3' ⟨bg, rfl, hbg, rfl⟩
  cases bg with
  | true =>
    clear hbg
    go_wp2_with fail
    go_ret
    exact ⟨rfl, B3.out⟩
  | false =>
    obtain ⟨hg1, hg2⟩ := hbg rfl
    clear hbg
    go_wp2_with fail
    go_loopw [8] (fun iv wr => ∃ (k mx eb : Nat) (S : List La), k ≤ len ∧ iv = .int .i64 k ∧ Duo w1.heap.size w2.heap.size wr tx mx bx S ty gb eb S (100 + k) n G ∧ Below w.heap.size w wr) (fun iv _ => len - (intOf iv).toNat)
    case atStart => exact ⟨0, _, _, _, Nat.zero_le _, rfl, T.out.mono (by omega), B3.out⟩
    case round =>
      obtain ⟨wo, rfl⟩ : ∃ wo : World, wo = wr := ⟨_, rfl⟩
      obtain ⟨k, mx, eb, S, hk, rfl, hT, hbe⟩ := hrel
      by_cases hkn : k < len
      · obtain ⟨b, off, ha, hblt, hcs⟩ := (SL.out.below hbe).row.pos (by omega)
        have c0 : wo.cell? ⟨b, off + k * 4, none⟩ = some (.int .i64 (g k).wh) := hcs k hkn 0 (by omega)
        have c1 : wo.cell? ⟨b, off + k * 4 + 1, none⟩ = some (.int .i64 (g k).i) := hcs k hkn 1 (by omega)
        have c2 : wo.cell? ⟨b, off + k * 4 + 2, none⟩ = some (.int .i64 (g k).now) := hcs k hkn 2 (by omega)
        have c3 : wo.cell? ⟨b, off + k * 4 + 3, none⟩ = some (.slice (g k).a (g k).l (g k).c) := hcs k hkn 3 (by omega)
        obtain ⟨⟨_, wi, wt⟩, hL⟩ := SL.out.wf k hkn
        subst ha
        clear hcs
        generalize (g k).wh = wh at c0
        generalize (g k).i = gi at c1 wi
        generalize (g k).now = gt at c2 wt
        generalize (g k).a = oa at c3 hL
        generalize (g k).l = ol at c3 hL
        generalize (g k).c = oc at c3 hL
        generalize (g k).f = of at hL
        have HL := Lib.hid hL
        have hOb : (wo.alloc (obj wh gi gt oa ol oc)).heap[wo.heap.size]? = some (obj wh gi gt oa ol oc) := heap_alloc_new wo _
        have DA := Lib.hid (hT.below (alloc_b wo (obj wh gi gt oa ol oc)))
        have BA := Lib.hid (hbe.alloc hbe.size (obj wh gi gt oa ol oc))
        have OB := Lib.hid hOb
        have lx1 := hT.x.lt.1
        have lx2 := hT.x.lt.2.1
        have hb2 := Nat.lt_of_lt_of_le hbx (show w2.heap.size ≤ wo.heap.size by have := hT.y.ht; have := hT.y.lt; omega)
        have ly1 := hT.y.lt
        have ly2 := hT.y.row.lt
        have hx1 := hT.x.hm
        have hx2 := hT.x.hb
        have hx3 := hT.x.ht
        have hy1 := hT.y.ht
        have hy2 := hT.y.he
        have WT := Lib.hid wt
        clear hT hbe hOb wi wt hL
        by_cases h3 : wh = 3
        · subst h3
          go_wp2_with fail
          refine (reset_any DA.out.x gi).mono ?_
          rintro e w5 ⟨rfl, T5, f5⟩
          have d5 := Lib.hid (DA.out.opx T5 (f5.mono (by simp)))
          have B5 := Lib.hid (BA.out.trans (f5.below (by simp; omega) BA.out.size))
          have k5 := (f5.block wo.heap.size (by simp) (by simp; omega)).trans OB.out
          obtain ⟨y0, y1, y2, y3⟩ := obj_cells k5
          have K5 := Lib.hid k5
          have l5 := blk_lt k5
          clear T5 f5 k5
          obtain ⟨bb, hbb⟩ : ∃ b, b = rsB S n gi := ⟨_, rfl⟩
          have HBB := Lib.hid hbb
          rw [← hbb]
          clear hbb
          go_wp2_with fail
          refine (rreset_any d5.out.y gi).mono ?_
          rintro e w6 ⟨rfl, T6, f6⟩
          rw [← HBB.out]
          have D6 := Lib.hid (d5.out.opy T6 (f6.mono (by simp)))
          have B6 := Lib.hid (B5.out.trans (f6.below (by simp; omega) B5.out.size))
          have k6 := (f6.block wo.heap.size l5 (by simp; omega)).trans K5.out
          have z1w6 := (obj_cells k6).2.1
          have l6 := blk_lt k6
          clear T6 f6 d5 B5 DA BA OB K5 y0 y1 y2 y3 k6

          obtain ⟨s0, hs0⟩ : ∃ z, z = atS (rsS S n gi) gi := ⟨_, rfl⟩
          obtain ⟨p0, p1, p2⟩ := s0
          have C16 := Lib.hid (fun (w' : World) (g : Gd w6 w') => at_val (D6.out.below g).x gi hs0)
          have C17 := Lib.hid (fun (w' : World) (g : Gd w6 w') => rat_val (D6.out.below g).y gi hs0)
          have C19 := Lib.hid (fun (w' : World) (g : Gd w6 w') => all_val (D6.out.below g).x (show n ≤ 2000000 by omega))
          have C20 := Lib.hid (fun (w' : World) (g : Gd w6 w') => rall_any (D6.out.below g).y (show n ≤ 2000000 by omega))
          have KS := Lib.hid (fun (w' : World) (g : Gd w6 w') => show w'.cell? ⟨wo.heap.size, 1, none⟩ = some (.int .i64 gi) from (g.cell (p := ⟨wo.heap.size, 1, none⟩) l6).trans z1w6)
          have g0 : Gd w6 w6.drew := (Below.refl _ _).drew
          clear hs0
          go_wp2_with fail
          go_region_held3 (fun w' => w'.cell? ⟨wo.heap.size, 1, none⟩ = some (.int .i64 gi)) (first | exact KS.out _ (by assumption) | go_keep) (first
            | (go_at_call 16; refine (C16.out _ (by assumption)).mono ?_; rintro e w16 ⟨rfl, b16⟩; have g16 : Gd w6 w16 := Gd.step (by assumption) b16)
            | (go_at_call 17; refine (C17.out _ (by assumption)).mono ?_; rintro e w17 ⟨rfl, b17⟩; have g17 : Gd w6 w17 := Gd.step (by assumption) b17)
            | (go_at_call 19; refine (C19.out _ (by assumption)).mono ?_; rintro e w19 ⟨a19, rfl, r19, b19⟩; have g19 : Gd w6 w19 := Gd.step (by assumption) b19)
            | (go_at_call 20; refine (C20.out _ (by assumption)).mono ?_; rintro e w20 ⟨a20, c20, rfl, h20, r20, b20⟩; have g20 : Gd w6 w20 := Gd.step (by assumption) b20)
            | (go_at_call 18; refine (same_any _ _ _ _ _ (rsS S n gi) _ (by first | exact r19 | exact r19.below b20) (by first | exact r20 | exact r20.below b19) (Nat.le_refl _) h20).mono ?_; rintro e w18 ⟨rfl, b18⟩; have g18 : Gd w6 w18 := Gd.step (by assumption) b18)
            | fail)
          all_goals
            have D7 := Lib.hid (D6.out.below g18)
            have B7 := Lib.hid (B6.out.trans (Below.mono g18 B6.out.size))
            go_wp2_with fail
            go_loop [12] (fun iv => ∃ j : Nat, j ≤ n ∧ iv = .int .i64 j) (fun iv => n - (intOf iv).toNat)
            case atStart => exact ⟨0, Nat.zero_le _, rfl⟩
            case round =>
              obtain ⟨j, hj, rfl⟩ := hrel
              by_cases hjn : j < n
              · obtain ⟨gb', go', hga, _, hgc⟩ := (A.out.row.below B7.out).pos (by omega)
                have hg0 := hgc j hjn
                have hgw := getD_wf A.out.row.wf j
                subst hga
                clear hgc
                generalize List.getD G j 0 = gj at hg0 hgw
                obtain ⟨fv, fb, hfx⟩ : ∃ f b, fiV G (rsS S n gi) gj = .tuple #[.int .i64 f, .bool b] := ⟨_, _, rfl⟩
                have HFX := Lib.hid hfx
                have F1 := Lib.hid (first_any D7.out.x gj hgw)
                have F2 := Lib.hid (rfirst_any D7.out.y gj)
                clear hfx
                go_wp2_with fail
                refine (F1.out).mono ?_
                rintro e w6' ⟨rfl, rfl⟩
                rw [HFX.out]
                go_wp2_with fail
                refine (F2.out).mono ?_
                rintro e w6' ⟨rfl, rfl⟩
                rw [HFX.out]
                go_wp2_with fail
                go_round
                case rel => exact ⟨j + 1, by omega, by go_num⟩
                case measure => simp [intOf]; omega
              · have hj' : j = n := by omega
                have HJ := Lib.hid hj'
                clear hj'
                go_wp2_with fail
                go_roundw
                case rel => exact ⟨k + 1, mx, eb, (rsS S n gi), by omega, by go_num, D7.out.mono (by omega), B7.out⟩
                case measure => simp [intOf]; omega
        · have d3 : (wh == 3) = false := by simpa using h3
          by_cases h4 : wh = 4
          · subst h4
            go_wp2_with fail
            refine (load_any DA.out.x oa ol oc of (HL.out.below BA.out).row (fun b off e h0 => by
              obtain ⟨b', off', e', q, _⟩ := HL.out.row.pos h0
              rw [e] at e'
              simp only [Option.some.injEq, Addr.mk.injEq, and_true] at e'
              have := DA.out.x.ht
              have := DA.out.x.hb
              omega)).mono ?_
            rintro e w5 (⟨rfl, hno, b5⟩ | ⟨rfl, hyes, ⟨mx', hmx', T5⟩, f5⟩)
            · have NO := Lib.hid hno
              have d5 := Lib.hid (DA.out.below b5)
              have B5 := Lib.hid (BA.out.trans (b5.mono BA.out.size))
              have k5 := (b5.block wo.heap.size (by simp)).trans OB.out
              obtain ⟨y0, y1, y2, y3⟩ := obj_cells k5
              have K5 := Lib.hid k5
              have l5 := blk_lt k5
              clear hno b5 k5
              go_wp2_with fail
              refine (rload_any d5.out.y oa ol oc of (HL.out.below B5.out).row HL.out.nil HL.out.le HL.out.mx (by omega)).mono ?_
              rintro e w6 (⟨rfl, _, b6⟩ | ⟨rfl, hyes, _⟩)
              rotate_left
              · exact absurd hyes NO.out
              have D6 := Lib.hid (d5.out.below b6)
              have B6 := Lib.hid (B5.out.trans (b6.mono B5.out.size))
              have k6 := (b6.block wo.heap.size l5).trans K5.out
              have z1w6 := (obj_cells k6).2.1
              have l6 := blk_lt k6
              clear b6 d5 B5 DA BA OB K5 y0 y1 y2 y3 k6

              obtain ⟨s0, hs0⟩ : ∃ z, z = atS S gi := ⟨_, rfl⟩
              obtain ⟨p0, p1, p2⟩ := s0
              have C16 := Lib.hid (fun (w' : World) (g : Gd w6 w') => at_val (D6.out.below g).x gi hs0)
              have C17 := Lib.hid (fun (w' : World) (g : Gd w6 w') => rat_val (D6.out.below g).y gi hs0)
              have C19 := Lib.hid (fun (w' : World) (g : Gd w6 w') => all_val (D6.out.below g).x (show n ≤ 2000000 by omega))
              have C20 := Lib.hid (fun (w' : World) (g : Gd w6 w') => rall_any (D6.out.below g).y (show n ≤ 2000000 by omega))
              have KS := Lib.hid (fun (w' : World) (g : Gd w6 w') => show w'.cell? ⟨wo.heap.size, 1, none⟩ = some (.int .i64 gi) from (g.cell (p := ⟨wo.heap.size, 1, none⟩) l6).trans z1w6)
              have g0 : Gd w6 w6.drew := (Below.refl _ _).drew
              clear hs0
              go_wp2_with fail
              go_region_held3 (fun w' => w'.cell? ⟨wo.heap.size, 1, none⟩ = some (.int .i64 gi)) (first | exact KS.out _ (by assumption) | go_keep) (first
                | (go_at_call 16; refine (C16.out _ (by assumption)).mono ?_; rintro e w16 ⟨rfl, b16⟩; have g16 : Gd w6 w16 := Gd.step (by assumption) b16)
                | (go_at_call 17; refine (C17.out _ (by assumption)).mono ?_; rintro e w17 ⟨rfl, b17⟩; have g17 : Gd w6 w17 := Gd.step (by assumption) b17)
                | (go_at_call 19; refine (C19.out _ (by assumption)).mono ?_; rintro e w19 ⟨a19, rfl, r19, b19⟩; have g19 : Gd w6 w19 := Gd.step (by assumption) b19)
                | (go_at_call 20; refine (C20.out _ (by assumption)).mono ?_; rintro e w20 ⟨a20, c20, rfl, h20, r20, b20⟩; have g20 : Gd w6 w20 := Gd.step (by assumption) b20)
                | (go_at_call 18; refine (same_any _ _ _ _ _ S _ (by first | exact r19 | exact r19.below b20) (by first | exact r20 | exact r20.below b19) (Nat.le_refl _) h20).mono ?_; rintro e w18 ⟨rfl, b18⟩; have g18 : Gd w6 w18 := Gd.step (by assumption) b18)
                | fail)
              all_goals
                have D7 := Lib.hid (D6.out.below g18)
                have B7 := Lib.hid (B6.out.trans (Below.mono g18 B6.out.size))
                go_wp2_with fail
                go_loop [12] (fun iv => ∃ j : Nat, j ≤ n ∧ iv = .int .i64 j) (fun iv => n - (intOf iv).toNat)
                case atStart => exact ⟨0, Nat.zero_le _, rfl⟩
                case round =>
                  obtain ⟨j, hj, rfl⟩ := hrel
                  by_cases hjn : j < n
                  · obtain ⟨gb', go', hga, _, hgc⟩ := (A.out.row.below B7.out).pos (by omega)
                    have hg0 := hgc j hjn
                    have hgw := getD_wf A.out.row.wf j
                    subst hga
                    clear hgc
                    generalize List.getD G j 0 = gj at hg0 hgw
                    obtain ⟨fv, fb, hfx⟩ : ∃ f b, fiV G S gj = .tuple #[.int .i64 f, .bool b] := ⟨_, _, rfl⟩
                    have HFX := Lib.hid hfx
                    have F1 := Lib.hid (first_any D7.out.x gj hgw)
                    have F2 := Lib.hid (rfirst_any D7.out.y gj)
                    clear hfx
                    go_wp2_with fail
                    refine (F1.out).mono ?_
                    rintro e w6' ⟨rfl, rfl⟩
                    rw [HFX.out]
                    go_wp2_with fail
                    refine (F2.out).mono ?_
                    rintro e w6' ⟨rfl, rfl⟩
                    rw [HFX.out]
                    go_wp2_with fail
                    go_round
                    case rel => exact ⟨j + 1, by omega, by go_num⟩
                    case measure => simp [intOf]; omega
                  · have hj' : j = n := by omega
                    have HJ := Lib.hid hj'
                    clear hj'
                    go_wp2_with fail
                    go_roundw
                    case rel => exact ⟨k + 1, mx, eb, S, by omega, by go_num, D7.out.mono (by omega), B7.out⟩
                    case measure => simp [intOf]; omega
            · have YES := Lib.hid hyes
              have d5 := Lib.hid (DA.out.opx' T5 f5)
              have B5 := Lib.hid (BA.out.trans (f5.below (by simp; omega) BA.out.size))
              have k5 := (f5.block wo.heap.size (by simp) (by simp; omega)).trans OB.out
              obtain ⟨y0, y1, y2, y3⟩ := obj_cells k5
              have K5 := Lib.hid k5
              have l5 := blk_lt k5
              clear hyes T5 f5 k5
              go_wp2_with fail
              refine (rload_any d5.out.y oa ol oc of (HL.out.below B5.out).row HL.out.nil HL.out.le HL.out.mx (by omega)).mono ?_
              rintro e w6 (⟨rfl, hno, _⟩ | ⟨rfl, _, ⟨eb', heb', T6⟩, f6⟩)
              · exact absurd YES.out hno
              have D6 := Lib.hid (d5.out.opy T6 (f6.mono (by simp)))
              have B6 := Lib.hid (B5.out.trans (f6.below (by simp; omega) B5.out.size))
              have k6 := (f6.block wo.heap.size l5 (by simp; omega)).trans K5.out
              have z1w6 := (obj_cells k6).2.1
              have l6 := blk_lt k6
              clear T6 f6 d5 B5 DA BA OB K5 y0 y1 y2 y3 k6

              obtain ⟨s0, hs0⟩ : ∃ z, z = atS of gi := ⟨_, rfl⟩
              obtain ⟨p0, p1, p2⟩ := s0
              have C16 := Lib.hid (fun (w' : World) (g : Gd w6 w') => at_val (D6.out.below g).x gi hs0)
              have C17 := Lib.hid (fun (w' : World) (g : Gd w6 w') => rat_val (D6.out.below g).y gi hs0)
              have C19 := Lib.hid (fun (w' : World) (g : Gd w6 w') => all_val (D6.out.below g).x (show n ≤ 2000000 by omega))
              have C20 := Lib.hid (fun (w' : World) (g : Gd w6 w') => rall_any (D6.out.below g).y (show n ≤ 2000000 by omega))
              have KS := Lib.hid (fun (w' : World) (g : Gd w6 w') => show w'.cell? ⟨wo.heap.size, 1, none⟩ = some (.int .i64 gi) from (g.cell (p := ⟨wo.heap.size, 1, none⟩) l6).trans z1w6)
              have g0 : Gd w6 w6.drew := (Below.refl _ _).drew
              clear hs0
              go_wp2_with fail
              go_region_held3 (fun w' => w'.cell? ⟨wo.heap.size, 1, none⟩ = some (.int .i64 gi)) (first | exact KS.out _ (by assumption) | go_keep) (first
                | (go_at_call 16; refine (C16.out _ (by assumption)).mono ?_; rintro e w16 ⟨rfl, b16⟩; have g16 : Gd w6 w16 := Gd.step (by assumption) b16)
                | (go_at_call 17; refine (C17.out _ (by assumption)).mono ?_; rintro e w17 ⟨rfl, b17⟩; have g17 : Gd w6 w17 := Gd.step (by assumption) b17)
                | (go_at_call 19; refine (C19.out _ (by assumption)).mono ?_; rintro e w19 ⟨a19, rfl, r19, b19⟩; have g19 : Gd w6 w19 := Gd.step (by assumption) b19)
                | (go_at_call 20; refine (C20.out _ (by assumption)).mono ?_; rintro e w20 ⟨a20, c20, rfl, h20, r20, b20⟩; have g20 : Gd w6 w20 := Gd.step (by assumption) b20)
                | (go_at_call 18; refine (same_any _ _ _ _ _ of _ (by first | exact r19 | exact r19.below b20) (by first | exact r20 | exact r20.below b19) (Nat.le_refl _) h20).mono ?_; rintro e w18 ⟨rfl, b18⟩; have g18 : Gd w6 w18 := Gd.step (by assumption) b18)
                | fail)
              all_goals
                have D7 := Lib.hid (D6.out.below g18)
                have B7 := Lib.hid (B6.out.trans (Below.mono g18 B6.out.size))
                go_wp2_with fail
                go_loop [12] (fun iv => ∃ j : Nat, j ≤ n ∧ iv = .int .i64 j) (fun iv => n - (intOf iv).toNat)
                case atStart => exact ⟨0, Nat.zero_le _, rfl⟩
                case round =>
                  obtain ⟨j, hj, rfl⟩ := hrel
                  by_cases hjn : j < n
                  · obtain ⟨gb', go', hga, _, hgc⟩ := (A.out.row.below B7.out).pos (by omega)
                    have hg0 := hgc j hjn
                    have hgw := getD_wf A.out.row.wf j
                    subst hga
                    clear hgc
                    generalize List.getD G j 0 = gj at hg0 hgw
                    obtain ⟨fv, fb, hfx⟩ : ∃ f b, fiV G of gj = .tuple #[.int .i64 f, .bool b] := ⟨_, _, rfl⟩
                    have HFX := Lib.hid hfx
                    have F1 := Lib.hid (first_any D7.out.x gj hgw)
                    have F2 := Lib.hid (rfirst_any D7.out.y gj)
                    clear hfx
                    go_wp2_with fail
                    refine (F1.out).mono ?_
                    rintro e w6' ⟨rfl, rfl⟩
                    rw [HFX.out]
                    go_wp2_with fail
                    refine (F2.out).mono ?_
                    rintro e w6' ⟨rfl, rfl⟩
                    rw [HFX.out]
                    go_wp2_with fail
                    go_round
                    case rel => exact ⟨j + 1, by omega, by go_num⟩
                    case measure => simp [intOf]; omega
                  · have hj' : j = n := by omega
                    have HJ := Lib.hid hj'
                    clear hj'
                    go_wp2_with fail
                    go_roundw
                    case rel => exact ⟨k + 1, mx', eb', of, by omega, by go_num, D7.out.mono (by omega), B7.out⟩
                    case measure => simp [intOf]; omega
          · have d4 : (wh == 4) = false := by simpa using h4
            go_wp2_with fail
            refine (trip_any DA.out.x (by unfold maxLen; omega) gi gt WT.out).mono ?_
            rintro e w5 ⟨rfl, T5, f5⟩
            have d5 := Lib.hid (DA.out.opx T5 (f5.mono (by simp)))
            have B5 := Lib.hid (BA.out.trans (f5.below (by simp; omega) BA.out.size))
            have k5 := (f5.block wo.heap.size (by simp) (by simp; omega)).trans OB.out
            obtain ⟨y0, y1, y2, y3⟩ := obj_cells k5
            have K5 := Lib.hid k5
            have l5 := blk_lt k5
            clear T5 f5 k5
            obtain ⟨bb, hbb⟩ : ∃ b, b = trB S n gi := ⟨_, rfl⟩
            have HBB := Lib.hid hbb
            rw [← hbb]
            clear hbb
            go_wp2_with fail
            refine (rtrip_any d5.out.y gi gt WT.out).mono ?_
            rintro e w6 ⟨rfl, T6, f6⟩
            rw [← HBB.out]
            have D6 := Lib.hid (d5.out.opy T6 (f6.mono (by simp)))
            have B6 := Lib.hid (B5.out.trans (f6.below (by simp; omega) B5.out.size))
            have k6 := (f6.block wo.heap.size l5 (by simp; omega)).trans K5.out
            have z1w6 := (obj_cells k6).2.1
            have l6 := blk_lt k6
            clear T6 f6 d5 B5 DA BA OB K5 y0 y1 y2 y3 k6

            obtain ⟨s0, hs0⟩ : ∃ z, z = atS (trS G S n gi gt) gi := ⟨_, rfl⟩
            obtain ⟨p0, p1, p2⟩ := s0
            have C16 := Lib.hid (fun (w' : World) (g : Gd w6 w') => at_val (D6.out.below g).x gi hs0)
            have C17 := Lib.hid (fun (w' : World) (g : Gd w6 w') => rat_val (D6.out.below g).y gi hs0)
            have C19 := Lib.hid (fun (w' : World) (g : Gd w6 w') => all_val (D6.out.below g).x (show n ≤ 2000000 by omega))
            have C20 := Lib.hid (fun (w' : World) (g : Gd w6 w') => rall_any (D6.out.below g).y (show n ≤ 2000000 by omega))
            have KS := Lib.hid (fun (w' : World) (g : Gd w6 w') => show w'.cell? ⟨wo.heap.size, 1, none⟩ = some (.int .i64 gi) from (g.cell (p := ⟨wo.heap.size, 1, none⟩) l6).trans z1w6)
            have g0 : Gd w6 w6.drew := (Below.refl _ _).drew
            clear hs0
            go_wp2_with fail
            go_region_held3 (fun w' => w'.cell? ⟨wo.heap.size, 1, none⟩ = some (.int .i64 gi)) (first | exact KS.out _ (by assumption) | go_keep) (first
              | (go_at_call 16; refine (C16.out _ (by assumption)).mono ?_; rintro e w16 ⟨rfl, b16⟩; have g16 : Gd w6 w16 := Gd.step (by assumption) b16)
              | (go_at_call 17; refine (C17.out _ (by assumption)).mono ?_; rintro e w17 ⟨rfl, b17⟩; have g17 : Gd w6 w17 := Gd.step (by assumption) b17)
              | (go_at_call 19; refine (C19.out _ (by assumption)).mono ?_; rintro e w19 ⟨a19, rfl, r19, b19⟩; have g19 : Gd w6 w19 := Gd.step (by assumption) b19)
              | (go_at_call 20; refine (C20.out _ (by assumption)).mono ?_; rintro e w20 ⟨a20, c20, rfl, h20, r20, b20⟩; have g20 : Gd w6 w20 := Gd.step (by assumption) b20)
              | (go_at_call 18; refine (same_any _ _ _ _ _ (trS G S n gi gt) _ (by first | exact r19 | exact r19.below b20) (by first | exact r20 | exact r20.below b19) (Nat.le_refl _) h20).mono ?_; rintro e w18 ⟨rfl, b18⟩; have g18 : Gd w6 w18 := Gd.step (by assumption) b18)
              | fail)
            all_goals
              have D7 := Lib.hid (D6.out.below g18)
              have B7 := Lib.hid (B6.out.trans (Below.mono g18 B6.out.size))
              go_wp2_with fail
              go_loop [12] (fun iv => ∃ j : Nat, j ≤ n ∧ iv = .int .i64 j) (fun iv => n - (intOf iv).toNat)
              case atStart => exact ⟨0, Nat.zero_le _, rfl⟩
              case round =>
                obtain ⟨j, hj, rfl⟩ := hrel
                by_cases hjn : j < n
                · obtain ⟨gb', go', hga, _, hgc⟩ := (A.out.row.below B7.out).pos (by omega)
                  have hg0 := hgc j hjn
                  have hgw := getD_wf A.out.row.wf j
                  subst hga
                  clear hgc
                  generalize List.getD G j 0 = gj at hg0 hgw
                  obtain ⟨fv, fb, hfx⟩ : ∃ f b, fiV G (trS G S n gi gt) gj = .tuple #[.int .i64 f, .bool b] := ⟨_, _, rfl⟩
                  have HFX := Lib.hid hfx
                  have F1 := Lib.hid (first_any D7.out.x gj hgw)
                  have F2 := Lib.hid (rfirst_any D7.out.y gj)
                  clear hfx
                  go_wp2_with fail
                  refine (F1.out).mono ?_
                  rintro e w6' ⟨rfl, rfl⟩
                  rw [HFX.out]
                  go_wp2_with fail
                  refine (F2.out).mono ?_
                  rintro e w6' ⟨rfl, rfl⟩
                  rw [HFX.out]
                  go_wp2_with fail
                  go_round
                  case rel => exact ⟨j + 1, by omega, by go_num⟩
                  case measure => simp [intOf]; omega
                · have hj' : j = n := by omega
                  have HJ := Lib.hid hj'
                  clear hj'
                  go_wp2_with fail
                  go_roundw
                  case rel => exact ⟨k + 1, mx, eb, (trS G S n gi gt), by omega, by go_num, D7.out.mono (by omega), B7.out⟩
                  case measure => simp [intOf]; omega
      · have hk' : k = len := by omega
        subst hk'
        have BE := Lib.hid hbe
        clear hT hbe
        go_wp2_with fail
        go_ret
        exact ⟨rfl, BE.out⟩
end Go.Proofs.Yteakbijlcccnnaa
