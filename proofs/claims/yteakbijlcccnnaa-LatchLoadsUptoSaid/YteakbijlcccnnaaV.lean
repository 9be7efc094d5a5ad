/- LatchLoads. -/
import Derived.Test.YteakbijlcccnnaaT
namespace Go.Proofs.Yteakbijlcccnnaa
set_option linter.unusedVariables false
open Go.ChangeShapes Go.WideShapes Go.ChangeAt Go.RowKit

set_option maxRecDepth 100000 in
set_option maxHeartbeats 32000000 in
theorem loads_any (w : World) (la : Option Addr) (n lc : Nat) (G : List Int) (hA : ArgI w la n lc G) (hn : n ≤ 1048576) (a : Option Addr) (len cap : Nat) (g : Nat → Opn) (hS : Sl w a len g) (oa : Option Addr) (ol oc : Nat) (O : List La) (hO : ArgL w oa ol oc O) :
    Calls Try.prog 4 #[.slice la n lc, .slice a len cap, .slice oa ol oc] w (BP w true) := by
  have hlen := hS.row.le
  have hol := hO.row.le
  unfold maxLen at hlen hol
  have A := Lib.hid hA
  have SL := Lib.hid hS
  have OT := Lib.hid hO
  clear hA hS hO
  go_enter Try.func4, Try.ntmps4
  go_wp2_with fail
  refine (head_any w).mono ?_
  rintro e w1 ⟨rfl, b1⟩
  have B1 := Lib.hid b1
  have s1 := b1.size
  clear b1
  go_wp2_with fail
  refine (new_any la n lc G w1 (A.out.row.below B1.out) (by omega)).mono ?_
  rintro e w2 ⟨tx, mx, bx', rfl, T2', b2⟩
  obtain ⟨bx, T2, hbx⟩ := T2'.fix
  have B2 := Lib.hid (B1.out.trans (b2.mono s1))
  have s2 := B2.out.size
  have s12 := b2.size
  have X2 := Lib.hid T2
  clear T2 T2' b2
  go_wp2_with fail
  refine (new_any la n lc G w2 (A.out.row.below B2.out) (by omega)).mono ?_
  rintro e w3 ⟨ty, my, by', rfl, T3', b3⟩
  obtain ⟨b_y, T3, hby⟩ := T3'.fix
  have B3 := Lib.hid (B2.out.trans (b3.mono s2))
  have T := Lib.hid (show Two w1.heap.size w2.heap.size w3 tx mx bx (List.replicate n La.z) ty my b_y (List.replicate n La.z) 0 n G from ⟨X2.out.below b3, T3, X2.out.lt.1, X2.out.lt.2.1, hbx⟩)
  have s23 := b3.size
  clear T3 T3' b3 X2
  go_wp2_with fail
  refine (great_any la n lc a len cap g w3 A.out.row.le (SL.out.below B3.out)).mono ?_
  rintro e w3' ⟨bg, rfl, hbg, rfl⟩
  cases bg with
  | true =>
    clear hbg
    go_wp2_with fail
    go_ret
    exact ⟨rfl, B3.out⟩
  | false =>
    obtain ⟨hg1, hg2⟩ := hbg rfl
    clear hbg
    by_cases ho : 60 < ol
    · have d1 : decide ((60 : Int) < (ol : Int)) = true := by simp; omega
      go_wp2_with fail
      go_ret
      exact ⟨rfl, B3.out⟩
    have d1 : decide ((60 : Int) < (ol : Int)) = false := by simp; omega
    go_wp2_with fail
    go_loopw [10] (fun iv wr => ∃ (k : Nat) (S : List La), k ≤ len ∧ iv = .int .i64 k ∧ Two w1.heap.size w2.heap.size wr tx mx bx S ty my b_y (List.replicate n La.z) (100 + k) n G ∧ Below w.heap.size w wr) (fun iv _ => len - (intOf iv).toNat)
    case atStart => exact ⟨0, _, Nat.zero_le _, rfl, T.out.mono (by omega), B3.out⟩
    case round =>
      obtain ⟨wo, rfl⟩ : ∃ wo : World, wo = wr := ⟨_, rfl⟩
      obtain ⟨k, S, hk, rfl, hT, hbe⟩ := hrel
      by_cases hkn : k < len
      · obtain ⟨b, off, ha, hblt, hcs⟩ := (SL.out.below hbe).row.pos (by omega)
        have c0 : wo.cell? ⟨b, off + k * 4, none⟩ = some (.int .i64 (g k).wh) := hcs k hkn 0 (by omega)
        have c1 : wo.cell? ⟨b, off + k * 4 + 1, none⟩ = some (.int .i64 (g k).i) := hcs k hkn 1 (by omega)
        have c2 : wo.cell? ⟨b, off + k * 4 + 2, none⟩ = some (.int .i64 (g k).now) := hcs k hkn 2 (by omega)
        obtain ⟨⟨_, wi, wt⟩, _⟩ := SL.out.wf k hkn
        have hbw : b < w.heap.size := by
          obtain ⟨b', off', e', q, _⟩ := SL.out.row.pos (by omega)
          rw [ha] at e'
          simp only [Option.some.injEq, Addr.mk.injEq, and_true] at e'
          omega
        subst ha
        clear hcs
        generalize (g k).wh = wh at c0
        generalize (g k).i = gi at c1 wi
        generalize (g k).now = gt at c2 wt
        have DA := Lib.hid hT
        have BA := Lib.hid hbe
        have hx1 := hT.x.hm
        have hx2 := hT.x.hb
        have WT := Lib.hid wt
        have i1 : (0 : Int) ≤ (k : Int) := by omega
        have i2 : (k : Int) < (len : Int) := by omega
        clear hT hbe wi wt
        by_cases h3 : wh = 3
        · subst h3
          go_wp2_with fail
          refine (reset_any DA.out.x gi).mono ?_
          rintro e w5 ⟨rfl, T5, f5⟩
          have d5 := Lib.hid (DA.out.opx T5 (Nat.le_refl _) f5)
          have B5 := Lib.hid (BA.out.trans (f5.below (by simp; omega) BA.out.size))
          clear T5 f5 DA BA
          go_wp2_with fail
          go_roundw
          case rel => exact ⟨k + 1, _, by omega, by go_num, d5.out.mono (by omega), B5.out⟩
          case measure => simp [intOf]; omega
        · have d3 : (wh == 3) = false := by simpa using h3
          have C14 := Lib.hid (fun (w' : World) (q : Gd wo w') => trip_any (DA.out.below q).x (by unfold maxLen; omega) gi gt WT.out)
          have KS := Lib.hid (fun (w' : World) (q : Gd wo w') => show w'.cell? ⟨b, off + k * 4 + 1, none⟩ = some (.int .i64 gi) ∧ w'.cell? ⟨b, off + k * 4 + 2, none⟩ = some (.int .i64 gt) from ⟨(q.cell (p := ⟨b, _, none⟩) hblt).trans c1, (q.cell (p := ⟨b, _, none⟩) hblt).trans c2⟩)
          have g0 : Gd wo wo.drew := (Below.refl _ _).drew
          go_wp2_with fail
          go_region_held3 (fun w' => w'.cell? ⟨b, off + k * 4 + 1, none⟩ = some (.int .i64 gi) ∧ w'.cell? ⟨b, off + k * 4 + 2, none⟩ = some (.int .i64 gt)) (first | exact KS.out _ (by assumption) | assumption | go_keep) (first
            | (go_at_call 14; refine (C14.out _ (by assumption)).mono ?_; rintro e w5 ⟨rfl, T5, f5⟩; have q5 : w5.cell? ⟨b, off + k * 4 + 1, none⟩ = some (.int .i64 gi) ∧ w5.cell? ⟨b, off + k * 4 + 2, none⟩ = some (.int .i64 gt) := ⟨(World.cell?_of_block (a := ⟨b, _, none⟩) (f5.block b hblt (by simp; omega))).trans c1, (World.cell?_of_block (a := ⟨b, _, none⟩) (f5.block b hblt (by simp; omega))).trans c2⟩)
            | fail)
          all_goals
            have d5 := Lib.hid ((DA.out.below g0).opx T5 (Nat.le_succ _) f5)
            have B5 := Lib.hid ((BA.out.drew).trans (f5.below (by simp; omega) BA.out.size))
            clear T5 f5 DA BA
            go_wp2_with fail
            go_roundw
            case rel => exact ⟨k + 1, _, by omega, by go_num, d5.out.mono (by omega), B5.out⟩
            case measure => simp [intOf]; omega
      · have hk' : k = len := by omega
        subst hk'
        have DA := Lib.hid hT
        have BE := Lib.hid hbe
        have lty := hT.y.lt.1
        have hCy := hT.y.ht
        have hCb := hT.y.hb
        have okS := Lib.hid hT.x.ok
        clear hT hbe
        go_wp2_with fail
        refine (all_any DA.out.x (by omega)).mono ?_
        rintro e w5 ⟨g11, rfl, r11, l11, b5⟩
        have R11 := Lib.hid (r11.lr (by rw [DA.out.x.ok.ln, DA.out.x.ln]) DA.out.x.le DA.out.x.wt)
        have D5 := Lib.hid (DA.out.below b5)
        have B5 := Lib.hid (BE.out.trans (b5.mono BE.out.size))
        have hby5 : 0 < n → b_y < wo.heap.size := fun h0 => DA.out.y.lt.2.2 h0
        have HBY := Lib.hid hby5
        have g11lt := r11.lt
        clear r11 b5 hby5 DA BE
        go_wp2_with fail
        refine (load_any D5.out.y (some ⟨g11, 0, none⟩) n n S R11.out (fun b off e h0 => by
          have := HBY.out h0
          simp only [Option.some.injEq, Addr.mk.injEq, and_true] at e
          omega)).mono ?_
        rintro e w6 (⟨rfl, hno, _⟩ | ⟨rfl, _, ⟨my', hmy', y6⟩, f6⟩)
        · exact absurd okS.out hno
        have Y6 := Lib.hid y6
        have B6 := Lib.hid (B5.out.trans (f6.below (by simp; omega) B5.out.size))
        have R6 := Lib.hid (R11.out.keep f6.size (fun b off e h0 => f6.block b (by simp only [Option.some.injEq, Addr.mk.injEq, and_true] at e; omega) (by
          have := HBY.out h0
          simp only [Option.some.injEq, Addr.mk.injEq, and_true] at e
          simp; omega)))
        clear y6 f6 R11 D5 B5
        go_wp2_with fail
        refine (all_any Y6.out (by omega)).mono ?_
        rintro e w7 ⟨g12, rfl, r12, l12, b7⟩
        have R12 := Lib.hid (r12.lr (by rw [Y6.out.ok.ln, Y6.out.ln]) Y6.out.le Y6.out.wt)
        have Y7 := Lib.hid (Y6.out.below b7)
        have B7 := Lib.hid (B6.out.trans (b7.mono B6.out.size))
        have R7 := Lib.hid (R6.out.below b7)
        clear r12 b7 Y6 B6 R6
        go_wp2_with fail
        refine (same_any _ _ n n n S w7 R12.out R7.out (Nat.le_refl _) (Nat.le_refl _)).mono ?_
        rintro e w8 ⟨rfl, b8⟩
        have Y8 := Lib.hid (Y7.out.below b8)
        have B8 := Lib.hid (B7.out.trans (b8.mono B7.out.size))
        have R8 := Lib.hid (R7.out.below b8)
        clear b8 Y7 B7 R7 R12
        go_wp2_with fail
        refine (load_any Y8.out oa ol oc O (OT.out.below B8.out).row (fun b off e h0 => by
          obtain ⟨b', off', e', q, _⟩ := OT.out.row.pos h0
          rw [e] at e'
          simp only [Option.some.injEq, Addr.mk.injEq, and_true] at e'
          omega)).mono ?_
        rintro e w9 (⟨rfl, _, b9⟩ | ⟨rfl, _, ⟨my2, hmy2, y9⟩, f9⟩)
        · have Y9 := Lib.hid (Y8.out.below b9)
          have B9 := Lib.hid (B8.out.trans (b9.mono B8.out.size))
          have R9 := Lib.hid (R8.out.below b9)
          clear b9 Y8 B8 R8
          go_wp2_with fail
          refine (all_any Y9.out (by omega)).mono ?_
          rintro e w10 ⟨g13, rfl, r13, l13, b10⟩
          have R13 := Lib.hid (r13.lr (by rw [Y9.out.ok.ln, Y9.out.ln]) Y9.out.le Y9.out.wt)
          have B10 := Lib.hid (B9.out.trans (b10.mono B9.out.size))
          have R10 := Lib.hid (R9.out.below b10)
          clear r13 b10 Y9 B9 R9
          go_wp2_with fail
          refine (same_any _ _ n n n S w10 R13.out R10.out (Nat.le_refl _) (Nat.le_refl _)).mono ?_
          rintro e w11 ⟨rfl, b11⟩
          have B11 := Lib.hid (B10.out.trans (b11.mono B10.out.size))
          clear b11
          go_wp2_with fail
          go_ret
          exact ⟨rfl, B11.out⟩
        · have Y9 := Lib.hid y9
          have B9 := Lib.hid (B8.out.trans (f9.below (by simp; omega) B8.out.size))
          have hln : ol = n := by rw [← OT.out.row.ln, y9.ok.ln, y9.ln]
          subst hln
          clear y9 f9 Y8 B8 R8
          go_wp2_with fail
          refine (all_any Y9.out (by omega)).mono ?_
          rintro e w10 ⟨g13, rfl, r13, l13, b10⟩
          have R13 := Lib.hid (r13.lr OT.out.row.ln Y9.out.le Y9.out.wt)
          have B10 := Lib.hid (B9.out.trans (b10.mono B9.out.size))
          clear r13 b10 Y9 B9
          go_wp2_with fail
          refine (same_any _ _ ol ol oc O w10 R13.out (OT.out.below B10.out).row (Nat.le_refl _) OT.out.le).mono ?_
          rintro e w11 ⟨rfl, b11⟩
          have B11 := Lib.hid (B10.out.trans (b11.mono B10.out.size))
          clear b11
          go_wp2_with fail
          go_ret
          exact ⟨rfl, B11.out⟩
end Go.Proofs.Yteakbijlcccnnaa
