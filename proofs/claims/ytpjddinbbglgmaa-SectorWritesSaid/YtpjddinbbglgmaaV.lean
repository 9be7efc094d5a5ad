/- The walk of SectorWrites. -/
import Derived.Test.YtpjddinbbglgmaaS
namespace Go.Proofs.Ytpjddinbbglgmaa
set_option linter.unusedVariables false
open Go.ChangeShapes Go.WideShapes Go.ChangeAt Go.RowKit

set_option maxRecDepth 100000 in
set_option maxHeartbeats 4000000 in
theorem writes_walk (many : Int) (a : Option Addr) (len cap : Nat) (g : Nat → Opn) (w : World) (h : Sl w a len g) (m0 : 0 ≤ many) (m1' : many ≤ 255) :
    Calls Try.prog 7 #[.int .u8 many, .slice a len cap] w fun e w' => e = .returned (.bool true) ∧ Below w.heap.size w w' := by
  have hl := h.row.le
  unfold maxLen at hl
  have H := Lib.hid h
  clear h
  obtain ⟨m, hm⟩ : ∃ m, m = (wi many 1 256).toNat := ⟨_, rfl⟩
  have hmm : (m : Int) = (if many < 1 then 1 else many) := by rw [hm]; unfold wi; (repeat' split) <;> omega
  have hm1 : 1 ≤ m := by split at hmm <;> omega
  have hm2 : m ≤ 255 := by split at hmm <;> omega
  have HM := Lib.hid hm
  have HMM := Lib.hid hmm
  clear hm hmm
  go_enter Try.func7, Try.ntmps7
  go_wp2_with fail
  refine (head_any w).mono ?_
  rintro e w0 ⟨rfl, hb⟩
  have B0 := Lib.hid hb
  have hs0 := hb.size
  clear hb
  go_wp2_with fail
  refine (new_any many w0).mono ?_
  rintro e w1 ⟨d, rfl, hd1, hb1⟩
  rw [← HM.out] at hd1
  obtain ⟨s, hs⟩ : ∃ s, s = w0.heap.size := ⟨_, rfl⟩
  have hd1' : Dk w0.heap.size w1 d s none m none false 0 (List.replicate (m * 64) 0) := by rw [hs]; exact hd1
  have HD1 := Lib.hid hd1'
  have B1 := Lib.hid (B0.out.trans (hb1.mono hs0))
  clear hd1 hd1' hb1 hs
  have hsl1 : Sl w1 a len g := ⟨H.out.row.below B1.out, fun i hi => ⟨(H.out.wf i hi).1, (H.out.wf i hi).2.1, (H.out.wf i hi).2.2.below B1.out⟩⟩
  have HS1 := Lib.hid hsl1
  clear hsl1
  go_wp2_with fail
  refine (great_any a len cap g w1 HS1.out).mono ?_
  rintro e w2 ⟨bb, rfl, hg, rfl⟩
  have HG := Lib.hid hg
  clear hg
  cases bb
  case true =>
    go_wp2_with fail
    go_ret
    exact ⟨rfl, B1.out⟩
  case false =>
    have hl4 : len ≤ 400 := HG.out rfl
    clear HG
    go_wp2_with fail
    go_loopw [7, 8] (fun nn i wr => ∃ (k n : Nat) (L : List Nat), k ≤ len ∧ i = .int .i64 k ∧ nn = .int .i64 n ∧ n ≤ k ∧ Dk w0.heap.size wr d s none m none false n L ∧ Below w.heap.size w wr) (fun _ i _ => len - (intOf i).toNat)
    case atStart => exact ⟨0, 0, _, Nat.zero_le _, rfl, rfl, Nat.le_refl _, HD1.out, B1.out⟩
    case round =>
      obtain ⟨k, n, L, hk, rfl, rfl, hn, hd, hb⟩ := hrel
      obtain ⟨w4, hw4⟩ : ∃ w4, w4 = wr := ⟨_, rfl⟩
      subst hw4
      have HD := Lib.hid hd
      have HB := Lib.hid hb
      have hbs := hb.size
      have hdl := blk_lt hd.db
      have hsl := blk_lt hd.sb
      clear hd hb
      by_cases hlt : k < len
      · obtain ⟨b, off, rfl, hlt', hcs⟩ := (H.out.row.below HB.out).pos (by omega)
        have c0 : w4.cell? ⟨b, off + k * 4, none⟩ = some (.int .i64 (g k).wh) := hcs k hlt 0 (by omega)
        have c1 : w4.cell? ⟨b, off + k * 4 + 1, none⟩ = some (.int .i64 (g k).at') := hcs k hlt 1 (by omega)
        have c2 : w4.cell? ⟨b, off + k * 4 + 2, none⟩ = some (.int .i64 (g k).n) := hcs k hlt 2 (by omega)
        have c3 : w4.cell? ⟨b, off + k * 4 + 3, none⟩ = some (.slice (g k).a (g k).l (g k).c) := hcs k hlt 3 (by omega)
        obtain ⟨_, hlk, hbk⟩ := H.out.wf k hlt
        have HBK := Lib.hid (hbk.below HB.out)
        clear hcs hbk
        generalize (g k).wh = wh at c0
        generalize (g k).at' = ga at c1
        generalize (g k).n = gn at c2
        generalize (g k).a = oa at c3 HBK
        generalize (g k).l = ol at c3 HBK hlk
        generalize (g k).c = oc at c3
        generalize (g k).f = of at HBK
        obtain ⟨w5, hw5⟩ : ∃ w5, w5 = w4.alloc (.cells #[.int .i64 wh, .int .i64 ga, .int .i64 gn, .slice oa ol oc] 31 (0, 0)) := ⟨_, rfl⟩
        have hG : Dk w0.heap.size w5 d s none m none false n L ∧ Below w.heap.size w w5 ∧ Bys w5 oa ol of := by
          rw [hw5]
          exact ⟨HD.out.below ((Below.refl _ _).alloc (Nat.le_refl _) _), HB.out.alloc hbs _, HBK.out.below ((Below.refl _ _).alloc (Nat.le_refl _) _)⟩
        have hob : w5.heap[w4.heap.size]? = some (.cells #[.int .i64 wh, .int .i64 ga, .int .i64 gn, .slice oa ol oc] 31 (0, 0)) := by rw [hw5]; exact heap_alloc_new w4 _
        have HG := Lib.hid hG
        have HOB := Lib.hid hob
        have HW5 := Lib.hid hw5
        clear hw5 hG hob
        by_cases h2 : wh = 2
        · subst h2
          by_cases hh : hasB m ga = true
          · simp only [hasB, Bool.and_eq_true, decide_eq_true_eq] at hh
            obtain ⟨p, rfl⟩ : ∃ p : Nat, ga = (p : Int) := ⟨ga.toNat, by omega⟩
            have hp : p < m := by omega
            clear hh
            go_wp2_with fail
            rw [← HW5.out]
            refine (read_ok p HG.out.1 hp).mono ?_
            rintro e w6 ⟨gx, rfl, hgx, hx6, bl6⟩
            have hob6 := (bl6.block _ (blk_lt HOB.out)).trans HOB.out
            have o1 : w6.cell? ⟨w4.heap.size, 1, none⟩ = some (.int .i64 p) := by simp [World.cell?, hob6]
            have HD6 := Lib.hid (HG.out.1.below bl6)
            have HB6 := Lib.hid (HG.out.2.1.trans (bl6.mono HG.out.2.1.size))
            have HX6 := Lib.hid hx6
            clear hgx hx6 bl6 hob6 c0 c1 c2 c3
            go_wp2_with fail
            refine (read_ok p HD6.out hp).mono ?_
            rintro e w7 ⟨gy, rfl, hgy, hy7, bl7⟩
            have hsl64 : (sec L p).length = 64 := sec_len HD6.out.len hp
            have hx7 := (bl7.block _ (blk_lt HX6.out)).trans HX6.out
            have hcx := conv_any w7 gx 0 64 64 (sec L p) hsl64 (fun i hi => by
              rw [Nat.zero_add]
              simp only [World.cell?, hx7]
              simpa using bv_get (sec L p) i (by omega))
            have hcy := conv_any w7 gy 0 64 64 (sec L p) hsl64 (fun i hi => by
              rw [Nat.zero_add]
              simp only [World.cell?, hy7]
              simpa using bv_get (sec L p) i (by omega))
            generalize strN (sec L p) = st at hcx hcy
            have HD7 := Lib.hid (HD6.out.below bl7)
            have HB7 := Lib.hid (HB6.out.trans (bl7.mono HB6.out.size))
            clear hgy hy7 bl7 hsl64 hx7 o1
            go_wp2_with fail
            go_roundw
            case rel => exact ⟨k + 1, n, L, by omega, by go_num, rfl, by omega, HD7.out, HB7.out⟩
            case measure => simp [intOf]; omega
          · have hh' : hasB m ga = false := by cases hq : hasB m ga; rfl; exact absurd hq hh
            have HH := Lib.hid hh'
            clear hh hh'
            go_wp2_with fail
            rw [← HW5.out]
            refine (read_arg ga HG.out.1 HH.out).mono ?_
            rintro e w6 ⟨rfl, rfl⟩
            have o1 : w5.cell? ⟨w4.heap.size, 1, none⟩ = some (.int .i64 ga) := by simp [World.cell?, HOB.out]
            clear c0 c1 c2 c3
            go_wp2_with fail
            refine (read_arg ga HG.out.1 HH.out).mono ?_
            rintro e w6 ⟨rfl, rfl⟩
            have hcx := conv_bys (W := w5) (a := none) (len := 0) (cap := 0) (f := []) ⟨rfl, by simp, .inl rfl⟩
            generalize strN [] = st at hcx
            clear o1
            go_wp2_with fail
            go_roundw
            case rel => exact ⟨k + 1, n, L, by omega, by go_num, rfl, by omega, HG.out.1, HG.out.2.1⟩
            case measure => simp [intOf]; omega
        · have e2 : (wh == 2) = false := by simpa using h2
          have hmm := HMM.out
          unfold maxLen at hlk
          have hlk' : ol ≤ maxLen := by unfold maxLen; omega
          by_cases hmz : many < 1
          · rw [if_pos hmz] at hmm
            have hm1e : m ≤ 1 := by omega
            clear hmm
            by_cases hg0 : 0 ≤ ga
            · by_cases hgm : ga < (m : Int)
              · by_cases hol : ol ≤ 64
                · obtain ⟨p, rfl⟩ : ∃ p : Nat, ga = (p : Int) := ⟨ga.toNat, by omega⟩
                  have hp : p < m := by omega
                  have tA1 : decide ((0 : Int) ≤ (p : Int)) = true := decide_eq_true (by omega)
                  have tA2 : decide ((p : Int) < 1) = true := decide_eq_true (by omega)
                  have tA3 : decide ((ol : Int) ≤ 64) = true := decide_eq_true (by omega)
                  go_wp2_with fail
                  rw [← HW5.out]
                  refine (write_none p oa ol oc of HG.out.1 hp HG.out.2.2 hol (by omega)).mono ?_
                  rintro e w6 ⟨rfl, hd6, fr6⟩
                  have hob6 := (fr6.block w4.heap.size (blk_lt HOB.out) (by omega) (by omega) (fun e => by cases e)).trans HOB.out
                  have o1 : w6.cell? ⟨w4.heap.size, 1, none⟩ = some (.int .i64 p) := by simp [World.cell?, hob6]
                  have o3 : w6.cell? ⟨w4.heap.size, 3, none⟩ = some (.slice oa ol oc) := by simp [World.cell?, hob6]
                  have HD6 := Lib.hid hd6
                  have HB6 := Lib.hid (HG.out.2.1.trans ((HG.out.1.step fr6).mono hs0))
                  clear hd6 fr6 hob6 c0 c1 c2 c3
                  go_wp2_with fail
                  go_roundw
                  case rel => exact ⟨k + 1, n + 1, _, by omega, by go_num, by go_num, by omega, HD6.out, HB6.out⟩
                  case measure => simp [intOf]; omega
                · have tB1 : decide ((0 : Int) ≤ ga) = true := decide_eq_true (by omega)
                  have tB2 : decide (ga < 1) = true := decide_eq_true (by omega)
                  have tB3 : decide ((ol : Int) ≤ 64) = false := decide_eq_false (by omega)
                  go_wp2_with fail
                  rw [← HW5.out]
                  refine (write_arg ga oa ol oc hlk' HG.out.1 (.inr (by omega))).mono ?_
                  rintro e w6 ⟨rfl, rfl⟩
                  have o1 : w5.cell? ⟨w4.heap.size, 1, none⟩ = some (.int .i64 ga) := by simp [World.cell?, HOB.out]
                  have o3 : w5.cell? ⟨w4.heap.size, 3, none⟩ = some (.slice oa ol oc) := by simp [World.cell?, HOB.out]
                  clear c0 c1 c2 c3
                  go_wp2_with fail
                  go_roundw
                  case rel => exact ⟨k + 1, n, L, by omega, by go_num, rfl, by omega, HG.out.1, HG.out.2.1⟩
                  case measure => simp [intOf]; omega
              · have tB1 : decide ((0 : Int) ≤ ga) = true := decide_eq_true (by omega)
                have tB2 : decide (ga < 1) = false := decide_eq_false (by omega)
                go_wp2_with fail
                rw [← HW5.out]
                refine (write_arg ga oa ol oc hlk' HG.out.1 (.inl (by simp [hasB]; omega))).mono ?_
                rintro e w6 ⟨rfl, rfl⟩
                have o1 : w5.cell? ⟨w4.heap.size, 1, none⟩ = some (.int .i64 ga) := by simp [World.cell?, HOB.out]
                have o3 : w5.cell? ⟨w4.heap.size, 3, none⟩ = some (.slice oa ol oc) := by simp [World.cell?, HOB.out]
                clear c0 c1 c2 c3
                go_wp2_with fail
                go_roundw
                case rel => exact ⟨k + 1, n, L, by omega, by go_num, rfl, by omega, HG.out.1, HG.out.2.1⟩
                case measure => simp [intOf]; omega
            · have tB1 : decide ((0 : Int) ≤ ga) = false := decide_eq_false (by omega)
              go_wp2_with fail
              rw [← HW5.out]
              refine (write_arg ga oa ol oc hlk' HG.out.1 (.inl (by simp [hasB]; omega))).mono ?_
              rintro e w6 ⟨rfl, rfl⟩
              have o1 : w5.cell? ⟨w4.heap.size, 1, none⟩ = some (.int .i64 ga) := by simp [World.cell?, HOB.out]
              have o3 : w5.cell? ⟨w4.heap.size, 3, none⟩ = some (.slice oa ol oc) := by simp [World.cell?, HOB.out]
              clear c0 c1 c2 c3
              go_wp2_with fail
              go_roundw
              case rel => exact ⟨k + 1, n, L, by omega, by go_num, rfl, by omega, HG.out.1, HG.out.2.1⟩
              case measure => simp [intOf]; omega
          · rw [if_neg hmz] at hmm
            have hma : (m : Int) ≤ many := by omega
            have hmb : many ≤ (m : Int) := by omega
            clear hmm
            by_cases hg0 : 0 ≤ ga
            · by_cases hgm : ga < (m : Int)
              · by_cases hol : ol ≤ 64
                · obtain ⟨p, rfl⟩ : ∃ p : Nat, ga = (p : Int) := ⟨ga.toNat, by omega⟩
                  have hp : p < m := by omega
                  have tA1 : decide ((0 : Int) ≤ (p : Int)) = true := decide_eq_true (by omega)
                  have tA2 : decide ((p : Int) < many) = true := decide_eq_true (by omega)
                  have tA3 : decide ((ol : Int) ≤ 64) = true := decide_eq_true (by omega)
                  go_wp2_with fail
                  rw [← HW5.out]
                  refine (write_none p oa ol oc of HG.out.1 hp HG.out.2.2 hol (by omega)).mono ?_
                  rintro e w6 ⟨rfl, hd6, fr6⟩
                  have hob6 := (fr6.block w4.heap.size (blk_lt HOB.out) (by omega) (by omega) (fun e => by cases e)).trans HOB.out
                  have o1 : w6.cell? ⟨w4.heap.size, 1, none⟩ = some (.int .i64 p) := by simp [World.cell?, hob6]
                  have o3 : w6.cell? ⟨w4.heap.size, 3, none⟩ = some (.slice oa ol oc) := by simp [World.cell?, hob6]
                  have HD6 := Lib.hid hd6
                  have HB6 := Lib.hid (HG.out.2.1.trans ((HG.out.1.step fr6).mono hs0))
                  clear hd6 fr6 hob6 c0 c1 c2 c3
                  go_wp2_with fail
                  go_roundw
                  case rel => exact ⟨k + 1, n + 1, _, by omega, by go_num, by go_num, by omega, HD6.out, HB6.out⟩
                  case measure => simp [intOf]; omega
                · have tB1 : decide ((0 : Int) ≤ ga) = true := decide_eq_true (by omega)
                  have tB2 : decide (ga < many) = true := decide_eq_true (by omega)
                  have tB3 : decide ((ol : Int) ≤ 64) = false := decide_eq_false (by omega)
                  go_wp2_with fail
                  rw [← HW5.out]
                  refine (write_arg ga oa ol oc hlk' HG.out.1 (.inr (by omega))).mono ?_
                  rintro e w6 ⟨rfl, rfl⟩
                  have o1 : w5.cell? ⟨w4.heap.size, 1, none⟩ = some (.int .i64 ga) := by simp [World.cell?, HOB.out]
                  have o3 : w5.cell? ⟨w4.heap.size, 3, none⟩ = some (.slice oa ol oc) := by simp [World.cell?, HOB.out]
                  clear c0 c1 c2 c3
                  go_wp2_with fail
                  go_roundw
                  case rel => exact ⟨k + 1, n, L, by omega, by go_num, rfl, by omega, HG.out.1, HG.out.2.1⟩
                  case measure => simp [intOf]; omega
              · have tB1 : decide ((0 : Int) ≤ ga) = true := decide_eq_true (by omega)
                have tB2 : decide (ga < many) = false := decide_eq_false (by omega)
                go_wp2_with fail
                rw [← HW5.out]
                refine (write_arg ga oa ol oc hlk' HG.out.1 (.inl (by simp [hasB]; omega))).mono ?_
                rintro e w6 ⟨rfl, rfl⟩
                have o1 : w5.cell? ⟨w4.heap.size, 1, none⟩ = some (.int .i64 ga) := by simp [World.cell?, HOB.out]
                have o3 : w5.cell? ⟨w4.heap.size, 3, none⟩ = some (.slice oa ol oc) := by simp [World.cell?, HOB.out]
                clear c0 c1 c2 c3
                go_wp2_with fail
                go_roundw
                case rel => exact ⟨k + 1, n, L, by omega, by go_num, rfl, by omega, HG.out.1, HG.out.2.1⟩
                case measure => simp [intOf]; omega
            · have tB1 : decide ((0 : Int) ≤ ga) = false := decide_eq_false (by omega)
              go_wp2_with fail
              rw [← HW5.out]
              refine (write_arg ga oa ol oc hlk' HG.out.1 (.inl (by simp [hasB]; omega))).mono ?_
              rintro e w6 ⟨rfl, rfl⟩
              have o1 : w5.cell? ⟨w4.heap.size, 1, none⟩ = some (.int .i64 ga) := by simp [World.cell?, HOB.out]
              have o3 : w5.cell? ⟨w4.heap.size, 3, none⟩ = some (.slice oa ol oc) := by simp [World.cell?, HOB.out]
              clear c0 c1 c2 c3
              go_wp2_with fail
              go_roundw
              case rel => exact ⟨k + 1, n, L, by omega, by go_num, rfl, by omega, HG.out.1, HG.out.2.1⟩
              case measure => simp [intOf]; omega
      · have hk' : k = len := by omega
        subst hk'
        go_wp2_with fail
        refine (writes_any HD.out).mono ?_
        rintro e w5 ⟨rfl, rfl⟩
        go_wp2_with fail
        refine (many_any HD.out).mono ?_
        rintro e w5 ⟨rfl, rfl⟩
        rw [HMM.out]
        by_cases hmz : many < 1
        · rw [if_pos hmz]
          go_wp2_with fail
          go_ret
          exact ⟨by simp, HB.out⟩
        · rw [if_neg hmz]
          go_wp2_with fail
          go_ret
          exact ⟨by simp, HB.out⟩

theorem writes_all (many : Int) (wm : (Lit.int .u8 many).wf = true) (a : Option Addr) (len cap : Nat) (g : Nat → Opn) (w : World) (h : Sl w a len g) :
    Calls Try.prog 7 #[.int .u8 many, .slice a len cap] w fun e w' => e = .returned (.bool true) ∧ Below w.heap.size w w' :=
  writes_walk many a len cap g w h (bd_u8 wm).1 (bd_u8 wm).2

end Go.Proofs.Ytpjddinbbglgmaa
