/- The live question. -/
import Derived.Test.YtogpbclfdnijpaaDoorI
namespace Go.Proofs.YtogpbclfdnijpaaDoor
set_option linter.unusedVariables false
set_option linter.unusedSimpArgs false
open Go.ChangeShapes Go.WideShapes Go.ChangeAt Go.RowKit

theorem v_key : keyB [97, 98, 99] = true := by decide +kernel
theorem v_abd : decide (sumS [97, 98, 99] = sumS [97, 98, 100]) = false := by decide +kernel
theorem v_zero : keyB [97, 0] = false := by decide +kernel
theorem v_words : wordsK [97, 98, 99] = [24930, 25344] := by decide +kernel
theorem v_text : textK [24930, 25344, 25700] = [97, 98, 99] := by decide +kernel
theorem v_text0 : textK [] = [] := by decide +kernel
theorem sumS_len {K : List Nat} (h : keyB K = true) : (sumS K).length = 16 := by unfold sumS; rw [if_pos h, hexF_len]
theorem sumS_no {K : List Nat} (h : keyB K = false) : sumS K = [] := by unfold sumS; rw [if_neg (by rw [h]; simp)]
def abc : ByteArray := ⟨#[97, 98, 99]⟩
def WdP (w : World) (V : List Nat) (n : Nat) (e : Ending) (w' : World) : Prop := ∃ a c, e = .returned (.slice a n c) ∧ Wds w' a n V ∧ Below w.heap.size w w'
def SP (w : World) (T : ByteArray) (e : Ending) (w' : World) : Prop := e = .returned (.string T) ∧ Below w.heap.size w w'
set_option maxRecDepth 100000 in
set_option maxHeartbeats 8000000 in
theorem head_any (w : World) (hT : TabK w) : Calls Tryd.prog 6 #[] w (BoolB w true) := by
  obtain ⟨P, hP⟩ : ∃ P, P = (BoolB w true : Ending → World → Prop) := ⟨_, rfl⟩
  rw [← hP]
  have FIN : Hid (∀ W, Below w.heap.size w W → P (.returned (.bool true)) W) := Lib.hid (fun W h => by rw [hP]; exact ⟨rfl, h⟩)
  have hTW := fun W (h : Below w.heap.size w W) => hT.below h
  obtain ⟨T, hTT⟩ : ∃ T, T = strN (sumS [97, 98, 99]) := ⟨_, rfl⟩
  have s3 : (⟨#[97, 98, 99]⟩ : ByteArray).size ≤ maxLen := by decide
  have C1 : Hid (∀ W, Below w.heap.size w W → Calls Tryd.prog 8 #[.string ⟨#[97, 98, 99]⟩] W (SP W T)) := Lib.hid (fun W h => by rw [hTT]; exact sum_any ⟨#[97, 98, 99]⟩ W s3 (hTW W h))
  have C2 : Hid (∀ W, Calls Tryd.prog 11 #[.string ⟨#[97, 98, 99]⟩] W (SP W T)) := Lib.hid (fun W => by rw [hTT]; exact refSum_any ⟨#[97, 98, 99]⟩ W s3)
  have hslT : sl T = sumS [97, 98, 99] := by rw [hTT]; exact sl_strN (sumS_by _)
  have C3 : Hid (∀ W, Below w.heap.size w W → Calls Tryd.prog 10 #[.string T, .string ⟨#[97, 98, 99]⟩] W (BoolB W true)) := Lib.hid (fun W h => by
    have := match_any T ⟨#[97, 98, 99]⟩ W s3 (hTW W h)
    rw [show sl ⟨#[97, 98, 99]⟩ = [97, 98, 99] from rfl] at this
    unfold matchB at this
    rw [hslT, v_key, decide_eq_true rfl] at this
    exact this)
  have C4 : Hid (∀ W, Below w.heap.size w W → Calls Tryd.prog 10 #[.string T, .string ⟨#[97, 98, 100]⟩] W (BoolB W false)) := Lib.hid (fun W h => by
    have := match_any T ⟨#[97, 98, 100]⟩ W (by decide) (hTW W h)
    rw [show sl ⟨#[97, 98, 100]⟩ = [97, 98, 100] from rfl] at this
    unfold matchB at this
    rw [hslT, v_abd, Bool.and_false] at this
    exact this)
  have C5 : Hid (∀ W, Below w.heap.size w W → Calls Tryd.prog 10 #[.string ⟨#[]⟩, .string ⟨#[]⟩] W (BoolB W false)) := Lib.hid (fun W h => by
    have := match_any ⟨#[]⟩ ⟨#[]⟩ W (by decide) (hTW W h)
    rw [show sl ⟨#[]⟩ = [] from rfl] at this
    exact this)
  have C6 : Hid (∀ W, Below w.heap.size w W → Calls Tryd.prog 8 #[.string ⟨#[]⟩] W (SP W ⟨#[]⟩)) := Lib.hid (fun W h => by
    have := sum_any ⟨#[]⟩ W (by decide) (hTW W h)
    rw [show sl ⟨#[]⟩ = [] from rfl, sumS_no (show keyB [] = false by decide)] at this
    exact this)
  have C7 : Hid (∀ W, Below w.heap.size w W → Calls Tryd.prog 8 #[.string ⟨#[97, 0]⟩] W (SP W ⟨#[]⟩)) := Lib.hid (fun W h => by
    have := sum_any ⟨#[97, 0]⟩ W (by decide) (hTW W h)
    rw [show sl ⟨#[97, 0]⟩ = [97, 0] from rfl, sumS_no v_zero] at this
    exact this)
  have C8 : Hid (∀ W, Calls Tryd.prog 7 #[.string ⟨#[97, 98, 99]⟩] W (WdP W [24930, 25344] 2)) := Lib.hid (fun W => by
    refine (words_any ⟨#[97, 98, 99]⟩ W s3).mono ?_
    rintro e w' ⟨a, c, he, hA, hb, _⟩
    rw [show sl ⟨#[97, 98, 99]⟩ = [97, 98, 99] from rfl, if_pos v_key, v_words] at he hA
    rw [if_pos v_key] at hA
    exact ⟨a, c, he, hA.row, hb⟩)
  have C10 : Hid (∀ W a c, Wds W a 3 [24930, 25344, 25700] → Calls Tryd.prog 9 #[.slice a 3 c] W (SP W ⟨#[97, 98, 99]⟩)) := Lib.hid (fun W a c h => by
    have := text_any a 3 c _ W h (by omega)
    rw [v_text] at this
    exact this)
  have C11 : Hid (∀ W, Calls Tryd.prog 9 #[.slice none 0 0] W (SP W ⟨#[]⟩)) := Lib.hid (fun W => by
    have := text_any none 0 0 [] W (Wds.nil _ _) (by omega)
    rw [v_text0] at this
    exact this)
  have C9 : Hid (∀ W a c b d, Wds W a 2 [24930, 25344] → Wds W b 2 [24930, 25344] → Calls Tryd.prog 12 #[.slice a 2 c, .slice b 2 d] W (BoolB W true)) := Lib.hid (fun W a c b d h h2 => by
    have := samevals_any a 2 c _ b 2 d _ W h h2
    rw [decide_eq_true rfl] at this
    exact this)
  have hsz : T.size = 16 := by rw [hTT, strN_size, sumS_len v_key]
  have B0 := Lib.hid (Below.refl w.heap.size w)
  clear hP hTW hTT hslT s3 hT
  go_enter Tryd.func6, Tryd.ntmps6
  go_wp2_with fail
  refine (C1.out _ B0.out).mono ?_
  rintro e w1 ⟨rfl, z1⟩
  have B1 := Lib.hid (B0.out.trans (Below.mono z1 B0.out.size))
  clear z1
  go_wp2_with fail
  refine (C2.out _).mono ?_
  rintro e w2 ⟨rfl, z2⟩
  have B2 := Lib.hid (B1.out.trans (Below.mono z2 B1.out.size))
  clear z2
  go_wp2_with fail
  refine (C3.out _ B2.out).mono ?_
  rintro e w3 ⟨rfl, z3⟩
  have B3 := Lib.hid (B2.out.trans (Below.mono z3 B2.out.size))
  clear z3
  go_wp2_with fail
  refine (C4.out _ B3.out).mono ?_
  rintro e w4 ⟨rfl, z4⟩
  have B4 := Lib.hid (B3.out.trans (Below.mono z4 B3.out.size))
  clear z4
  go_wp2_with fail
  refine (C5.out _ B4.out).mono ?_
  rintro e w5 ⟨rfl, z5⟩
  have B5 := Lib.hid (B4.out.trans (Below.mono z5 B4.out.size))
  clear z5
  go_wp2_with fail
  refine (C6.out _ B5.out).mono ?_
  rintro e w6 ⟨rfl, z6⟩
  have B6 := Lib.hid (B5.out.trans (Below.mono z6 B5.out.size))
  clear z6
  go_wp2_with fail
  refine (C7.out _ B6.out).mono ?_
  rintro e w7 ⟨rfl, z7⟩
  have B7 := Lib.hid (B6.out.trans (Below.mono z7 B6.out.size))
  clear z7
  go_wp2_with fail
  refine (C8.out _).mono ?_
  rintro e w8 ⟨a8, c8, rfl, hA8, z8⟩
  have B8 := Lib.hid (B7.out.trans (Below.mono z8 B7.out.size))
  have HA8 := Lib.hid hA8
  clear z8 hA8
  go_wp2_with fail
  have al := (Below.refl w8.heap.size w8).alloc (Nat.le_refl _) (.cells #[.int .u16 24930, .int .u16 25344] 28 (0, 0))
  have B9 := Lib.hid (B8.out.trans (Below.mono al B8.out.size))
  have C9a := C9.out (w8.alloc (.cells #[.int .u16 24930, .int .u16 25344] 28 (0, 0))) a8 c8 (some ⟨w8.heap.size, 0, none⟩) 2 (HA8.out.below al) (wds_block [24930, 25344] (by unfold maxLen; simp) (by simp) (heap_alloc_new w8 _))
  have HC9 := Lib.hid C9a
  clear al C9a
  refine HC9.out.mono ?_
  rintro e w10 ⟨rfl, z10⟩
  have B10 := Lib.hid (B9.out.trans (Below.mono z10 B9.out.size))
  clear z10
  go_wp2_with fail
  have al := (Below.refl w10.heap.size w10).alloc (Nat.le_refl _) (.cells #[.int .u16 24930, .int .u16 25344, .int .u16 25700] 28 (0, 0))
  have B11 := Lib.hid (B10.out.trans (Below.mono al B10.out.size))
  have C10a := C10.out (w10.alloc (.cells #[.int .u16 24930, .int .u16 25344, .int .u16 25700] 28 (0, 0))) (some ⟨w10.heap.size, 0, none⟩) 3 (wds_block [24930, 25344, 25700] (by unfold maxLen; simp) (by simp) (heap_alloc_new w10 _))
  have HC10 := Lib.hid C10a
  clear al C10a
  refine HC10.out.mono ?_
  rintro e w12 ⟨rfl, z12⟩
  have B12 := Lib.hid (B11.out.trans (Below.mono z12 B11.out.size))
  clear z12
  go_wp2_with fail
  refine (C11.out _).mono ?_
  rintro e w13 ⟨rfl, z13⟩
  have B13 := Lib.hid (B12.out.trans (Below.mono z13 B12.out.size))
  clear z13
  go_wp2_with fail
  exact FIN.out _ B13.out
end Go.Proofs.YtogpbclfdnijpaaDoor
