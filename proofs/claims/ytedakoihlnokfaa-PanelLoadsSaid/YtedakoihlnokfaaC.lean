/- What is next, how it looks, and sounds. -/
import Derived.Test.YtedakoihlnokfaaB
namespace Go.Proofs.Ytedakoihlnokfaa
set_option linter.unusedVariables false
set_option linter.unusedSimpArgs false
open Go.ChangeShapes Go.WideShapes Go.ChangeAt Go.RowKit

def nextZ (k s h : Int) : Int := if 1 ≤ k ∧ k ≤ 6 ∧ 0 ≤ s ∧ s < 9 then (tabZ k h).getD s.toNat 0 else 0
def hornL : List Int := [0, 1, 0, 1, 0, 2, 1, 0, 1]
def lookL : List Int := [0, 2, 1, 2, 1, 3, 4, 1, 4]
def hornZ (s : Int) : Int := if 0 ≤ s ∧ s < 9 then hornL.getD s.toNat 0 else 0
def lookZ (s : Int) : Int := if 0 ≤ s ∧ s < 9 then lookL.getD s.toNat 0 else 0
theorem of9 {s : Int} (h : 0 ≤ s ∧ s < 9) : s = 0 ∨ s = 1 ∨ s = 2 ∨ s = 3 ∨ s = 4 ∨ s = 5 ∨ s = 6 ∨ s = 7 ∨ s = 8 := by omega
theorem isS_true {s : Int} (h : 0 ≤ s ∧ s < 9) : isS s = true := by unfold isS; simp; omega
theorem isS_false {s : Int} (h : ¬ (0 ≤ s ∧ s < 9)) : isS s = false := by unfold isS; simp; omega
theorem index9 (b0 b1 b2 b3 b4 b5 b6 b7 b8 : Int) (s : Int) (hs : 0 ≤ s ∧ s < 9) (w : World) : (Instr.index 53 (.agg #[.int .i64 b0, .int .i64 b1, .int .i64 b2, .int .i64 b3, .int .i64 b4, .int .i64 b5, .int .i64 b6, .int .i64 b7, .int .i64 b8]) (.int .i64 s)).run Try.prog w = .ok (.int .i64 ([b0, b1, b2, b3, b4, b5, b6, b7, b8].getD s.toNat 0)) w := by
  rcases of9 hs with rfl | rfl | rfl | rfl | rfl | rfl | rfl | rfl | rfl
  all_goals kernel_rfl
def IntB (w : World) (n : Int) (e : Ending) (w' : World) : Prop := e = .returned (.int .i64 n) ∧ Below w.heap.size w w'
set_option maxRecDepth 100000 in
set_option maxHeartbeats 4000000 in
theorem next_any (k s h : Int) (w : World) : Calls Try.prog 40 #[.int .i64 k, .int .i64 s, .int .i64 h] w (IntB w (nextZ k s h)) := by
  have n9 : Try.prog.arrayLen 53 = 9 := by kernel_rfl
  by_cases hk1 : k < 1
  · have hz : nextZ k s h = 0 := by unfold nextZ; rw [if_neg (by omega)]
    have HZ := Lib.hid hz
    have d1 : decide (k < 1) = true := by simpa using hk1
    clear hz hk1
    go_enter Try.func40, Try.ntmps40
    go_wp2_with fail
    go_ret
    exact ⟨by rw [HZ.out]; rfl, Below.refl _ _⟩
  have d1 : decide (k < 1) = false := by simpa using hk1
  by_cases hk6 : 6 < k
  · have hz : nextZ k s h = 0 := by unfold nextZ; rw [if_neg (by omega)]
    have HZ := Lib.hid hz
    have d2 : decide (6 < k) = true := by simpa using hk6
    clear hz hk6 hk1
    go_enter Try.func40, Try.ntmps40
    go_wp2_with fail
    go_ret
    exact ⟨by rw [HZ.out]; rfl, Below.refl _ _⟩
  have d2 : decide (6 < k) = false := by simpa using hk6
  by_cases hs : 0 ≤ s ∧ s < 9
  · have hz : nextZ k s h = (tabZ k h).getD s.toNat 0 := by unfold nextZ; rw [if_pos (by omega)]
    have HI := Lib.hid (isS_true hs)
    have HS := Lib.hid hs
    obtain ⟨b0, b1, b2, b3, b4, b5, b6, b7, b8, hb9⟩ := list9 (tabZ_len k h)
    rw [hb9] at hz
    have HZ := Lib.hid hz
    have HB9 := Lib.hid hb9
    clear hz hs hk1 hk6 hb9
    go_enter Try.func40, Try.ntmps40
    go_wp2_with fail
    refine (isState_any s _).mono ?_
    rintro e y ⟨rfl, rfl⟩
    rw [HI.out]
    go_wp2_with fail
    refine (tableOf_any k h _).mono ?_
    rintro e y ⟨rfl, q⟩
    rw [HB9.out]
    simp only [tv, iv, List.map_cons, List.map_nil]
    have Q := Lib.hid q
    clear q
    have ix := index9 b0 b1 b2 b3 b4 b5 b6 b7 b8 s HS.out
    go_wp2_with fail
    go_ret
    exact ⟨by rw [HZ.out]; rfl, Q.out⟩
  · have hz : nextZ k s h = 0 := by unfold nextZ; rw [if_neg (by omega)]
    have HZ := Lib.hid hz
    have HI := Lib.hid (isS_false hs)
    clear hz hs hk1 hk6
    go_enter Try.func40, Try.ntmps40
    go_wp2_with fail
    refine (isState_any s _).mono ?_
    rintro e y ⟨rfl, rfl⟩
    rw [HI.out]
    go_wp2_with fail
    go_ret
    exact ⟨by rw [HZ.out]; rfl, Below.refl _ _⟩
set_option maxRecDepth 100000 in
set_option maxHeartbeats 4000000 in
theorem horn_any (s : Int) (w : World) : Calls Try.prog 35 #[.int .i64 s] w (IntB w (hornZ s)) := by
  have n9 : Try.prog.arrayLen 53 = 9 := by kernel_rfl
  by_cases hs : 0 ≤ s ∧ s < 9
  · have hz : hornZ s = hornL.getD s.toNat 0 := by unfold hornZ; rw [if_pos hs]
    have HI := Lib.hid (isS_true hs)
    have HS := Lib.hid hs
    have HZ := Lib.hid hz
    have ZR := Lib.hid (zr_new w)
    clear hz hs
    go_enter Try.func35, Try.ntmps35
    go_wp2_with fail
    refine (isState_any s _).mono ?_
    rintro e y ⟨rfl, rfl⟩
    rw [HI.out]
    go_wp2_with fail
    have TO := Lib.hid (to_any [0, 0, 0, 0, 0, 0, 0, 0, 0] [1, 3, 6, 8] 1 (w.alloc (.cells (iv z9).toArray 53 (0, 0))).heap.size 4 ((w.alloc (.cells (iv z9).toArray 53 (0, 0))).alloc (.cells (iv (nl [1, 3, 6, 8])).toArray 3 (0, 0))) rfl (by decide) (heap_alloc_new _ _) rfl (by omega))
    try rw [World.size_alloc] at TO
    refine TO.out.mono ?_
    clear TO
    rintro e y1 ⟨rfl, q0⟩
    have ZR := Lib.hid ((ZR.out.al (.cells (iv (nl [1, 3, 6, 8])).toArray 3 (0, 0))).step q0)
    rw [show setAll _ _ [1, 3, 6, 8] = [0, 1, 0, 1, 0, 0, 1, 0, 1] from rfl]
    clear q0
    simp only [tv, iv, List.map_cons, List.map_nil]
    go_wp2_with fail
    have TO := Lib.hid (to_any [0, 1, 0, 1, 0, 0, 1, 0, 1] [5] 2 y1.heap.size 1 (y1.alloc (.cells (iv (nl [5])).toArray 3 (0, 0))) rfl (by decide) (heap_alloc_new _ _) rfl (by omega))
    try rw [World.size_alloc] at TO
    refine TO.out.mono ?_
    clear TO
    rintro e y2 ⟨rfl, q0⟩
    have ZR := Lib.hid ((ZR.out.al (.cells (iv (nl [5])).toArray 3 (0, 0))).step q0)
    rw [show setAll _ _ [5] = [0, 1, 0, 1, 0, 2, 1, 0, 1] from rfl]
    clear q0
    simp only [tv, iv, List.map_cons, List.map_nil]
    have ix := index9 0 1 0 1 0 2 1 0 1 s HS.out
    go_wp2_with fail
    go_ret
    exact ⟨by rw [HZ.out]; rfl, ZR.out.2⟩
  · have hz : hornZ s = 0 := by unfold hornZ; rw [if_neg hs]
    have HZ := Lib.hid hz
    have HI := Lib.hid (isS_false hs)
    clear hz hs
    go_enter Try.func35, Try.ntmps35
    go_wp2_with fail
    refine (isState_any s _).mono ?_
    rintro e y ⟨rfl, rfl⟩
    rw [HI.out]
    go_wp2_with fail
    go_ret
    exact ⟨by rw [HZ.out]; rfl, Below.refl _ _⟩
set_option maxRecDepth 100000 in
set_option maxHeartbeats 4000000 in
theorem look_any (s : Int) (w : World) : Calls Try.prog 38 #[.int .i64 s] w (IntB w (lookZ s)) := by
  have n9 : Try.prog.arrayLen 53 = 9 := by kernel_rfl
  by_cases hs : 0 ≤ s ∧ s < 9
  · have hz : lookZ s = lookL.getD s.toNat 0 := by unfold lookZ; rw [if_pos hs]
    have HI := Lib.hid (isS_true hs)
    have HS := Lib.hid hs
    have HZ := Lib.hid hz
    have ZR := Lib.hid (zr_new w)
    clear hz hs
    go_enter Try.func38, Try.ntmps38
    go_wp2_with fail
    refine (isState_any s _).mono ?_
    rintro e y ⟨rfl, rfl⟩
    rw [HI.out]
    go_wp2_with fail
    have TO := Lib.hid (to_any [0, 0, 0, 0, 0, 0, 0, 0, 0] [1, 3] 2 (w.alloc (.cells (iv z9).toArray 53 (0, 0))).heap.size 2 ((w.alloc (.cells (iv z9).toArray 53 (0, 0))).alloc (.cells (iv (nl [1, 3])).toArray 3 (0, 0))) rfl (by decide) (heap_alloc_new _ _) rfl (by omega))
    try rw [World.size_alloc] at TO
    refine TO.out.mono ?_
    clear TO
    rintro e y1 ⟨rfl, q0⟩
    have ZR := Lib.hid ((ZR.out.al (.cells (iv (nl [1, 3])).toArray 3 (0, 0))).step q0)
    rw [show setAll _ _ [1, 3] = [0, 2, 0, 2, 0, 0, 0, 0, 0] from rfl]
    clear q0
    simp only [tv, iv, List.map_cons, List.map_nil]
    go_wp2_with fail
    have TO := Lib.hid (to_any [0, 2, 0, 2, 0, 0, 0, 0, 0] [6, 8] 4 y1.heap.size 2 (y1.alloc (.cells (iv (nl [6, 8])).toArray 3 (0, 0))) rfl (by decide) (heap_alloc_new _ _) rfl (by omega))
    try rw [World.size_alloc] at TO
    refine TO.out.mono ?_
    clear TO
    rintro e y2 ⟨rfl, q0⟩
    have ZR := Lib.hid ((ZR.out.al (.cells (iv (nl [6, 8])).toArray 3 (0, 0))).step q0)
    rw [show setAll _ _ [6, 8] = [0, 2, 0, 2, 0, 0, 4, 0, 4] from rfl]
    clear q0
    simp only [tv, iv, List.map_cons, List.map_nil]
    go_wp2_with fail
    have TO := Lib.hid (to_any [0, 2, 0, 2, 0, 0, 4, 0, 4] [2, 7, 4] 1 y2.heap.size 3 (y2.alloc (.cells (iv (nl [2, 7, 4])).toArray 3 (0, 0))) rfl (by decide) (heap_alloc_new _ _) rfl (by omega))
    try rw [World.size_alloc] at TO
    refine TO.out.mono ?_
    clear TO
    rintro e y3 ⟨rfl, q0⟩
    have ZR := Lib.hid ((ZR.out.al (.cells (iv (nl [2, 7, 4])).toArray 3 (0, 0))).step q0)
    rw [show setAll _ _ [2, 7, 4] = [0, 2, 1, 2, 1, 0, 4, 1, 4] from rfl]
    clear q0
    simp only [tv, iv, List.map_cons, List.map_nil]
    go_wp2_with fail
    have TO := Lib.hid (to_any [0, 2, 1, 2, 1, 0, 4, 1, 4] [5] 3 y3.heap.size 1 (y3.alloc (.cells (iv (nl [5])).toArray 3 (0, 0))) rfl (by decide) (heap_alloc_new _ _) rfl (by omega))
    try rw [World.size_alloc] at TO
    refine TO.out.mono ?_
    clear TO
    rintro e y4 ⟨rfl, q0⟩
    have ZR := Lib.hid ((ZR.out.al (.cells (iv (nl [5])).toArray 3 (0, 0))).step q0)
    rw [show setAll _ _ [5] = [0, 2, 1, 2, 1, 3, 4, 1, 4] from rfl]
    clear q0
    simp only [tv, iv, List.map_cons, List.map_nil]
    have ix := index9 0 2 1 2 1 3 4 1 4 s HS.out
    go_wp2_with fail
    go_ret
    exact ⟨by rw [HZ.out]; rfl, ZR.out.2⟩
  · have hz : lookZ s = 0 := by unfold lookZ; rw [if_neg hs]
    have HZ := Lib.hid hz
    have HI := Lib.hid (isS_false hs)
    clear hz hs
    go_enter Try.func38, Try.ntmps38
    go_wp2_with fail
    refine (isState_any s _).mono ?_
    rintro e y ⟨rfl, rfl⟩
    rw [HI.out]
    go_wp2_with fail
    go_ret
    exact ⟨by rw [HZ.out]; rfl, Below.refl _ _⟩
end Go.Proofs.Ytedakoihlnokfaa
