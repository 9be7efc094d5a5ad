/- How lamps go. -/
import Derived.Test.YtedakoihlnokfaaA
namespace Go.Proofs.Ytedakoihlnokfaa
set_option linter.unusedVariables false
set_option linter.unusedSimpArgs false
open Go.ChangeShapes Go.WideShapes Go.ChangeAt Go.RowKit

def hushZ (k : Int) : Bool := (k == 5) || (k == 6)
def markZ (k : Int) : Bool := (k == 4) || (k == 5) || (k == 6)
def restZ (k : Int) : Int := if k = 2 then 4 else if k = 5 then 4 else if k = 3 then 5 else 0
def badL (b : Bool) : List Int := if b = true then [2, 1, 2, 1, 2, 2, 6, 7, 6] else [1, 1, 2, 1, 1, 1, 6, 7, 6]
def badZ (k : Int) : List Int := badL (hushZ k)
def firstZ (k : Int) : List Int := if markZ k = true then [6, 6, 2, 6, 6, 6, 6, 7, 6] else badZ k
def wellZ (k : Int) : List Int := [0, 3, restZ k, 3, 4, 5, 8, restZ k, 8]
def ackZ (k : Int) : List Int := [0, 2, 2, restZ k, 4, 5, 7, 7, restZ k]
def resL : List Int := [0, 1, 2, 3, 0, 0, 6, 7, 8]
def stayL : List Int := [0, 1, 2, 3, 4, 5, 6, 7, 8]
def tabZ (k h : Int) : List Int := if h = 1 then badZ k else if h = 2 then firstZ k else if h = 3 then wellZ k else if h = 4 then ackZ k else if h = 5 then resL else stayL
theorem badL_len (b : Bool) : (badL b).length = 9 := by cases b <;> rfl
theorem firstZ_len (k : Int) : (firstZ k).length = 9 := by unfold firstZ; split; · rfl
                                                           · exact badL_len _
theorem tabZ_len (k h : Int) : (tabZ k h).length = 9 := by
  unfold tabZ
  repeat' split
  · exact badL_len _
  · exact firstZ_len k
  all_goals rfl
def BoolP (w : World) (b : Bool) (e : Ending) (w' : World) : Prop := e = .returned (.bool b) ∧ w = w'
def IntP (w : World) (n : Int) (e : Ending) (w' : World) : Prop := e = .returned (.int .i64 n) ∧ w = w'
theorem hush_any (k : Int) (w : World) : Calls Try.prog 53 #[.int .i64 k] w (BoolP w (hushZ k)) := by
  unfold hushZ
  cases h0 : (k == 5) with
  | true =>
    go_enter Try.func53, Try.ntmps53
    go_wp2_with fail
    go_ret
    exact ⟨rfl, rfl⟩
  | false =>
    cases h1 : (k == 6) with
    | true =>
      go_enter Try.func53, Try.ntmps53
      go_wp2_with fail
      go_ret
      exact ⟨rfl, rfl⟩
    | false =>
      go_enter Try.func53, Try.ntmps53
      go_wp2_with fail
      go_ret
      exact ⟨rfl, rfl⟩
theorem mark_any (k : Int) (w : World) : Calls Try.prog 54 #[.int .i64 k] w (BoolP w (markZ k)) := by
  unfold markZ
  cases h0 : (k == 4) with
  | true =>
    go_enter Try.func54, Try.ntmps54
    go_wp2_with fail
    go_ret
    exact ⟨rfl, rfl⟩
  | false =>
    cases h1 : (k == 5) with
    | true =>
      go_enter Try.func54, Try.ntmps54
      go_wp2_with fail
      go_ret
      exact ⟨rfl, rfl⟩
    | false =>
      cases h2 : (k == 6) with
      | true =>
        go_enter Try.func54, Try.ntmps54
        go_wp2_with fail
        go_ret
        exact ⟨rfl, rfl⟩
      | false =>
        go_enter Try.func54, Try.ntmps54
        go_wp2_with fail
        go_ret
        exact ⟨rfl, rfl⟩
theorem rest_any (k : Int) (w : World) : Calls Try.prog 55 #[.int .i64 k] w (IntP w (restZ k)) := by
  by_cases h0 : k = 2
  · subst h0
    go_enter Try.func55, Try.ntmps55
    go_wp2_with fail
    go_ret
    exact ⟨rfl, rfl⟩
  by_cases h1 : k = 5
  · subst h1
    go_enter Try.func55, Try.ntmps55
    go_wp2_with fail
    go_ret
    exact ⟨rfl, rfl⟩
  by_cases h2 : k = 3
  · subst h2
    go_enter Try.func55, Try.ntmps55
    go_wp2_with fail
    go_ret
    exact ⟨rfl, rfl⟩
  have hz : restZ k = 0 := by unfold restZ; rw [if_neg h0, if_neg h1, if_neg h2]
  have HZ := Lib.hid hz
  have t0 : (k == 2) = false := by simpa using h0
  have t1 : (k == 5) = false := by simpa using h1
  have t2 : (k == 3) = false := by simpa using h2
  clear hz h0 h1 h2
  go_enter Try.func55, Try.ntmps55
  go_wp2_with fail
  go_ret
  exact ⟨by rw [HZ.out]; rfl, rfl⟩
def isS (s : Int) : Bool := decide (0 ≤ s) && decide (s < 9)
theorem isState_any (s : Int) (w : World) : Calls Try.prog 44 #[.int .i64 s] w (BoolP w (isS s)) := by
  unfold isS
  cases h1 : decide (0 ≤ s) with
  | true =>
    go_enter Try.func44, Try.ntmps44
    go_wp2_with fail
    go_ret
    exact ⟨rfl, rfl⟩
  | false =>
    go_enter Try.func44, Try.ntmps44
    go_wp2_with fail
    go_ret
    exact ⟨rfl, rfl⟩
/-- The result's cell, zeros, in a world behind. -/
def Zr (w w' : World) : Prop := w'.heap[w.heap.size]? = some (.cells (iv z9).toArray 53 (0, 0)) ∧ Below w.heap.size w w'
theorem zr_new (w : World) : Zr w (w.alloc (.cells (iv z9).toArray 53 (0, 0))) := ⟨heap_alloc_new _ _, alloc_b _ _⟩
theorem Zr.step {w a b : World} (h : Zr w a) (hb : Below a.heap.size a b) : Zr w b := ⟨low_of hb h.1, h.2.trans (hb.mono h.2.size)⟩
theorem Zr.al {w a : World} (h : Zr w a) (o : Obj) : Zr w (a.alloc o) := h.step (alloc_b _ _)
theorem Zr.cells {w a : World} (h : Zr w a) : C9 a w.heap.size 0 0 0 0 0 0 0 0 0 := c9_of (t := 53) h.1
set_option maxRecDepth 100000 in
set_option maxHeartbeats 4000000 in
theorem bad_any (k : Int) (w : World) : Calls Try.prog 48 #[.int .i64 k] w (TabP w (badZ k)) := by
  unfold badZ
  cases hh : hushZ k with
  | true =>
    have HH := Lib.hid hh
    clear hh
    have ZR := Lib.hid (zr_new w)
    go_enter Try.func48, Try.ntmps48
    go_wp2_with fail
    refine (hush_any k _).mono ?_
    rintro e y ⟨rfl, rfl⟩
    rw [HH.out]
    go_wp2_with fail
    refine (still_any _).mono ?_
    rintro e y0 ⟨rfl, q0⟩
    have ZR := Lib.hid (ZR.out.step q0)
    clear q0
    go_wp2_with fail
    refine (to_any [0, 1, 2, 3, 4, 5, 6, 7, 8] [0, 4, 5] 2 y0.heap.size 3 (y0.alloc (.cells (iv (nl [0, 4, 5])).toArray 3 (0, 0))) rfl (by decide) (heap_alloc_new _ _) rfl (by omega)).mono ?_
    rintro e y1 ⟨rfl, q0⟩
    have ZR := Lib.hid ((ZR.out.al (.cells (iv (nl [0, 4, 5])).toArray 3 (0, 0))).step q0)
    rw [show setAll _ _ [0, 4, 5] = [2, 1, 2, 3, 2, 2, 6, 7, 8] from rfl]
    clear q0
    simp only [tv, iv, List.map_cons, List.map_nil]
    go_wp2_with fail
    refine (to_any [2, 1, 2, 3, 2, 2, 6, 7, 8] [3] 1 y1.heap.size 1 (y1.alloc (.cells (iv (nl [3])).toArray 3 (0, 0))) rfl (by decide) (heap_alloc_new _ _) rfl (by omega)).mono ?_
    rintro e y2 ⟨rfl, q0⟩
    have ZR := Lib.hid ((ZR.out.al (.cells (iv (nl [3])).toArray 3 (0, 0))).step q0)
    rw [show setAll _ _ [3] = [2, 1, 2, 1, 2, 2, 6, 7, 8] from rfl]
    clear q0
    simp only [tv, iv, List.map_cons, List.map_nil]
    go_wp2_with fail
    refine (to_any [2, 1, 2, 1, 2, 2, 6, 7, 8] [8] 6 y2.heap.size 1 (y2.alloc (.cells (iv (nl [8])).toArray 3 (0, 0))) rfl (by decide) (heap_alloc_new _ _) rfl (by omega)).mono ?_
    rintro e y3 ⟨rfl, q0⟩
    have ZR := Lib.hid ((ZR.out.al (.cells (iv (nl [8])).toArray 3 (0, 0))).step q0)
    rw [show setAll _ _ [8] = [2, 1, 2, 1, 2, 2, 6, 7, 6] from rfl]
    clear q0
    simp only [tv, iv, List.map_cons, List.map_nil]
    have hF := Lib.hid (st9_block (L := z9) rfl ZR.out.1 2 1 2 1 2 2 6 7 6)
    have hB := Lib.hid (st9_below ZR.out.2 (Nat.le_refl _) 2 1 2 1 2 2 6 7 6)
    obtain ⟨d0, d1, d2, d3, d4, d5, d6, d7, d8, f0, f1, f2, f3, f4, f5, f6, f7, f8⟩ := ZR.out.cells
    go_wp2_with fail
    show bodyPost Try.prog Try.f48 _ Exit.ret _ (st9 y3 w.heap.size 2 1 2 1 2 2 6 7 6)
    have hF := hF.out
    have hB := hB.out
    generalize st9 y3 w.heap.size 2 1 2 1 2 2 6 7 6 = wF at hF hB ⊢
    obtain ⟨g0, g1, g2, g3, g4, g5, g6, g7, g8, _, _, _, _, _, _, _, _, _⟩ := c9_of hF
    exact bodyPost_ret (v := tv [2, 1, 2, 1, 2, 2, 6, 7, 6]) (by simp [results, Try.results48, go_sem, g0, g1, g2, g3, g4, g5, g6, g7, g8, tv, iv]) rfl ⟨rfl, hB⟩
  | false =>
    have HH := Lib.hid hh
    clear hh
    have ZR := Lib.hid (zr_new w)
    go_enter Try.func48, Try.ntmps48
    go_wp2_with fail
    refine (hush_any k _).mono ?_
    rintro e y ⟨rfl, rfl⟩
    rw [HH.out]
    go_wp2_with fail
    refine (still_any _).mono ?_
    rintro e y0 ⟨rfl, q0⟩
    have ZR := Lib.hid (ZR.out.step q0)
    clear q0
    go_wp2_with fail
    refine (to_any [0, 1, 2, 3, 4, 5, 6, 7, 8] [0, 4, 5] 1 y0.heap.size 3 (y0.alloc (.cells (iv (nl [0, 4, 5])).toArray 3 (0, 0))) rfl (by decide) (heap_alloc_new _ _) rfl (by omega)).mono ?_
    rintro e y1 ⟨rfl, q0⟩
    have ZR := Lib.hid ((ZR.out.al (.cells (iv (nl [0, 4, 5])).toArray 3 (0, 0))).step q0)
    rw [show setAll _ _ [0, 4, 5] = [1, 1, 2, 3, 1, 1, 6, 7, 8] from rfl]
    clear q0
    simp only [tv, iv, List.map_cons, List.map_nil]
    go_wp2_with fail
    refine (to_any [1, 1, 2, 3, 1, 1, 6, 7, 8] [3] 1 y1.heap.size 1 (y1.alloc (.cells (iv (nl [3])).toArray 3 (0, 0))) rfl (by decide) (heap_alloc_new _ _) rfl (by omega)).mono ?_
    rintro e y2 ⟨rfl, q0⟩
    have ZR := Lib.hid ((ZR.out.al (.cells (iv (nl [3])).toArray 3 (0, 0))).step q0)
    rw [show setAll _ _ [3] = [1, 1, 2, 1, 1, 1, 6, 7, 8] from rfl]
    clear q0
    simp only [tv, iv, List.map_cons, List.map_nil]
    go_wp2_with fail
    refine (to_any [1, 1, 2, 1, 1, 1, 6, 7, 8] [8] 6 y2.heap.size 1 (y2.alloc (.cells (iv (nl [8])).toArray 3 (0, 0))) rfl (by decide) (heap_alloc_new _ _) rfl (by omega)).mono ?_
    rintro e y3 ⟨rfl, q0⟩
    have ZR := Lib.hid ((ZR.out.al (.cells (iv (nl [8])).toArray 3 (0, 0))).step q0)
    rw [show setAll _ _ [8] = [1, 1, 2, 1, 1, 1, 6, 7, 6] from rfl]
    clear q0
    simp only [tv, iv, List.map_cons, List.map_nil]
    have hF := Lib.hid (st9_block (L := z9) rfl ZR.out.1 1 1 2 1 1 1 6 7 6)
    have hB := Lib.hid (st9_below ZR.out.2 (Nat.le_refl _) 1 1 2 1 1 1 6 7 6)
    obtain ⟨d0, d1, d2, d3, d4, d5, d6, d7, d8, f0, f1, f2, f3, f4, f5, f6, f7, f8⟩ := ZR.out.cells
    go_wp2_with fail
    show bodyPost Try.prog Try.f48 _ Exit.ret _ (st9 y3 w.heap.size 1 1 2 1 1 1 6 7 6)
    have hF := hF.out
    have hB := hB.out
    generalize st9 y3 w.heap.size 1 1 2 1 1 1 6 7 6 = wF at hF hB ⊢
    obtain ⟨g0, g1, g2, g3, g4, g5, g6, g7, g8, _, _, _, _, _, _, _, _, _⟩ := c9_of hF
    exact bodyPost_ret (v := tv [1, 1, 2, 1, 1, 1, 6, 7, 6]) (by simp [results, Try.results48, go_sem, g0, g1, g2, g3, g4, g5, g6, g7, g8, tv, iv]) rfl ⟨rfl, hB⟩
set_option maxRecDepth 100000 in
set_option maxHeartbeats 4000000 in
theorem first_any (k : Int) (w : World) : Calls Try.prog 49 #[.int .i64 k] w (TabP w (firstZ k)) := by
  cases hh : markZ k with
  | true =>
    have hz : firstZ k = [6, 6, 2, 6, 6, 6, 6, 7, 6] := by unfold firstZ; rw [if_pos hh]
    have HZ := Lib.hid hz
    have HH := Lib.hid hh
    clear hh hz
    have ZR := Lib.hid (zr_new w)
    go_enter Try.func49, Try.ntmps49
    go_wp2_with fail
    refine (mark_any k _).mono ?_
    rintro e y ⟨rfl, rfl⟩
    rw [HH.out]
    go_wp2_with fail
    refine (still_any _).mono ?_
    rintro e y0 ⟨rfl, q0⟩
    have ZR := Lib.hid (ZR.out.step q0)
    clear q0
    go_wp2_with fail
    refine (to_any [0, 1, 2, 3, 4, 5, 6, 7, 8] [0, 4, 5, 1, 3, 8] 6 y0.heap.size 6 (y0.alloc (.cells (iv (nl [0, 4, 5, 1, 3, 8])).toArray 3 (0, 0))) rfl (by decide) (heap_alloc_new _ _) rfl (by omega)).mono ?_
    rintro e y1 ⟨rfl, q0⟩
    have ZR := Lib.hid ((ZR.out.al (.cells (iv (nl [0, 4, 5, 1, 3, 8])).toArray 3 (0, 0))).step q0)
    rw [show setAll _ _ [0, 4, 5, 1, 3, 8] = [6, 6, 2, 6, 6, 6, 6, 7, 6] from rfl]
    clear q0
    simp only [tv, iv, List.map_cons, List.map_nil]
    have hF := Lib.hid (st9_block (L := z9) rfl ZR.out.1 6 6 2 6 6 6 6 7 6)
    have hB := Lib.hid (st9_below ZR.out.2 (Nat.le_refl _) 6 6 2 6 6 6 6 7 6)
    obtain ⟨d0, d1, d2, d3, d4, d5, d6, d7, d8, f0, f1, f2, f3, f4, f5, f6, f7, f8⟩ := ZR.out.cells
    go_wp2_with fail
    rw [HZ.out]
    show bodyPost Try.prog Try.f49 _ Exit.ret _ (st9 y1 w.heap.size 6 6 2 6 6 6 6 7 6)
    have hF := hF.out
    have hB := hB.out
    generalize st9 y1 w.heap.size 6 6 2 6 6 6 6 7 6 = wF at hF hB ⊢
    obtain ⟨g0, g1, g2, g3, g4, g5, g6, g7, g8, _, _, _, _, _, _, _, _, _⟩ := c9_of hF
    exact bodyPost_ret (v := tv [6, 6, 2, 6, 6, 6, 6, 7, 6]) (by simp [results, Try.results49, go_sem, g0, g1, g2, g3, g4, g5, g6, g7, g8, tv, iv]) rfl ⟨rfl, hB⟩
  | false =>
    have hz : firstZ k = badZ k := by unfold firstZ; rw [if_neg (by rw [hh]; decide)]
    have HZ := Lib.hid hz
    have HH := Lib.hid hh
    clear hh hz
    have ZR := Lib.hid (zr_new w)
    go_enter Try.func49, Try.ntmps49
    go_wp2_with fail
    refine (mark_any k _).mono ?_
    rintro e y ⟨rfl, rfl⟩
    rw [HH.out]
    go_wp2_with fail
    refine (bad_any k _).mono ?_
    rintro e y0 ⟨rfl, q0⟩
    have ZR := Lib.hid (ZR.out.step q0)
    obtain ⟨b0, b1, b2, b3, b4, b5, b6, b7, b8, hb9⟩ := list9 (badL_len (hushZ k))
    have hb9 : badZ k = _ := hb9
    rw [hb9]
    have HB9 := Lib.hid hb9
    clear q0 hb9
    simp only [tv, iv, List.map_cons, List.map_nil]
    have hF := Lib.hid (st9_block (L := z9) rfl ZR.out.1 b0 b1 b2 b3 b4 b5 b6 b7 b8)
    have hB := Lib.hid (st9_below ZR.out.2 (Nat.le_refl _) b0 b1 b2 b3 b4 b5 b6 b7 b8)
    obtain ⟨d0, d1, d2, d3, d4, d5, d6, d7, d8, f0, f1, f2, f3, f4, f5, f6, f7, f8⟩ := ZR.out.cells
    go_wp2_with fail
    rw [HZ.out, HB9.out]
    show bodyPost Try.prog Try.f49 _ Exit.ret _ (st9 y0 w.heap.size b0 b1 b2 b3 b4 b5 b6 b7 b8)
    have hF := hF.out
    have hB := hB.out
    generalize st9 y0 w.heap.size b0 b1 b2 b3 b4 b5 b6 b7 b8 = wF at hF hB ⊢
    obtain ⟨g0, g1, g2, g3, g4, g5, g6, g7, g8, _, _, _, _, _, _, _, _, _⟩ := c9_of hF
    exact bodyPost_ret (v := tv [b0, b1, b2, b3, b4, b5, b6, b7, b8]) (by simp [results, Try.results49, go_sem, g0, g1, g2, g3, g4, g5, g6, g7, g8, tv, iv]) rfl ⟨rfl, hB⟩
set_option maxRecDepth 100000 in
set_option maxHeartbeats 4000000 in
theorem well_any (k : Int) (w : World) : Calls Try.prog 50 #[.int .i64 k] w (TabP w (wellZ k)) := by
  unfold wellZ
  have ZR := Lib.hid (zr_new w)
  go_enter Try.func50, Try.ntmps50
  go_wp2_with fail
  refine (still_any _).mono ?_
  rintro e y0 ⟨rfl, q0⟩
  have ZR := Lib.hid (ZR.out.step q0)
  clear q0
  go_wp2_with fail
  refine (to_any [0, 1, 2, 3, 4, 5, 6, 7, 8] [1] 3 y0.heap.size 1 (y0.alloc (.cells (iv (nl [1])).toArray 3 (0, 0))) rfl (by decide) (heap_alloc_new _ _) rfl (by omega)).mono ?_
  rintro e y1 ⟨rfl, q0⟩
  have ZR := Lib.hid ((ZR.out.al (.cells (iv (nl [1])).toArray 3 (0, 0))).step q0)
  rw [show setAll _ _ [1] = [0, 3, 2, 3, 4, 5, 6, 7, 8] from rfl]
  clear q0
  simp only [tv, iv, List.map_cons, List.map_nil]
  go_wp2_with fail
  refine (to_any [0, 3, 2, 3, 4, 5, 6, 7, 8] [6] 8 y1.heap.size 1 (y1.alloc (.cells (iv (nl [6])).toArray 3 (0, 0))) rfl (by decide) (heap_alloc_new _ _) rfl (by omega)).mono ?_
  rintro e y2 ⟨rfl, q0⟩
  have ZR := Lib.hid ((ZR.out.al (.cells (iv (nl [6])).toArray 3 (0, 0))).step q0)
  rw [show setAll _ _ [6] = [0, 3, 2, 3, 4, 5, 8, 7, 8] from rfl]
  clear q0
  simp only [tv, iv, List.map_cons, List.map_nil]
  go_wp2_with fail
  refine (rest_any k _).mono ?_
  rintro e yr ⟨rfl, rfl⟩
  go_wp2_with fail
  refine (to_any [0, 3, 2, 3, 4, 5, 8, 7, 8] [2, 7] ((restZ k)) y2.heap.size 2 (y2.alloc (.cells (iv (nl [2, 7])).toArray 3 (0, 0))) rfl (by decide) (heap_alloc_new _ _) rfl (by omega)).mono ?_
  rintro e y3 ⟨rfl, q0⟩
  have ZR := Lib.hid ((ZR.out.al (.cells (iv (nl [2, 7])).toArray 3 (0, 0))).step q0)
  rw [show setAll _ _ [2, 7] = [0, 3, (restZ k), 3, 4, 5, 8, (restZ k), 8] from rfl]
  clear q0
  simp only [tv, iv, List.map_cons, List.map_nil]
  have hF := Lib.hid (st9_block (L := z9) rfl ZR.out.1 0 3 ((restZ k)) 3 4 5 8 ((restZ k)) 8)
  have hB := Lib.hid (st9_below ZR.out.2 (Nat.le_refl _) 0 3 ((restZ k)) 3 4 5 8 ((restZ k)) 8)
  obtain ⟨d0, d1, d2, d3, d4, d5, d6, d7, d8, f0, f1, f2, f3, f4, f5, f6, f7, f8⟩ := ZR.out.cells
  go_wp2_with fail
  show bodyPost Try.prog Try.f50 _ Exit.ret _ (st9 y3 w.heap.size 0 3 ((restZ k)) 3 4 5 8 ((restZ k)) 8)
  have hF := hF.out
  have hB := hB.out
  generalize st9 y3 w.heap.size 0 3 ((restZ k)) 3 4 5 8 ((restZ k)) 8 = wF at hF hB ⊢
  obtain ⟨g0, g1, g2, g3, g4, g5, g6, g7, g8, _, _, _, _, _, _, _, _, _⟩ := c9_of hF
  exact bodyPost_ret (v := tv [0, 3, (restZ k), 3, 4, 5, 8, (restZ k), 8]) (by simp [results, Try.results50, go_sem, g0, g1, g2, g3, g4, g5, g6, g7, g8, tv, iv]) rfl ⟨rfl, hB⟩
set_option maxRecDepth 100000 in
set_option maxHeartbeats 4000000 in
theorem ack_any (k : Int) (w : World) : Calls Try.prog 51 #[.int .i64 k] w (TabP w (ackZ k)) := by
  unfold ackZ
  have ZR := Lib.hid (zr_new w)
  go_enter Try.func51, Try.ntmps51
  go_wp2_with fail
  refine (still_any _).mono ?_
  rintro e y0 ⟨rfl, q0⟩
  have ZR := Lib.hid (ZR.out.step q0)
  clear q0
  go_wp2_with fail
  refine (to_any [0, 1, 2, 3, 4, 5, 6, 7, 8] [1] 2 y0.heap.size 1 (y0.alloc (.cells (iv (nl [1])).toArray 3 (0, 0))) rfl (by decide) (heap_alloc_new _ _) rfl (by omega)).mono ?_
  rintro e y1 ⟨rfl, q0⟩
  have ZR := Lib.hid ((ZR.out.al (.cells (iv (nl [1])).toArray 3 (0, 0))).step q0)
  rw [show setAll _ _ [1] = [0, 2, 2, 3, 4, 5, 6, 7, 8] from rfl]
  clear q0
  simp only [tv, iv, List.map_cons, List.map_nil]
  go_wp2_with fail
  refine (to_any [0, 2, 2, 3, 4, 5, 6, 7, 8] [6] 7 y1.heap.size 1 (y1.alloc (.cells (iv (nl [6])).toArray 3 (0, 0))) rfl (by decide) (heap_alloc_new _ _) rfl (by omega)).mono ?_
  rintro e y2 ⟨rfl, q0⟩
  have ZR := Lib.hid ((ZR.out.al (.cells (iv (nl [6])).toArray 3 (0, 0))).step q0)
  rw [show setAll _ _ [6] = [0, 2, 2, 3, 4, 5, 7, 7, 8] from rfl]
  clear q0
  simp only [tv, iv, List.map_cons, List.map_nil]
  go_wp2_with fail
  refine (rest_any k _).mono ?_
  rintro e yr ⟨rfl, rfl⟩
  go_wp2_with fail
  refine (to_any [0, 2, 2, 3, 4, 5, 7, 7, 8] [3, 8] ((restZ k)) y2.heap.size 2 (y2.alloc (.cells (iv (nl [3, 8])).toArray 3 (0, 0))) rfl (by decide) (heap_alloc_new _ _) rfl (by omega)).mono ?_
  rintro e y3 ⟨rfl, q0⟩
  have ZR := Lib.hid ((ZR.out.al (.cells (iv (nl [3, 8])).toArray 3 (0, 0))).step q0)
  rw [show setAll _ _ [3, 8] = [0, 2, 2, (restZ k), 4, 5, 7, 7, (restZ k)] from rfl]
  clear q0
  simp only [tv, iv, List.map_cons, List.map_nil]
  have hF := Lib.hid (st9_block (L := z9) rfl ZR.out.1 0 2 2 ((restZ k)) 4 5 7 7 ((restZ k)))
  have hB := Lib.hid (st9_below ZR.out.2 (Nat.le_refl _) 0 2 2 ((restZ k)) 4 5 7 7 ((restZ k)))
  obtain ⟨d0, d1, d2, d3, d4, d5, d6, d7, d8, f0, f1, f2, f3, f4, f5, f6, f7, f8⟩ := ZR.out.cells
  go_wp2_with fail
  show bodyPost Try.prog Try.f51 _ Exit.ret _ (st9 y3 w.heap.size 0 2 2 ((restZ k)) 4 5 7 7 ((restZ k)))
  have hF := hF.out
  have hB := hB.out
  generalize st9 y3 w.heap.size 0 2 2 ((restZ k)) 4 5 7 7 ((restZ k)) = wF at hF hB ⊢
  obtain ⟨g0, g1, g2, g3, g4, g5, g6, g7, g8, _, _, _, _, _, _, _, _, _⟩ := c9_of hF
  exact bodyPost_ret (v := tv [0, 2, 2, (restZ k), 4, 5, 7, 7, (restZ k)]) (by simp [results, Try.results51, go_sem, g0, g1, g2, g3, g4, g5, g6, g7, g8, tv, iv]) rfl ⟨rfl, hB⟩
set_option maxRecDepth 100000 in
set_option maxHeartbeats 4000000 in
theorem tableOf_any (k h : Int) (w : World) : Calls Try.prog 47 #[.int .i64 k, .int .i64 h] w (TabP w (tabZ k h)) := by
  by_cases h0 : h = 1
  · subst h0
    have hz : tabZ k 1 = badZ k := by simp [tabZ]
    obtain ⟨b0, b1, b2, b3, b4, b5, b6, b7, b8, hb9⟩ := list9 (hz ▸ tabZ_len k 1)
    have HB9 := Lib.hid hb9
    have HZ := Lib.hid hz
    clear hz hb9
    have ZR := Lib.hid (zr_new w)
    go_enter Try.func47, Try.ntmps47
    go_wp2_with fail
    refine (bad_any k _).mono ?_
    rintro e y0 ⟨rfl, q0⟩
    have ZR := Lib.hid (ZR.out.step q0)
    clear q0
    rw [HB9.out]
    simp only [tv, iv, List.map_cons, List.map_nil]
    have hF := Lib.hid (st9_block (L := z9) rfl ZR.out.1 b0 b1 b2 b3 b4 b5 b6 b7 b8)
    have hB := Lib.hid (st9_below ZR.out.2 (Nat.le_refl _) b0 b1 b2 b3 b4 b5 b6 b7 b8)
    obtain ⟨d0, d1, d2, d3, d4, d5, d6, d7, d8, f0, f1, f2, f3, f4, f5, f6, f7, f8⟩ := ZR.out.cells
    go_wp2_with fail
    rw [HZ.out, HB9.out]
    show bodyPost Try.prog Try.f47 _ Exit.ret _ (st9 y0 w.heap.size b0 b1 b2 b3 b4 b5 b6 b7 b8)
    have hF := hF.out
    have hB := hB.out
    generalize st9 y0 w.heap.size b0 b1 b2 b3 b4 b5 b6 b7 b8 = wF at hF hB ⊢
    obtain ⟨g0, g1, g2, g3, g4, g5, g6, g7, g8, _, _, _, _, _, _, _, _, _⟩ := c9_of hF
    exact bodyPost_ret (v := tv [b0, b1, b2, b3, b4, b5, b6, b7, b8]) (by simp [results, Try.results47, go_sem, g0, g1, g2, g3, g4, g5, g6, g7, g8, tv, iv]) rfl ⟨rfl, hB⟩
  by_cases h1 : h = 2
  · subst h1
    have hz : tabZ k 2 = firstZ k := by simp [tabZ]
    obtain ⟨b0, b1, b2, b3, b4, b5, b6, b7, b8, hb9⟩ := list9 (hz ▸ tabZ_len k 2)
    have HB9 := Lib.hid hb9
    have HZ := Lib.hid hz
    clear hz hb9
    have ZR := Lib.hid (zr_new w)
    go_enter Try.func47, Try.ntmps47
    go_wp2_with fail
    refine (first_any k _).mono ?_
    rintro e y0 ⟨rfl, q0⟩
    have ZR := Lib.hid (ZR.out.step q0)
    clear q0
    rw [HB9.out]
    simp only [tv, iv, List.map_cons, List.map_nil]
    have hF := Lib.hid (st9_block (L := z9) rfl ZR.out.1 b0 b1 b2 b3 b4 b5 b6 b7 b8)
    have hB := Lib.hid (st9_below ZR.out.2 (Nat.le_refl _) b0 b1 b2 b3 b4 b5 b6 b7 b8)
    obtain ⟨d0, d1, d2, d3, d4, d5, d6, d7, d8, f0, f1, f2, f3, f4, f5, f6, f7, f8⟩ := ZR.out.cells
    go_wp2_with fail
    rw [HZ.out, HB9.out]
    show bodyPost Try.prog Try.f47 _ Exit.ret _ (st9 y0 w.heap.size b0 b1 b2 b3 b4 b5 b6 b7 b8)
    have hF := hF.out
    have hB := hB.out
    generalize st9 y0 w.heap.size b0 b1 b2 b3 b4 b5 b6 b7 b8 = wF at hF hB ⊢
    obtain ⟨g0, g1, g2, g3, g4, g5, g6, g7, g8, _, _, _, _, _, _, _, _, _⟩ := c9_of hF
    exact bodyPost_ret (v := tv [b0, b1, b2, b3, b4, b5, b6, b7, b8]) (by simp [results, Try.results47, go_sem, g0, g1, g2, g3, g4, g5, g6, g7, g8, tv, iv]) rfl ⟨rfl, hB⟩
  by_cases h2 : h = 3
  · subst h2
    have hz : tabZ k 3 = wellZ k := by simp [tabZ]
    obtain ⟨b0, b1, b2, b3, b4, b5, b6, b7, b8, hb9⟩ := list9 (hz ▸ tabZ_len k 3)
    have HB9 := Lib.hid hb9
    have HZ := Lib.hid hz
    clear hz hb9
    have ZR := Lib.hid (zr_new w)
    go_enter Try.func47, Try.ntmps47
    go_wp2_with fail
    refine (well_any k _).mono ?_
    rintro e y0 ⟨rfl, q0⟩
    have ZR := Lib.hid (ZR.out.step q0)
    clear q0
    rw [HB9.out]
    simp only [tv, iv, List.map_cons, List.map_nil]
    have hF := Lib.hid (st9_block (L := z9) rfl ZR.out.1 b0 b1 b2 b3 b4 b5 b6 b7 b8)
    have hB := Lib.hid (st9_below ZR.out.2 (Nat.le_refl _) b0 b1 b2 b3 b4 b5 b6 b7 b8)
    obtain ⟨d0, d1, d2, d3, d4, d5, d6, d7, d8, f0, f1, f2, f3, f4, f5, f6, f7, f8⟩ := ZR.out.cells
    go_wp2_with fail
    rw [HZ.out, HB9.out]
    show bodyPost Try.prog Try.f47 _ Exit.ret _ (st9 y0 w.heap.size b0 b1 b2 b3 b4 b5 b6 b7 b8)
    have hF := hF.out
    have hB := hB.out
    generalize st9 y0 w.heap.size b0 b1 b2 b3 b4 b5 b6 b7 b8 = wF at hF hB ⊢
    obtain ⟨g0, g1, g2, g3, g4, g5, g6, g7, g8, _, _, _, _, _, _, _, _, _⟩ := c9_of hF
    exact bodyPost_ret (v := tv [b0, b1, b2, b3, b4, b5, b6, b7, b8]) (by simp [results, Try.results47, go_sem, g0, g1, g2, g3, g4, g5, g6, g7, g8, tv, iv]) rfl ⟨rfl, hB⟩
  by_cases h3 : h = 4
  · subst h3
    have hz : tabZ k 4 = ackZ k := by simp [tabZ]
    obtain ⟨b0, b1, b2, b3, b4, b5, b6, b7, b8, hb9⟩ := list9 (hz ▸ tabZ_len k 4)
    have HB9 := Lib.hid hb9
    have HZ := Lib.hid hz
    clear hz hb9
    have ZR := Lib.hid (zr_new w)
    go_enter Try.func47, Try.ntmps47
    go_wp2_with fail
    refine (ack_any k _).mono ?_
    rintro e y0 ⟨rfl, q0⟩
    have ZR := Lib.hid (ZR.out.step q0)
    clear q0
    rw [HB9.out]
    simp only [tv, iv, List.map_cons, List.map_nil]
    have hF := Lib.hid (st9_block (L := z9) rfl ZR.out.1 b0 b1 b2 b3 b4 b5 b6 b7 b8)
    have hB := Lib.hid (st9_below ZR.out.2 (Nat.le_refl _) b0 b1 b2 b3 b4 b5 b6 b7 b8)
    obtain ⟨d0, d1, d2, d3, d4, d5, d6, d7, d8, f0, f1, f2, f3, f4, f5, f6, f7, f8⟩ := ZR.out.cells
    go_wp2_with fail
    rw [HZ.out, HB9.out]
    show bodyPost Try.prog Try.f47 _ Exit.ret _ (st9 y0 w.heap.size b0 b1 b2 b3 b4 b5 b6 b7 b8)
    have hF := hF.out
    have hB := hB.out
    generalize st9 y0 w.heap.size b0 b1 b2 b3 b4 b5 b6 b7 b8 = wF at hF hB ⊢
    obtain ⟨g0, g1, g2, g3, g4, g5, g6, g7, g8, _, _, _, _, _, _, _, _, _⟩ := c9_of hF
    exact bodyPost_ret (v := tv [b0, b1, b2, b3, b4, b5, b6, b7, b8]) (by simp [results, Try.results47, go_sem, g0, g1, g2, g3, g4, g5, g6, g7, g8, tv, iv]) rfl ⟨rfl, hB⟩
  have t0 : (h == 1) = false := by simpa using h0
  have t1 : (h == 2) = false := by simpa using h1
  have t2 : (h == 3) = false := by simpa using h2
  have t3 : (h == 4) = false := by simpa using h3
  by_cases h4 : h = 5
  · subst h4
    have hz : tabZ k 5 = [0, 1, 2, 3, 0, 0, 6, 7, 8] := by simp [tabZ, resL]
    have HZ := Lib.hid hz
    clear hz h0 h1 h2 h3 t0 t1 t2 t3
    have ZR := Lib.hid (zr_new w)
    go_enter Try.func47, Try.ntmps47
    go_wp2_with fail
    refine (still_any _).mono ?_
    rintro e y0 ⟨rfl, q0⟩
    have ZR := Lib.hid (ZR.out.step q0)
    clear q0
    go_wp2_with fail
    refine (to_any [0, 1, 2, 3, 4, 5, 6, 7, 8] [4, 5] 0 y0.heap.size 2 (y0.alloc (.cells (iv (nl [4, 5])).toArray 3 (0, 0))) rfl (by decide) (heap_alloc_new _ _) rfl (by omega)).mono ?_
    rintro e y1 ⟨rfl, q0⟩
    have ZR := Lib.hid ((ZR.out.al (.cells (iv (nl [4, 5])).toArray 3 (0, 0))).step q0)
    rw [show setAll _ _ [4, 5] = [0, 1, 2, 3, 0, 0, 6, 7, 8] from rfl]
    clear q0
    simp only [tv, iv, List.map_cons, List.map_nil]
    have hF := Lib.hid (st9_block (L := z9) rfl ZR.out.1 0 1 2 3 0 0 6 7 8)
    have hB := Lib.hid (st9_below ZR.out.2 (Nat.le_refl _) 0 1 2 3 0 0 6 7 8)
    obtain ⟨d0, d1, d2, d3, d4, d5, d6, d7, d8, f0, f1, f2, f3, f4, f5, f6, f7, f8⟩ := ZR.out.cells
    go_wp2_with fail
    rw [HZ.out]
    show bodyPost Try.prog Try.f47 _ Exit.ret _ (st9 y1 w.heap.size 0 1 2 3 0 0 6 7 8)
    have hF := hF.out
    have hB := hB.out
    generalize st9 y1 w.heap.size 0 1 2 3 0 0 6 7 8 = wF at hF hB ⊢
    obtain ⟨g0, g1, g2, g3, g4, g5, g6, g7, g8, _, _, _, _, _, _, _, _, _⟩ := c9_of hF
    exact bodyPost_ret (v := tv [0, 1, 2, 3, 0, 0, 6, 7, 8]) (by simp [results, Try.results47, go_sem, g0, g1, g2, g3, g4, g5, g6, g7, g8, tv, iv]) rfl ⟨rfl, hB⟩
  · have t4 : (h == 5) = false := by simpa using h4
    have hz : tabZ k h = [0, 1, 2, 3, 4, 5, 6, 7, 8] := by simp [tabZ, h0, h1, h2, h3, h4, stayL]
    have HZ := Lib.hid hz
    clear hz h0 h1 h2 h3 h4
    have ZR := Lib.hid (zr_new w)
    go_enter Try.func47, Try.ntmps47
    go_wp2_with fail
    refine (still_any _).mono ?_
    rintro e y0 ⟨rfl, q0⟩
    have ZR := Lib.hid (ZR.out.step q0)
    clear q0
    simp only [tv, iv, List.map_cons, List.map_nil]
    have hF := Lib.hid (st9_block (L := z9) rfl ZR.out.1 0 1 2 3 4 5 6 7 8)
    have hB := Lib.hid (st9_below ZR.out.2 (Nat.le_refl _) 0 1 2 3 4 5 6 7 8)
    obtain ⟨d0, d1, d2, d3, d4, d5, d6, d7, d8, f0, f1, f2, f3, f4, f5, f6, f7, f8⟩ := ZR.out.cells
    go_wp2_with fail
    rw [HZ.out]
    show bodyPost Try.prog Try.f47 _ Exit.ret _ (st9 y0 w.heap.size 0 1 2 3 4 5 6 7 8)
    have hF := hF.out
    have hB := hB.out
    generalize st9 y0 w.heap.size 0 1 2 3 4 5 6 7 8 = wF at hF hB ⊢
    obtain ⟨g0, g1, g2, g3, g4, g5, g6, g7, g8, _, _, _, _, _, _, _, _, _⟩ := c9_of hF
    exact bodyPost_ret (v := tv [0, 1, 2, 3, 4, 5, 6, 7, 8]) (by simp [results, Try.results47, go_sem, g0, g1, g2, g3, g4, g5, g6, g7, g8, tv, iv]) rfl ⟨rfl, hB⟩
end Go.Proofs.Ytedakoihlnokfaa
