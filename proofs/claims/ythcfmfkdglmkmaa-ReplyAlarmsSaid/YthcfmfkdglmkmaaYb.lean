/- The live question. -/
import Derived.Test.YthcfmfkdglmkmaaYa
namespace Go.Proofs.Ythcfmfkdglmkmaa
set_option linter.unusedVariables false
set_option linter.unusedSimpArgs false
open Go.ChangeShapes Go.WideShapes Go.ChangeAt Go.RowKit

def r1q : Rq := ⟨3, 0, 1, none, 0, 0, [], 0⟩
def r2q : Rq := ⟨1, 0, 3, none, 0, 0, [], 0⟩
theorem v1 : (if okR r1q 0 [7] = true then repN r1q 0 [7] else []) = [3, 2, 0, 7] := by decide +kernel
theorem v2 : getF r1q [131, 2] = ((2, []), 52) := by decide +kernel
theorem v3 : getF r2q [1, 1, 5] = ((0, [1, 0, 1]), 0) := by decide +kernel
theorem v4 : getF r2q [1, 1, 13] = ((0, []), 51) := by decide +kernel
theorem v5 : alN [7, 1] 1 = [135, 1] := by decide +kernel
theorem v6 : okR r1q 4 [] = true := by decide +kernel
theorem v7 : okR r1q 0 [] = false := by decide +kernel
theorem ok1 (w : World) : r1q.ok w := ⟨argW_none _, by decide, by decide, by decide, by decide⟩
theorem ok2 (w : World) : r2q.ok w := ⟨argW_none _, by decide, by decide, by decide, by decide⟩
theorem arg_new (w : World) (L : List Nat) (hl : L.length ≤ 1000) (hb : ∀ b ∈ L, b < 256) : ArgB (w.alloc (.cells (bv L).toArray 5 (0, 0))) (some ⟨w.heap.size, 0, none⟩) L.length L.length L :=
  ⟨bys_block L (by unfold maxLen; omega) hb (heap_alloc_new _ _), (fun e => by cases e), Nat.le_refl _, by unfold maxLen; omega⟩
theorem argw_new (w : World) (L : List Nat) (hl : L.length ≤ 1000) (hb : ∀ b ∈ L, b < 65536) : ArgW (w.alloc (.cells (wv L).toArray 44 (0, 0))) (some ⟨w.heap.size, 0, none⟩) L.length L.length L :=
  ⟨wds_block L (by unfold maxLen; omega) hb (heap_alloc_new _ _), (fun e => by cases e), Nat.le_refl _, by unfold maxLen; omega⟩
theorem get_new (r : Rq) (w : World) (L : List Nat) (hr : ∀ W, r.ok W) (hl : L.length ≤ 1000) (hb : ∀ b ∈ L, b < 256) (x : (Int × List Nat) × Int) (hx : getF r L = x) :
    Calls Try.prog 11 #[rv r, .slice (some ⟨w.heap.size, 0, none⟩) L.length L.length] (w.alloc (.cells (bv L).toArray 5 (0, 0))) (fun e w' => ∃ a n c, e = .returned (.tuple #[.agg #[.int .i64 x.1.1, .slice a n c], .int .i64 x.2]) ∧ ArgW w' a n c x.1.2 ∧ Below w.heap.size w w') := by
  have := getQ_any r _ _ _ L (w.alloc (.cells (bv L).toArray 5 (0, 0))) (hr _) (arg_new w L hl hb) (by omega)
  rw [hx] at this
  refine this.mono ?_
  rintro e w' ⟨a, n, c, rfl, h1, h2⟩
  exact ⟨a, n, c, rfl, h1, (alloc_bq w _).trans (h2.mono (by simp))⟩
set_option maxRecDepth 100000 in
set_option maxHeartbeats 8000000 in
theorem head_any (w : World) : Calls Try.prog 7 #[] w (BoolB w true) := by
  obtain ⟨P, hP⟩ : ∃ P, P = (BoolB w true : Ending → World → Prop) := ⟨_, rfl⟩
  rw [← hP]
  have HP := Lib.hid hP
  clear hP
  obtain ⟨W1, hW1⟩ : ∃ W1, W1 = w.alloc (.cells #[.int .i64 3, .int .i64 0, .int .i64 1, .slice none 0 0, .int .i64 0] 24 (0, 0)) := ⟨_, rfl⟩
  have Q1 : Hid (W1.heap[w.heap.size]? = some (.cells #[.int .i64 3, .int .i64 0, .int .i64 1, .slice none 0 0, .int .i64 0] 24 (0, 0))) := Lib.hid (by rw [hW1]; exact heap_alloc_new _ _)
  have B1 : Hid (Below w.heap.size w W1) := Lib.hid (by rw [hW1]; exact alloc_bq _ _)
  have HW1 := Lib.hid hW1
  clear hW1
  go_enter Try.func7, Try.ntmps7
  go_upto_region 2 with fail
  rw [← HW1.out]
  obtain ⟨c0, c1, c2, c3, c4⟩ := cells5 Q1.out
  have P2 := putQ_any r1q ⟨0, some ⟨W1.heap.size, 0, none⟩, 1, 1, [7]⟩ (W1.alloc (.cells #[.int .u16 7] 44 (0, 0))) (ok1 _) ⟨argw_new W1 [7] (by decide) (by decide), by show (Lit.int .i64 0).wf = true; decide⟩
  rw [show (⟨0, some ⟨W1.heap.size, 0, none⟩, 1, 1, [7]⟩ : Rp).code = 0 from rfl, show (⟨0, some ⟨W1.heap.size, 0, none⟩, 1, 1, [7]⟩ : Rp).V = [7] from rfl, v1] at P2
  simp only [rv, rpv, r1q] at P2
  go_wp2_with fail
  refine P2.mono ?_
  rintro e w2 ⟨v, rfl, ho, z2⟩
  have z2 : Below W1.heap.size W1 w2 := (alloc_bq W1 _).trans (z2.mono (by simp))
  have B2 := Lib.hid (B1.out.trans (z2.mono B1.out.size))
  have Q2 := Lib.hid (low_of z2 Q1.out)
  obtain ⟨pa, pc, hv, ab2, _⟩ := OwnV.argB ho (by decide)
  subst hv
  have S2 := Lib.hid ab2.row
  clear P2 c0 c1 c2 c3 c4 ho z2 ab2
  obtain ⟨c0, c1, c2, c3, c4⟩ := cells5 Q2.out
  have G3 := get_new r1q w2 [131, 2] ok1 (by decide) (by decide) _ v2
  simp only [rv, r1q] at G3
  go_wp2_with fail
  refine G3.mono ?_
  rintro e w3 ⟨a3, n3, d3, rfl, _, z3⟩
  obtain ⟨W3, hW3⟩ : ∃ W3, W3 = w3.alloc (.cells #[.int .i64 2, .slice a3 n3 d3] 26 (0, 0)) := ⟨_, rfl⟩
  have y3 : Below w2.heap.size w2 W3 := by rw [hW3]; exact z3.alloc z3.size _
  have R3 : Hid (W3.heap[w3.heap.size]? = some (.cells #[.int .i64 2, .slice a3 n3 d3] 26 (0, 0))) := Lib.hid (by rw [hW3]; exact heap_alloc_new _ _)
  have B3 := Lib.hid (B2.out.trans (y3.mono B2.out.size))
  have Q3 := Lib.hid (low_of y3 Q2.out)
  have S3 := Lib.hid (S2.out.below y3)
  have HW3 := Lib.hid hW3
  clear G3 c0 c1 c2 c3 c4 y3 z3 hW3
  go_upto_region 4 with fail
  rw [← HW3.out]
  have G4 := get_new r2q W3 [1, 1, 5] ok2 (by decide) (by decide) _ v3
  simp only [rv, r2q] at G4
  go_wp2_with fail
  refine G4.mono ?_
  rintro e w4 ⟨a4, n4, d4, rfl, ha4, z4⟩
  obtain ⟨W4, hW4⟩ : ∃ W4, W4 = w4.alloc (.cells #[.int .i64 0, .slice a4 n4 d4] 26 (0, 0)) := ⟨_, rfl⟩
  have x4 : Below w4.heap.size w4 W4 := by rw [hW4]; exact alloc_bq _ _
  have y4 : Below W3.heap.size W3 W4 := z4.trans (x4.mono z4.size)
  have T4 : Hid (W4.heap[w4.heap.size]? = some (.cells #[.int .i64 0, .slice a4 n4 d4] 26 (0, 0))) := Lib.hid (by rw [hW4]; exact heap_alloc_new _ _)
  have B4 := Lib.hid (B3.out.trans (y4.mono B3.out.size))
  have Q4 := Lib.hid (low_of y4 Q3.out)
  have R4 := Lib.hid (low_of y4 R3.out)
  have S4 := Lib.hid (S3.out.below y4)
  have A4 := Lib.hid (ha4.row.below x4)
  have HW4 := Lib.hid hW4
  clear G4 y4 z4 x4 hW4 ha4
  go_upto_region 5 with fail
  rw [← HW4.out]
  have G5 := get_new r2q W4 [1, 1, 13] ok2 (by decide) (by decide) _ v4
  simp only [rv, r2q] at G5
  go_wp2_with fail
  refine G5.mono ?_
  rintro e w5 ⟨a5, n5, d5, rfl, _, z5⟩
  obtain ⟨W5, hW5⟩ : ∃ W5, W5 = w5.alloc (.cells #[.int .i64 0, .slice a5 n5 d5] 26 (0, 0)) := ⟨_, rfl⟩
  have y5 : Below W4.heap.size W4 W5 := by rw [hW5]; exact z5.alloc z5.size _
  have B5 := Lib.hid (B4.out.trans (y5.mono B4.out.size))
  have Q5 := Lib.hid (low_of y5 Q4.out)
  have R5 := Lib.hid (low_of y5 R4.out)
  have T5 := Lib.hid (low_of y5 T4.out)
  have S5 := Lib.hid (S4.out.below y5)
  have A5 := Lib.hid (A4.out.below y5)
  have HW5 := Lib.hid hW5
  clear G5 y5 z5 hW5
  go_upto_region 6 with fail
  rw [← HW5.out]
  have L6 := alarm_any (some ⟨W5.heap.size, 0, none⟩) 2 2 [7, 1] 1 (W5.alloc (.cells (bv [7, 1]).toArray 5 (0, 0))) (arg_new W5 [7, 1] (by decide) (by decide)).row
  rw [v5] at L6
  go_wp2_with fail
  refine L6.mono ?_
  rintro e w6 ⟨v6, rfl, ho6, z6⟩
  have y6 : Below W5.heap.size W5 w6 := (alloc_bq W5 _).trans (z6.mono (by simp))
  have B6 := Lib.hid (B5.out.trans (y6.mono B5.out.size))
  have Q6 := Lib.hid (low_of y6 Q5.out)
  have R6 := Lib.hid (low_of y6 R5.out)
  have T6 := Lib.hid (low_of y6 T5.out)
  have S6 := Lib.hid (S5.out.below y6)
  have A6 := Lib.hid (A5.out.below y6)
  obtain ⟨la, lc, hv6, ab6, _⟩ := OwnV.argB ho6 (by decide)
  subst hv6
  have L6' := Lib.hid ab6.row
  clear L6 y6 z6 ho6 ab6
  have cv : (convert 27 9 (.slice pa 4 pc)).run Try.prog w6 = .ok (.string (strN [3, 2, 0, 7])) w6 := conv_bys S6.out
  have st1 : ((strN [3, 2, 0, 7]).toList == [3, 2, 0, 7]) = true := by decide +kernel
  obtain ⟨r0, _⟩ := cells2q R6.out
  obtain ⟨_, t1⟩ := cells2q T6.out
  have al := alloc_bq w6 (.cells (wv [1, 0, 1]).toArray 44 (0, 0))
  have SV := samevals_any a4 n4 d4 [1, 0, 1] (some ⟨w6.heap.size, 0, none⟩) 3 3 [1, 0, 1] (w6.alloc (.cells (wv [1, 0, 1]).toArray 44 (0, 0))) (A6.out.below al) (argw_new w6 [1, 0, 1] (by decide) (by decide)).row
  rw [decide_eq_true rfl] at SV
  go_wp2_with fail
  refine SV.mono ?_
  rintro e w7 ⟨rfl, z7⟩
  have y7 : Below w6.heap.size w6 w7 := al.trans (z7.mono (by simp))
  have B7 := Lib.hid (B6.out.trans (y7.mono B6.out.size))
  have Q7 := Lib.hid (low_of y7 Q6.out)
  have cv2 : (convert 27 9 (.slice la 2 lc)).run Try.prog w7 = .ok (.string (strN [135, 1])) w7 := conv_bys (L6'.out.below y7)
  have st2 : ((strN [135, 1]).toList == [135, 1]) = true := by decide +kernel
  clear al SV z7 y7 cv st1 r0 t1
  obtain ⟨c0, c1, c2, c3, c4⟩ := cells5 Q7.out
  have RA := rightA_any r1q ⟨4, none, 0, 0, []⟩ w7 (ok1 _) ⟨argW_none _, by decide⟩
  rw [show okR r1q (⟨4, none, 0, 0, []⟩ : Rp).code (⟨4, none, 0, 0, []⟩ : Rp).V = true from v6] at RA
  simp only [rv, rpv, r1q] at RA
  go_wp2_with fail
  refine RA.mono ?_
  rintro e w8 ⟨rfl, z8⟩
  have B8 := Lib.hid (B7.out.trans (z8.mono B7.out.size))
  have Q8 := Lib.hid (low_of z8 Q7.out)
  clear RA z8 c0 c1 c2 c3 c4 cv2 st2
  obtain ⟨c0, c1, c2, c3, c4⟩ := cells5 Q8.out
  have RB := rightA_any r1q ⟨0, none, 0, 0, []⟩ w8 (ok1 _) ⟨argW_none _, by decide⟩
  rw [show okR r1q (⟨0, none, 0, 0, []⟩ : Rp).code (⟨0, none, 0, 0, []⟩ : Rp).V = false from v7] at RB
  simp only [rv, rpv, r1q] at RB
  go_wp2_with fail
  refine RB.mono ?_
  rintro e w9 ⟨rfl, z9⟩
  have B9 := Lib.hid (B8.out.trans (z9.mono B8.out.size))
  clear z9 RB
  go_wp2_with fail
  rw [HP.out]
  exact ⟨rfl, B9.out⟩
end Go.Proofs.Ythcfmfkdglmkmaa
