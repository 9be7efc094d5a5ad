/- The live question. -/
import Derived.Test.YtfloceoopjokcaaE
import Derived.Test.YtfloceoopjokcaaF
import Derived.Test.YtfloceoopjokcaaG
import Derived.Test.YtfloceoopjokcaaH
namespace Go.Proofs.Ytfloceoopjokcaa
set_option linter.unusedVariables false
open Go.ChangeShapes Go.WideShapes Go.ChangeAt Go.RowKit

theorem lit1 (w : World) (T : TypeId) (x : Int) (hx : (Lit.int .i64 x).wf = true) : ArgI (w.alloc (.cells #[.int .i64 x] T (0, 0))) (some ⟨w.heap.size, 0, none⟩) 1 1 [x] := by
  refine ⟨⟨rfl, by unfold maxLen; omega, by simpa using hx, .inr ⟨w.heap.size, 0, rfl, by simp, fun i hi => ?_⟩⟩, (fun e => by cases e), Nat.le_refl _, by unfold maxLen; omega⟩
  have : i = 0 := by omega
  subst this
  simp only [World.cell?, heap_alloc_new]; rfl
theorem lit2 (w : World) (T : TypeId) (x y : Int) (hx : (Lit.int .i64 x).wf = true) (hy : (Lit.int .i64 y).wf = true) : ArgI (w.alloc (.cells #[.int .i64 x, .int .i64 y] T (0, 0))) (some ⟨w.heap.size, 0, none⟩) 2 2 [x, y] := by
  refine ⟨⟨rfl, by unfold maxLen; omega, by simpa using ⟨hx, hy⟩, .inr ⟨w.heap.size, 0, rfl, by simp, fun i hi => ?_⟩⟩, (fun e => by cases e), Nat.le_refl _, by unfold maxLen; omega⟩
  rcases (by omega : i = 0 ∨ i = 1) with e | e
  all_goals
    subst e
    simp only [World.cell?, heap_alloc_new]; rfl
theorem alloc_b (w : World) (o : Obj) : Below w.heap.size w (w.alloc o) := (Below.refl _ _).alloc (Nat.le_refl _) _

def HeadP (w : World) (e : Ending) (w' : World) : Prop := e = .returned (.bool true) ∧ Below w.heap.size w w'
set_option maxRecDepth 100000 in
set_option maxHeartbeats 2000000 in
theorem head_any (w : World) : Calls Try.prog 7 #[] w (HeadP w) := by
  go_enter Try.func7, Try.ntmps7
  go_wp2_with fail
  refine (new_any _ 2 2 [5, 0] _ (lit2 w 2 5 0 (by decide) (by decide)) (by omega)).mono ?_
  rintro e w1 ⟨t, m, rfl, T1, b1⟩
  have hm := T1.hm
  have B1 := Lib.hid ((alloc_b w (.cells #[.int .i64 5, .int .i64 0] 2 (0, 0))).trans (b1.mono (alloc_b w _).size))
  have hm' : w.heap.size < m := by simp at hm; omega
  have HT1 := Lib.hid T1
  clear T1 b1 hm
  go_wp2_with fail
  refine (put_any HT1.out (by unfold maxLen; omega) 0 5 10).mono ?_
  rintro e w2 ⟨rfl, T2, f2⟩
  rw [show putC [5, 0] (List.replicate [(5 : Int), 0].length 0) 0 5 10 = 0 from by decide]
  rw [show putE [5, 0] (List.replicate [(5 : Int), 0].length 0) 0 5 10 = [15, 0] from by decide] at T2
  have HT2 := Lib.hid T2
  have F2 := Lib.hid f2
  clear T2 f2 HT1
  go_wp2_with fail
  refine (put_any HT2.out (by unfold maxLen; omega) 0 1 14).mono ?_
  rintro e w3 ⟨rfl, T3, f3⟩
  rw [show putC [5, 0] [15, 0] 0 1 14 = 4 from by decide]
  rw [show putE [5, 0] [15, 0] 0 1 14 = [15, 0] from by decide] at T3
  have HT3 := Lib.hid T3
  have F3 := Lib.hid (F2.out.trans f3)
  clear T3 f3 HT2 F2
  go_wp2_with fail
  refine (put_any HT3.out (by unfold maxLen; omega) 1 1 0).mono ?_
  rintro e w4 ⟨rfl, T4, f4⟩
  rw [show putC [5, 0] [15, 0] 1 1 0 = 1 from by decide]
  rw [show putE [5, 0] [15, 0] 1 1 0 = [15, 0] from by decide] at T4
  have HT4 := Lib.hid T4
  have F4 := Lib.hid (F3.out.trans f4)
  clear T4 f4 HT3 F3
  go_wp2_with fail
  refine (put_any HT4.out (by unfold maxLen; omega) 0 6 20).mono ?_
  rintro e w5 ⟨rfl, T5, f5⟩
  rw [show putC [5, 0] [15, 0] 0 6 20 = 1 from by decide]
  rw [show putE [5, 0] [15, 0] 0 6 20 = [15, 0] from by decide] at T5
  have HT5 := Lib.hid T5
  have F5 := Lib.hid (F4.out.trans f5)
  clear T5 f5 HT4 F4
  go_wp2_with fail
  refine (put_any HT5.out (by unfold maxLen; omega) 2 1 0).mono ?_
  rintro e w6 ⟨rfl, T6, f6⟩
  rw [show putC [5, 0] [15, 0] 2 1 0 = 3 from by decide]
  rw [show putE [5, 0] [15, 0] 2 1 0 = [15, 0] from by decide] at T6
  have HT6 := Lib.hid T6
  have F6 := Lib.hid (F5.out.trans f6)
  clear T6 f6 HT5 F5
  go_wp2_with fail
  refine (is_any HT6.out 0 14 (by decide)).mono ?_
  rintro e w6' ⟨rfl, rfl⟩
  rw [show isB [15, 0] 0 14 = true from by decide]
  go_wp2_with fail
  refine (is_any HT6.out 0 15 (by decide)).mono ?_
  rintro e w6' ⟨rfl, rfl⟩
  rw [show isB [15, 0] 0 15 = false from by decide]
  go_wp2_with fail
  refine (lapse_any HT6.out 14 (by show 2 * 8 ≤ _; omega)).mono ?_
  rintro e w7 ⟨a7, c7, rfl, A7, g7, T7, f7⟩
  rw [show ovL [15, 0] 14 [(5 : Int), 0].length = [] from by decide] at T7 ⊢
  rw [show dropAll [15, 0] [] = [15, 0] from by decide] at T7
  have HT7 := Lib.hid T7
  have F7 := Lib.hid (F6.out.trans f7)
  clear T7 f7 HT6 F6 A7 g7
  go_wp2_with fail
  refine (lapse_any HT7.out 15 (by show 2 * 8 ≤ _; omega)).mono ?_
  rintro e w8 ⟨a8, c8, rfl, A8, g8, T8, f8⟩
  rw [show ovL [15, 0] 15 [(5 : Int), 0].length = [0] from by decide] at T8 A8 ⊢
  rw [show dropAll [15, 0] [0] = [0, 0] from by decide] at T8
  have HT8 := Lib.hid T8
  have A8' := Lib.hid A8
  have F8 := Lib.hid (F7.out.trans f8)
  clear T8 f8 HT7 F7 A8 g8
  go_wp2_with fail
  refine (sameInts_any _ _ 1 c8 1 1 [0] [0] _ (A8'.out.row.below (alloc_b w8 _)) (lit1 w8 3 0 (by decide)).row).mono ?_
  rintro e w9 ⟨rfl, b9⟩
  have b9' := (alloc_b w8 (.cells #[.int .i64 0] 3 (0, 0))).trans (b9.mono (alloc_b w8 _).size)
  have HT9 := Lib.hid (HT8.out.below b9')
  have F9 := Lib.hid (F8.out.trans (Fr.of_below b9'))
  clear b9 b9' HT8 F8 A8'
  rw [show decide ([(0 : Int)] = [0]) = true from by decide]
  go_wp2_with fail
  refine (until_any HT9.out 0 (by decide)).mono ?_
  rintro e w9' ⟨rfl, rfl⟩
  rw [show unt [0, 0] 0 = 0 from by decide]
  go_wp2_with fail
  refine (drop_any HT9.out 0 (by decide)).mono ?_
  rintro e w10 ⟨rfl, T10, f10⟩
  rw [show decide (0 < unt [0, 0] 0) = false from by decide]
  rw [show dropE [0, 0] 0 = [0, 0] from by decide] at T10
  have HT10 := Lib.hid T10
  have F10 := Lib.hid (F9.out.trans f10)
  clear T10 f10 HT9 F9
  go_wp2_with fail
  refine (load_any (HT10.out.below (alloc_b w10 (.cells #[.int .i64 7, .int .i64 8] 2 (0, 0)))) _ 2 2 [7, 8] (lit2 w10 2 7 8 (by decide) (by decide)).row (fun b off e _ => by have := HT10.out.lt.2; simp only [Option.some.injEq, Addr.mk.injEq, and_true] at e; omega)).mono ?_
  rintro e w11 (⟨rfl, _, hno⟩ | ⟨rfl, _, _, T11, f11⟩)
  · exfalso; revert hno; decide
  have HT11 := Lib.hid T11
  have F11 := Lib.hid ((F10.out.trans (Fr.of_below (alloc_b w10 _))).trans f11)
  clear T11 f11 HT10 F10
  go_wp2_with fail
  refine (all_any HT11.out (by show 2 * 8 ≤ _; omega)).mono ?_
  rintro e w12 ⟨g12, rfl, A12, l12, b12⟩
  have HT12 := Lib.hid (HT11.out.below b12)
  have F12 := Lib.hid (F11.out.trans (Fr.of_below b12))
  have A12' := Lib.hid A12
  clear b12 A12 l12 HT11 F11
  go_wp2_with fail
  refine (same_any _ _ 2 2 2 2 [7, 8] [7, 8] _ (A12'.out.row.below (alloc_b w12 _)) (lit2 w12 2 7 8 (by decide) (by decide)).row).mono ?_
  rintro e w13 ⟨rfl, b13⟩
  have b13' := (alloc_b w12 (.cells #[.int .i64 7, .int .i64 8] 2 (0, 0))).trans (b13.mono (alloc_b w12 _).size)
  have HT13 := Lib.hid (HT12.out.below b13')
  have F13 := Lib.hid (F12.out.trans (Fr.of_below b13'))
  clear b13 b13' HT12 F12 A12'
  rw [show decide ([(7 : Int), 8] = [7, 8]) = true from by decide]
  go_wp2_with fail
  refine (load_any HT13.out none 0 0 [] (Ir.nil _ _) (fun b off e _ => by cases e)).mono ?_
  rintro e w14 (⟨rfl, rfl, _⟩ | ⟨_, hno, _⟩)
  · go_wp2_with fail
    go_ret
    exact ⟨rfl, B1.out.trans (F13.out.below (by omega) B1.out.size)⟩
  · exfalso; revert hno; decide
end Go.Proofs.Ytfloceoopjokcaa
