/- The live question. -/
import Derived.Test.YteakbijlcccnnaaN
namespace Go.Proofs.Yteakbijlcccnnaa
set_option linter.unusedVariables false
open Go.ChangeShapes Go.WideShapes Go.ChangeAt Go.RowKit
attribute [local go_sem ↓] Go.wp_at_zero Go.wp_at_succ

theorem lit4i (w : World) (x y z u : Int) (hw : ∀ v ∈ [x, y, z, u], (Lit.int .i64 v).wf = true) : Ir (w.alloc (.cells #[.int .i64 x, .int .i64 y, .int .i64 z, .int .i64 u] 3 (0, 0))) (some ⟨w.heap.size, 0, none⟩) 4 [x, y, z, u] := by
  refine ⟨rfl, by unfold maxLen; omega, hw, .inr ⟨w.heap.size, 0, rfl, by simp, fun i hi => ?_⟩⟩
  rcases (by omega : i = 0 ∨ i = 1 ∨ i = 2 ∨ i = 3) with e | e | e | e
  all_goals
    subst e
    simp only [World.cell?, heap_alloc_new]; rfl
def hG : List Int := [1, 1, 1, 0]
def hS0 : List La := [La.z, La.z, La.z, La.z]
def hS1 : List La := [La.z, La.z, ⟨true, 5, true⟩, La.z]
def hS2 : List La := [La.z, ⟨true, 5, true⟩, ⟨true, 5, false⟩, La.z]
def hS3 : List La := [⟨true, 6, false⟩, ⟨true, 5, true⟩, ⟨true, 5, false⟩, La.z]
def hS4 : List La := [⟨true, 6, false⟩, ⟨true, 5, true⟩, ⟨true, 5, false⟩, ⟨true, 8, false⟩]
def hS5 : List La := [⟨true, 6, false⟩, La.z, ⟨true, 5, false⟩, ⟨true, 8, false⟩]
def HeadP (w : World) (e : Ending) (w' : World) : Prop := e = .returned (.bool true) ∧ Below w.heap.size w w'
set_option maxRecDepth 100000 in
set_option maxHeartbeats 4000000 in
theorem head_any (w : World) : Calls Try.prog 6 #[] w (HeadP w) := by
  go_enter Try.func6, Try.ntmps6
  go_wp2_with fail
  refine (new_any _ 4 4 [1, 1, 1, 0] _ (lit4i w 1 1 1 0 (by decide)) (by omega)).mono ?_
  rintro e w1 ⟨t, m, mb, rfl, T1, b1⟩
  have hm := T1.hm
  have hmb := T1.hb
  have B1 := Lib.hid ((alloc_b w (.cells #[.int .i64 1, .int .i64 1, .int .i64 1, .int .i64 0] 3 (0, 0))).trans (b1.mono (alloc_b w _).size))
  have hm' : w.heap.size ≤ m := by simp at hm; omega
  have hmb' : w.heap.size ≤ mb := by simp at hmb; omega
  have HT1 := Lib.hid (show Lt _ w1 t m mb 0 4 hG hS0 from T1)
  clear T1 b1 hm hmb
  go_wp2_with fail
  refine (trip_any HT1.out (by unfold maxLen; omega) 2 5 (by decide)).mono ?_
  rintro e w2 ⟨rfl, T2, f2⟩
  rw [show trB hS0 4 2 = true from by decide]
  rw [show trS hG hS0 4 2 5 = hS1 from by decide] at T2
  have HT2 := Lib.hid T2
  have F2 := Lib.hid f2
  clear T2 f2 HT1
  go_wp2_with fail
  refine (trip_any HT2.out (by unfold maxLen; omega) 1 5 (by decide)).mono ?_
  rintro e w3 ⟨rfl, T3, f3⟩
  rw [show trB hS1 4 1 = true from by decide]
  rw [show trS hG hS1 4 1 5 = hS2 from by decide] at T3
  have HT3 := Lib.hid T3
  have F3 := Lib.hid (F2.out.trans f3)
  clear T3 f3 HT2 F2
  go_wp2_with fail
  refine (trip_any HT3.out (by unfold maxLen; omega) 0 6 (by decide)).mono ?_
  rintro e w4 ⟨rfl, T4, f4⟩
  rw [show trB hS2 4 0 = true from by decide]
  rw [show trS hG hS2 4 0 6 = hS3 from by decide] at T4
  have HT4 := Lib.hid T4
  have F4 := Lib.hid (F3.out.trans f4)
  clear T4 f4 HT3 F3
  go_wp2_with fail
  refine (trip_any HT4.out (by unfold maxLen; omega) 0 7 (by decide)).mono ?_
  rintro e w5 ⟨rfl, T5, f5⟩
  rw [show trB hS3 4 0 = false from by decide]
  rw [show trS hG hS3 4 0 7 = hS3 from by decide] at T5
  have HT5 := Lib.hid T5
  have F5 := Lib.hid (F4.out.trans f5)
  clear T5 f5 HT4 F4
  go_wp2_with fail
  refine (trip_any HT5.out (by unfold maxLen; omega) 3 8 (by decide)).mono ?_
  rintro e w6 ⟨rfl, T6, f6⟩
  rw [show trB hS3 4 3 = true from by decide]
  rw [show trS hG hS3 4 3 8 = hS4 from by decide] at T6
  have HT6 := Lib.hid T6
  have F6 := Lib.hid (F5.out.trans f6)
  clear T6 f6 HT5 F5
  go_wp2_with fail
  refine (first_any HT6.out 1 (by decide)).mono ?_
  rintro e w6' ⟨rfl, rfl⟩
  rw [fiV_some (show fo hG hS4 1 = some 1 from by decide)]
  go_wp2_with fail
  refine (first_any HT6.out 0 (by decide)).mono ?_
  rintro e w6' ⟨rfl, rfl⟩
  rw [fiV_none (show fo hG hS4 0 = none from by decide)]
  go_wp2_with fail
  refine (at_any HT6.out 1).mono ?_
  rintro e w7 ⟨rfl, b7⟩
  rw [show atS hS4 1 = ⟨true, 5, true⟩ from by decide]
  unfold lv
  have b7' := b7.alloc b7.size (.cells #[.bool true, .int .i64 5, .bool true] 37 (0, 0))
  have HT7 := Lib.hid (HT6.out.below b7')
  have F7 := Lib.hid (F6.out.trans (Fs.of_below b7'))
  have C7 := Lib.hid (heap_alloc_new w7 (.cells #[.bool true, .int .i64 5, .bool true] 37 (0, 0)))
  have hm7 : m < w7.heap.size := Nat.lt_of_lt_of_le HT6.out.lt.2.1 b7.size
  have hmb7 : mb < w7.heap.size := Nat.lt_of_lt_of_le (HT6.out.lt.2.2 (by omega)) b7.size
  have hz7 : (w7.alloc (.cells #[.bool true, .int .i64 5, .bool true] 37 (0, 0))).heap.size = w7.heap.size + 1 := by simp
  obtain ⟨W7, hW7⟩ : ∃ W, W = w7.alloc (.cells #[.bool true, .int .i64 5, .bool true] 37 (0, 0)) := ⟨_, rfl⟩
  rw [← hW7] at HT7 F7 C7 hz7
  clear b7 b7' HT6 F6
  go_wp2_with fail
  rw [← hW7]
  obtain ⟨g7, hg7⟩ : ∃ g, g = w7.heap.size := ⟨_, rfl⟩
  rw [← hg7] at C7 hm7 hmb7 hz7
  rw [← hg7]
  clear hW7 hg7
  refine (at_any HT7.out 0).mono ?_
  rintro e w8 ⟨rfl, b8⟩
  rw [show atS hS4 0 = ⟨true, 6, false⟩ from by decide]
  unfold lv
  have b8' := b8.alloc b8.size (.cells #[.bool true, .int .i64 6, .bool false] 37 (0, 0))
  have HT8 := Lib.hid (HT7.out.below b8')
  have F8 := Lib.hid (F7.out.trans (Fs.of_below b8'))
  have C8 := Lib.hid (heap_alloc_new w8 (.cells #[.bool true, .int .i64 6, .bool false] 37 (0, 0)))
  have C78 := Lib.hid ((b8'.block g7 (by omega)).trans C7.out)
  have hg78 : g7 < w8.heap.size := by have := b8.size; omega
  have hz8 : (w8.alloc (.cells #[.bool true, .int .i64 6, .bool false] 37 (0, 0))).heap.size = w8.heap.size + 1 := by simp
  obtain ⟨W8, hW8⟩ : ∃ W, W = w8.alloc (.cells #[.bool true, .int .i64 6, .bool false] 37 (0, 0)) := ⟨_, rfl⟩
  rw [← hW8] at HT8 F8 C8 C78 hz8
  clear b8 b8' HT7 F7 C7
  go_wp2_with fail
  rw [← hW8]
  obtain ⟨g8, hg8⟩ : ∃ g, g = w8.heap.size := ⟨_, rfl⟩
  rw [← hg8] at C8 hg78 hz8
  rw [← hg8]
  clear hW8 hg8
  refine (reset_any HT8.out 1).mono ?_
  rintro e w9 ⟨rfl, T9, f9⟩
  rw [show rsB hS4 4 1 = true from by decide]
  rw [show rsS hS4 4 1 = hS5 from by decide] at T9
  have HT9 := Lib.hid T9
  have F9 := Lib.hid (F8.out.trans f9)
  have f9' := Lib.hid f9
  clear T9 f9 HT8 F8
  go_wp2_with fail
  refine (reset_any HT9.out 1).mono ?_
  rintro e w10 ⟨rfl, T10, f10⟩
  rw [show rsB hS5 4 1 = false from by decide]
  rw [show rsS hS5 4 1 = hS5 from by decide] at T10
  have HT10 := Lib.hid T10
  have F10 := Lib.hid (F9.out.trans f10)
  have k7 := ((f9'.out.trans f10).block g7 (by omega) (by simp; omega)).trans C78.out
  have k8 := ((f9'.out.trans f10).block g8 (by omega) (by simp; omega)).trans C8.out
  clear T10 f10 HT9 F9 f9' C78 C8
  have x0 : w10.cell? ⟨g7, 0, none⟩ = some (.bool true) := by simp [World.cell?, k7]
  have x1 : w10.cell? ⟨g7, 1, none⟩ = some (.int .i64 5) := by simp [World.cell?, k7]
  have x2 : w10.cell? ⟨g7, 2, none⟩ = some (.bool true) := by simp [World.cell?, k7]
  have y0 : w10.cell? ⟨g8, 0, none⟩ = some (.bool true) := by simp [World.cell?, k8]
  have y1 : w10.cell? ⟨g8, 1, none⟩ = some (.int .i64 6) := by simp [World.cell?, k8]
  have y2 : w10.cell? ⟨g8, 2, none⟩ = some (.bool false) := by simp [World.cell?, k8]
  clear k7 k8
  go_wp2_with fail
  refine (first_any HT10.out 1 (by decide)).mono ?_
  rintro e w6' ⟨rfl, rfl⟩
  rw [fiV_none (show fo hG hS5 1 = none from by decide)]
  go_wp2_with fail
  refine (all_any HT10.out (by omega)).mono ?_
  rintro e w11 ⟨g11, rfl, A11, l11, b11⟩
  have HT11 := Lib.hid (HT10.out.below b11)
  have F11 := Lib.hid (F10.out.trans (Fs.of_below b11))
  clear A11 l11 b11 HT10 F10
  go_wp2_with fail
  refine (load_any HT11.out none 0 0 [] ⟨rfl, Nat.zero_le _, fun i => by rw [sg_out _ _ (by simp)]; decide, .inl rfl⟩ (fun b off e _ => by cases e)).mono ?_
  rintro e w12 (⟨rfl, _, b12⟩ | ⟨_, hno, _⟩)
  · have FIN := Lib.hid ((B1.out.trans (F11.out.below (by simp; omega) B1.out.size)).trans (b12.mono (by have := B1.out.size; have := F11.out.size; omega)))
    clear b12
    go_wp2_with fail
    go_ret
    exact ⟨rfl, FIN.out⟩
  · exfalso
    have := hno.ln
    simp [hG] at this
end Go.Proofs.Yteakbijlcccnnaa
