/- See of the other value; Since and Value. -/
import Derived.Test.YtckmgknngpjklaaA
namespace Go.Proofs.Ytckmgknngpjklaa
set_option linter.unusedVariables false
open Go.ChangeShapes Go.WideShapes Go.ChangeAt Go.RowKit

set_option maxHeartbeats 400000 in
theorem see_other_yes (b : Nat) (d : D) (v : Bool) (now : Int) (w : World) (h : w.heap[b]? = some d.obj) (hv : v = !d.c) (k : d.ok)
    (ht : (if v then d.t1 else d.t0) ≤ wi now d.l - (if d.o then d.s else wi now d.l)) :
    Calls Try.prog 11 #[.pointer (some ⟨b, 0, none⟩), .bool v, .int .i64 now] w fun e w' => e = .returned (.bool (d.see v now).c) ∧ Upd b (d.see v now).obj w w' := by
  rw [see_yes d v now hv ht]
  obtain ⟨c0, f0⟩ := cells_of h 0 (by simp)
  obtain ⟨c1, f1⟩ := cells_of h 1 (by simp)
  obtain ⟨c2, f2⟩ := cells_of h 2 (by simp)
  obtain ⟨c3, f3⟩ := cells_of h 3 (by simp)
  obtain ⟨c4, f4⟩ := cells_of h 4 (by simp)
  obtain ⟨c5, f5⟩ := cells_of h 5 (by simp)
  simp at c0 c1 c2 c3 c4 c5
  obtain ⟨c, t0, t1, o, s, l⟩ := d
  obtain ⟨b1, b2⟩ := wi_bd now l k.l0 k.l1
  have s0 := k.s0
  have s1 := k.s1
  simp at hv s0 s1 c0 c1 c2 c3 c4 c5
  subst hv
  have H := Lib.hid h
  clear h f1 f2 k
  cases o <;> cases c <;> simp at ht
  all_goals
    go_enter Try.func11, Try.ntmps11
    go_wp2_with fail
    refine (within_any _ _ _).mono ?_
    rintro e w' ⟨rfl, rfl⟩
    go_wp2_with fail
    go_quiet ((go_at_call 18; exact Calls.quiet_of_same ((place_any _ _).mono fun _ _ h => ⟨h.1, h.2.symm⟩)))
    go_wp2_with fail
    refine (rest_any b _ _ _ (by go_simp; rfl) (by go_simp) (by go_simp; rfl) (by go_simp)).mono ?_
    rintro e w' ⟨rfl, rfl⟩
    go_wp2_with fail
    go_ret
    refine ⟨rfl, ?_⟩
    apply Upd.cast
    · repeat (first | apply Upd.set | apply Upd.drewN | exact Upd.refl H.out)
    · rfl

set_option maxHeartbeats 400000 in
theorem see_other_no (b : Nat) (d : D) (v : Bool) (now : Int) (w : World) (h : w.heap[b]? = some d.obj) (hv : v = !d.c) (k : d.ok)
    (ht : ¬ (if v then d.t1 else d.t0) ≤ wi now d.l - (if d.o then d.s else wi now d.l)) :
    Calls Try.prog 11 #[.pointer (some ⟨b, 0, none⟩), .bool v, .int .i64 now] w fun e w' => e = .returned (.bool (d.see v now).c) ∧ Upd b (d.see v now).obj w w' := by
  rw [see_no d v now hv ht]
  obtain ⟨c0, f0⟩ := cells_of h 0 (by simp)
  obtain ⟨c1, f1⟩ := cells_of h 1 (by simp)
  obtain ⟨c2, f2⟩ := cells_of h 2 (by simp)
  obtain ⟨c3, f3⟩ := cells_of h 3 (by simp)
  obtain ⟨c4, f4⟩ := cells_of h 4 (by simp)
  obtain ⟨c5, f5⟩ := cells_of h 5 (by simp)
  simp at c0 c1 c2 c3 c4 c5
  obtain ⟨c, t0, t1, o, s, l⟩ := d
  obtain ⟨b1, b2⟩ := wi_bd now l k.l0 k.l1
  have s0 := k.s0
  have s1 := k.s1
  simp at hv s0 s1 c0 c1 c2 c3 c4 c5
  subst hv
  have H := Lib.hid h
  clear h f1 f2 k
  cases o <;> cases c <;> simp at ht
  all_goals
    go_enter Try.func11, Try.ntmps11
    go_wp2_with fail
    refine (within_any _ _ _).mono ?_
    rintro e w' ⟨rfl, rfl⟩
    go_wp2_with fail
    go_quiet ((go_at_call 18; exact Calls.quiet_of_same ((place_any _ _).mono fun _ _ h => ⟨h.1, h.2.symm⟩)))
    go_wp2_with fail
    go_ret
    refine ⟨rfl, ?_⟩
    apply Upd.cast
    · repeat (first | apply Upd.set | apply Upd.drewN | exact Upd.refl H.out)
    · rfl

theorem see_any (b : Nat) (d : D) (v : Bool) (now : Int) (w : World) (h : w.heap[b]? = some d.obj) (k : d.ok) :
    Calls Try.prog 11 #[.pointer (some ⟨b, 0, none⟩), .bool v, .int .i64 now] w fun e w' => e = .returned (.bool (d.see v now).c) ∧ Upd b (d.see v now).obj w w' := by
  by_cases hv : v = d.c
  · subst hv; exact see_same b d now w h
  · have hv' : v = !d.c := by cases v <;> cases hc : d.c <;> simp_all
    by_cases ht : (if v then d.t1 else d.t0) ≤ wi now d.l - (if d.o then d.s else wi now d.l)
    · exact see_other_yes b d v now w h hv' k ht
    · exact see_other_no b d v now w h hv' k ht

theorem since_any (b : Nat) (d : D) (w : World) (h : w.heap[b]? = some d.obj) :
    Calls Try.prog 13 #[.pointer (some ⟨b, 0, none⟩)] w fun e w' => e = .returned (.tuple #[.int .i64 d.s, .bool d.o]) ∧ ∃ n, w' = w.drewN n := by
  obtain ⟨c3, f3⟩ := cells_of h 3 (by simp)
  obtain ⟨c4, f4⟩ := cells_of h 4 (by simp)
  simp at c3 c4
  clear h
  go_enter Try.func13, Try.ntmps13
  go_wp2
  go_quiet (fail)
  go_wp2
  go_ret2
  exact ⟨rfl, _, rfl⟩

theorem value_any (b : Nat) (d : D) (w : World) (h : w.heap[b]? = some d.obj) :
    Calls Try.prog 15 #[.pointer (some ⟨b, 0, none⟩)] w fun e w' => e = .returned (.bool d.c) ∧ w = w' := by
  obtain ⟨c3, f3⟩ := cells_of h 0 (by simp)
  simp at c3
  clear h
  go_enter Try.func15, Try.ntmps15
  go_wp2
  go_ret
  exact ⟨rfl, rfl⟩

end Go.Proofs.Ytckmgknngpjklaa
