/- The walk of DelayPlays. -/
import Derived.Test.YtckmgknngpjklaaPlays
namespace Go.Proofs.Ytckmgknngpjklaa
set_option linter.unusedVariables false
open Go.ChangeShapes Go.WideShapes Go.ChangeAt Go.RowKit

set_option maxRecDepth 100000 in
set_option maxHeartbeats 4000000 in
theorem plays_walk (on off : Int) (a2 : Option Addr) (l2 c2 : Nat) (f2 : Nat → Bool × Int) (w : World)
    (r2 : RowS w a2 l2 2 (fun i => [.bool (f2 i).1, .int .i64 (f2 i).2])) (s2 : l2 ≤ 500) :
    Calls Try.prog 3 #[.int .i64 on, .int .i64 off, .slice a2 l2 c2] w fun e w' => e = .returned (.bool true) ∧ Below w.heap.size w w' := by
  have d2 : decide (500 < (l2 : Int)) = false := by simp; omega
  have R2 := Lib.hid r2
  clear r2
  go_enter Try.func3, Try.ntmps3
  go_wp2_with fail
  refine (head_any w).mono ?_
  rintro e w0 ⟨rfl, hb0⟩
  go_wp2_with fail
  refine (new_one hb0 hb0.size on off).mono ?_
  rintro e w1 ⟨rfl, hb1, hB1, o1⟩
  clear hb0 hb1 hB1
  go_wp2_with fail
  refine (new_both o1).mono ?_
  rintro e w2 ⟨rfl, t2⟩
  clear o1
  go_wp2_with fail
  have HT := Lib.hid t2
  clear t2
  go_loopw [10] (fun i wr => ∃ (k : Nat) (d : D), k ≤ l2 ∧ i = .int .i64 k ∧ Both w.heap.size w0.heap.size w1.heap.size d w wr) (fun i _ => l2 - (intOf i).toNat)
  case atStart => exact ⟨0, _, Nat.zero_le _, rfl, HT.out⟩
  case round =>
    obtain ⟨k, d, hk, rfl, t⟩ := hrel
    by_cases hlt : k < l2
    · obtain ⟨b2, o2, e2, lt2, k2⟩ := R2.out.pos (by omega)
      have hv := k2 k hlt 0 (by omega)
      have hn := k2 k hlt 1 (by omega)
      generalize f2 k = op at hv hn
      obtain ⟨v, n⟩ := op
      simp only [List.getElem?_cons_zero, List.getElem?_cons_succ, Nat.add_zero] at hv hn
      have hv1 := (t.fst.bel.cell (p := ⟨b2, o2 + k * 2, none⟩) lt2).trans hv
      have hn1 := (t.fst.bel.cell (p := ⟨b2, o2 + k * 2 + 1, none⟩) lt2).trans hn
      clear k2
      subst e2
      have HV := Lib.hid hv
      have HN := Lib.hid hn
      clear hv hn
      go_wp2_with fail
      go_region_with (go_at_call 11; refine (see_half (by exact t.drewN 1) _ _).mono ?_; rintro e w3 ⟨rfl, t3⟩)
      all_goals
        have hv3 := (t3.fst.bel.cell (p := ⟨b2, o2 + k * 2, none⟩) lt2).trans HV.out
        have hn3 := (t3.fst.bel.cell (p := ⟨b2, o2 + k * 2 + 1, none⟩) lt2).trans HN.out
        go_wp2_with fail
        go_region_with (go_at_call 12; refine (see_both (by exact t3.drewN 1)).mono ?_; rintro e w4 ⟨rfl, t4⟩)
        all_goals
          go_wp2_with fail
          refine (since_both t4).mono ?_
          rintro e w5 ⟨rfl, t5⟩
          go_wp2_with fail
          refine (rsince_both t5).mono ?_
          rintro e w6 ⟨rfl, rfl⟩
          go_wp2_with fail
          refine (value_any _ _ _ t5.fst.blk).mono ?_
          rintro e w6 ⟨rfl, rfl⟩
          go_wp2_with fail
          refine (rvalue_both t5).mono ?_
          rintro e w6 ⟨rfl, rfl⟩
          go_wp2_with fail
          go_roundw
          case rel => exact ⟨k + 1, _, by omega, by go_num, t5⟩
          case measure => simp [intOf]; omega
    · go_wp2_with fail
      go_ret
      exact ⟨rfl, t.fst.bel⟩

theorem plays_big (on off : Int) (a2 : Option Addr) (l2 c2 : Nat) (w : World) (m2 : l2 ≤ maxLen) (s : 500 < l2) :
    Calls Try.prog 3 #[.int .i64 on, .int .i64 off, .slice a2 l2 c2] w fun e w' => e = .returned (.bool true) ∧ Below w.heap.size w w' := by
  unfold maxLen at m2
  have d2 : decide (500 < (l2 : Int)) = true := by simp; omega
  go_enter Try.func3, Try.ntmps3
  go_wp2_with fail
  refine (head_any w).mono ?_
  rintro e w0 ⟨rfl, hb0⟩
  go_wp2_with fail
  refine (new_one hb0 hb0.size on off).mono ?_
  rintro e w1 ⟨rfl, hb1, hB1, o1⟩
  clear hb0 hb1 hB1
  go_wp2_with fail
  refine (new_both o1).mono ?_
  rintro e w2 ⟨rfl, t2⟩
  go_wp2_with fail
  go_ret
  exact ⟨rfl, t2.fst.bel⟩

theorem plays_all (on off : Int) (a2 : Option Addr) (l2 c2 : Nat) (f2 : Nat → Bool × Int) (w : World)
    (r2 : RowS w a2 l2 2 (fun i => [.bool (f2 i).1, .int .i64 (f2 i).2])) :
    Calls Try.prog 3 #[.int .i64 on, .int .i64 off, .slice a2 l2 c2] w fun e w' => e = .returned (.bool true) ∧ Below w.heap.size w w' := by
  by_cases s : 500 < l2
  · exact plays_big on off a2 l2 c2 w r2.le s
  · exact plays_walk on off a2 l2 c2 f2 w r2 (by omega)

end Go.Proofs.Ytckmgknngpjklaa
