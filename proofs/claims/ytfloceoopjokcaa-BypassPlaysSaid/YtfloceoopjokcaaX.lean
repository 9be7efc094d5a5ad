/- The document's Put, All, Load. -/
import Derived.Test.YtfloceoopjokcaaW
namespace Go.Proofs.Ytfloceoopjokcaa
set_option linter.unusedVariables false
open Go.ChangeShapes Go.WideShapes Go.ChangeAt Go.RowKit

theorem rput_same {C t eb : Nat} {w : World} {Lm E : List Int} (h : Rt C w t eb Lm E) (i n now : Int) (c : Nat) (hc : putC Lm E i n now = c) (h0 : c ≠ 0) : RP C w t eb Lm (putE Lm E i n now) (.int .i64 (putC Lm E i n now : Nat)) (.returned (.int .i64 (c : Nat))) w := by
  refine ⟨by rw [hc], ?_, F2.refl _ _ _⟩
  unfold putE
  rw [if_neg (by rw [hc]; exact h0)]
  exact h
theorem rput_none {C t eb : Nat} {w : World} {Lm E : List Int} (h : Rt C w t eb Lm E) (i n now : Int) (hi : ¬ (0 ≤ i ∧ i < Lm.length)) :
    Calls Try.prog 19 #[.pointer (some ⟨t, 0, none⟩), .int .i64 i, .int .i64 n, .int .i64 now] w (RP C w t eb Lm (putE Lm E i n now) (.int .i64 (putC Lm E i n now : Nat))) := by
  have HP := Lib.hid (rput_same h i n now 3 (by unfold putC; rw [if_neg hi]) (by omega))
  obtain ⟨ec, c1, hle, hmx, hc⟩ := h.ends
  unfold maxLen at hmx
  clear h hc
  generalize Lm.length = ln at c1 hi hle
  by_cases h0 : i < 0
  · have d1 : decide (i < 0) = true := by simpa using h0
    clear hi
    go_enter Try.func19, Try.ntmps19
    go_wp2_with fail
    go_ret
    exact HP.out
  · have d1 : decide (i < 0) = false := by simpa using h0
    have d2 : decide ((ln : Int) ≤ i) = true := by simp; omega
    clear hi h0
    go_enter Try.func19, Try.ntmps19
    go_wp2_with fail
    go_ret
    exact HP.out
theorem Rt.lims {C t eb : Nat} {w : World} {Lm E : List Int} (h : Rt C w t eb Lm E) (k : Nat) (hk : k < Lm.length) : ∃ lb lo lc, w.cell? ⟨t, 0, none⟩ = some (.slice (some ⟨lb, lo, none⟩) Lm.length lc) ∧ w.cell? ⟨lb, lo + k, none⟩ = some (.int .i64 (Lm.getD k 0)) := by
  obtain ⟨la, lc, ec, h1, h2, _⟩ := h.blk
  obtain ⟨b, off, rfl, _, hc⟩ := h2.pos (by omega)
  exact ⟨b, off, lc, by simp [World.cell?, h1], hc k hk⟩
theorem rput_arg {C t eb : Nat} {w : World} {Lm E : List Int} (h : Rt C w t eb Lm E) (k : Nat) (n now : Int) (hi : k < Lm.length) (ho : okP Lm (k : Int) n now = false) :
    Calls Try.prog 19 #[.pointer (some ⟨t, 0, none⟩), .int .i64 (k : Int), .int .i64 n, .int .i64 now] w (RP C w t eb Lm (putE Lm E (k : Int) n now) (.int .i64 (putC Lm E (k : Int) n now : Nat))) := by
  have HP := Lib.hid (rput_same h (k : Int) n now 1 (by unfold putC; rw [if_pos (by omega), if_neg (by simp [ho])]) (by omega))
  obtain ⟨lb, lo, lc, l0, l1⟩ := h.lims k hi
  obtain ⟨ec, c1, hle, hmx, hc⟩ := h.ends
  have ho' : n < 1 ∨ Lm.getD k 0 < n ∨ 1099511627776 < n ∨ now < 0 ∨ 1099511627776 < now := by
    simp only [okP, Int.toNat_natCast, Bool.and_eq_false_iff, decide_eq_false_iff_not] at ho
    omega
  unfold maxLen at hmx
  clear h ho hc
  have d1 : decide ((k : Int) < 0) = false := by simp
  have d2 : decide (Lm.length ≤ k) = false := by simp; omega
  have d2' : decide ((Lm.length : Int) ≤ (k : Int)) = false := by simp; omega
  have d3 : (k : Int) < (Lm.length : Int) := by omega
  generalize Lm.length = ln at *
  generalize Lm.getD k 0 = x at *
  by_cases h1 : n < 1
  · have t1 : decide (n < 1) = true := by simpa using h1
    clear ho' h1
    go_enter Try.func19, Try.ntmps19
    go_wp2_with fail
    go_ret
    exact HP.out
  · have t1 : decide (n < 1) = false := by simpa using h1
    by_cases h2 : x < n
    · have t2 : decide (x < n) = true := by simpa using h2
      clear ho' h1 h2
      go_enter Try.func19, Try.ntmps19
      go_wp2_with fail
      go_ret
      exact HP.out
    · have t2 : decide (x < n) = false := by simpa using h2
      by_cases h3 : 1099511627776 < n
      · have t3 : decide (1099511627776 < n) = true := by simpa using h3
        clear ho' h1 h2 h3
        go_enter Try.func19, Try.ntmps19
        go_wp2_with fail
        go_ret
        exact HP.out
      · have t3 : decide (1099511627776 < n) = false := by simpa using h3
        by_cases h4 : now < 0
        · have t4 : decide (now < 0) = true := by simpa using h4
          clear ho' h1 h2 h3 h4
          go_enter Try.func19, Try.ntmps19
          go_wp2_with fail
          go_ret
          exact HP.out
        · have t4 : decide (now < 0) = false := by simpa using h4
          have t5 : decide (1099511627776 < now) = true := by simp; omega
          clear ho' h1 h2 h3 h4
          go_enter Try.func19, Try.ntmps19
          go_wp2_with fail
          go_ret
          exact HP.out
theorem rput_in {C t eb : Nat} {w : World} {Lm E : List Int} (h : Rt C w t eb Lm E) (k : Nat) (n now : Int) (hi : k < Lm.length) (ho : okP Lm (k : Int) n now = true) :
    Calls Try.prog 19 #[.pointer (some ⟨t, 0, none⟩), .int .i64 (k : Int), .int .i64 n, .int .i64 now] w (RP C w t eb Lm (putE Lm E (k : Int) n now) (.int .i64 (putC Lm E (k : Int) n now : Nat))) := by
  have ho' : 1 ≤ n ∧ n ≤ Lm.getD k 0 ∧ n ≤ 1099511627776 ∧ 0 ≤ now ∧ now ≤ 1099511627776 := by
    simp only [okP, Int.toNat_natCast, Bool.and_eq_true, decide_eq_true_eq] at ho
    omega
  obtain ⟨lb, lo, lc, l0, l1⟩ := h.lims k hi
  obtain ⟨ec, c1, hle, hmx, hc⟩ := h.ends
  obtain ⟨cc, cz⟩ := hc k hi
  unfold maxLen at hmx
  have H := Lib.hid h
  have t1 : decide (n < 1) = false := by simp; omega
  have t2 : decide (Lm.getD k 0 < n) = false := decide_eq_false (by omega)
  have t3 : decide (1099511627776 < n) = false := by simp; omega
  have t4 : decide (now < 0) = false := by simp; omega
  have t5 : decide (1099511627776 < now) = false := by simp; omega
  have d1 : decide ((k : Int) < 0) = false := by simp
  have d2 : decide (Lm.length ≤ k) = false := by simp; omega
  have d2' : decide ((Lm.length : Int) ≤ (k : Int)) = false := by simp; omega
  have d3 : (k : Int) < (Lm.length : Int) := by omega
  cases hb : isB E (k : Int) now with
  | true =>
    have HP := Lib.hid (rput_same h (k : Int) n now 4 (by unfold putC; rw [if_pos (by omega), if_pos ho, if_pos hb]) (by omega))
    have HB := Lib.hid hb
    clear h hc ho hb
    generalize Lm.length = ln at *
    generalize Lm.getD k 0 = x at *
    go_enter Try.func19, Try.ntmps19
    go_wp2_with fail
    refine (ris_any H.out (k : Int) now).mono ?_
    rintro e w1 ⟨rfl, rfl⟩
    rw [HB.out]
    go_wp2_with fail
    go_ret
    exact HP.out
  | false =>
    have hpc : putC Lm E (k : Int) n now = 0 := by unfold putC; rw [if_pos (by omega), if_pos ho, if_neg (by rw [hb]; simp)]
    have HP : Hid (RP C w t eb Lm (putE Lm E (k : Int) n now) (.int .i64 (putC Lm E (k : Int) n now : Nat)) (.returned (.int .i64 0)) (w.setCell ⟨eb, k, none⟩ (.int .i64 (now + n)))) :=
      Lib.hid ⟨by rw [hpc]; rfl, by unfold putE; rw [if_pos hpc]; exact h.set k (now + n) (by omega) hi, F2.set _ _⟩
    have HB := Lib.hid hb
    clear h hc ho hb hpc
    generalize Lm.length = ln at *
    generalize Lm.getD k 0 = x at *
    go_enter Try.func19, Try.ntmps19
    go_wp2_with fail
    refine (ris_any H.out (k : Int) now).mono ?_
    rintro e w1 ⟨rfl, rfl⟩
    rw [HB.out]
    go_wp2_with fail
    go_ret
    exact HP.out
theorem rput_any {C t eb : Nat} {w : World} {Lm E : List Int} (h : Rt C w t eb Lm E) (i n now : Int) :
    Calls Try.prog 19 #[.pointer (some ⟨t, 0, none⟩), .int .i64 i, .int .i64 n, .int .i64 now] w (RP C w t eb Lm (putE Lm E i n now) (.int .i64 (putC Lm E i n now : Nat))) := by
  by_cases hi : 0 ≤ i ∧ i < Lm.length
  · obtain ⟨k, rfl⟩ := Int.eq_ofNat_of_zero_le hi.1
    cases ho : okP Lm (k : Int) n now with
    | true => exact rput_in h k n now (by omega) ho
    | false => exact rput_arg h k n now (by omega) ho
  · exact rput_none h i n now hi

theorem Rt.ir {C t eb : Nat} {w : World} {Lm E : List Int} (h : Rt C w t eb Lm E) : Ir w (some ⟨eb, 0, none⟩) Lm.length E := by
  obtain ⟨ec, _, hle, hmx, hc⟩ := h.ends
  exact ⟨h.ln, by omega, fun x hx => by have := h.bd x hx; exact wf_i64 (by omega) (by omega), .inr ⟨eb, 0, rfl, h.lt.2, fun i hi => by have := (hc i hi).1; simpa using this⟩⟩
theorem rall_any {C t eb : Nat} {w : World} {Lm E : List Int} (h : Rt C w t eb Lm E) (hn : Lm.length * 8 ≤ 140737488355328) :
    Calls Try.prog 26 #[.pointer (some ⟨t, 0, none⟩)] w (CloneP w Lm.length E) := by
  obtain ⟨ec, c1, hle, hmx, hc⟩ := h.ends
  have H := Lib.hid h
  have hlt := h.lt.1
  have R := Lib.hid h.ir
  have c1' : (w.alloc (.cells #[] 2 (0, 0))).cell? ⟨t, 1, none⟩ = some (.slice (some ⟨eb, 0, none⟩) Lm.length ec) := ((alloc_b w (.cells #[] 2 (0, 0))).cell (p := ⟨t, 1, none⟩) hlt).trans c1
  unfold maxLen at hmx
  clear h hc c1
  generalize Lm.length = n at *
  go_enter Try.func26, Try.ntmps26
  go_wp2_with (at_builtin; refine wpList_append_ir 22 2 Try.underlying22 info2 rfl (.tmp 3) (.tmp 7) rfl w.heap.size _ ?hB (.slice (some ⟨w.heap.size, 0, none⟩) 0 0) 0 [] rfl ?own (some ⟨eb, 0, none⟩) n ec E rfl ?hby ?nil ?le ?_)
  case hB => simp
  case own => exact own_newi 2 (Nat.le_refl _)
  case nil => intro e; cases e
  case le => omega
  case hby => exact R.out.below ((Below.refl _ _).alloc (Nat.le_refl _) _)
  intro v2 w2 ho2 hg2 hn2 hk2
  have b2 : Below w.heap.size w w2 := ((Below.refl _ _).alloc (Nat.le_refl _) _).grown hg2 (by simp) (fun k hk => by simp [Value.ownBlock] at hk; omega)
  obtain ⟨a2, c2, rfl, ha2, hf2⟩ := own_ir ho2 R.out.wf
  have HP : Hid (CloneP w n E (.returned (.slice a2 n c2)) w2) := Lib.hid ⟨a2, c2, rfl, (by simpa using ha2), hf2, b2⟩
  clear ho2 hg2 hn2 hk2 b2 ha2 hf2
  go_wp2_with fail
  go_ret
  exact HP.out
end Go.Proofs.Ytfloceoopjokcaa
