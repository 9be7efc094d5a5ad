/- All ends; rows that are the same. -/
import Derived.Test.YtfloceoopjokcaaC
import Derived.Deep.QuietTactic
import Derived.BigQuiet
namespace Go.Proofs.Ytfloceoopjokcaa
set_option linter.unusedVariables false
open Go.ChangeShapes Go.WideShapes Go.ChangeAt Go.RowKit

theorem same_len {L M : List Int} (h : L.length ≠ M.length) : decide (L = M) = false := by
  rw [decide_eq_false_iff_not]; intro e; rw [e] at h; exact h rfl
theorem same_at {L M : List Int} {k : Nat} (h : ¬ L.getD k 0 = M.getD k 0) : decide (L = M) = false := by
  rw [decide_eq_false_iff_not]; intro e; rw [e] at h; exact h rfl
theorem same_all {L M : List Int} (h : L.length = M.length) (hh : ∀ j, j < L.length → L.getD j 0 = M.getD j 0) : decide (L = M) = true := by
  rw [decide_eq_true_iff]
  apply List.ext_getElem h
  intro i h1 h2
  have := hh i h1
  simpa [List.getD, List.getElem?_eq_getElem h1, List.getElem?_eq_getElem h2] using this
def SameP (L M : List Int) (w : World) (e : Ending) (w' : World) : Prop := e = .returned (.bool (decide (L = M))) ∧ Below w.heap.size w w'

set_option maxRecDepth 100000 in
set_option maxHeartbeats 2000000 in
theorem sameInts_any (a b : Option Addr) (n c m d : Nat) (L M : List Int) (w : World) (h : Ir w a n L) (g : Ir w b m M) :
    Calls Try.prog 15 #[.slice a n c, .slice b m d] w (SameP L M w) := by
  have hle := h.le
  unfold maxLen at hle
  by_cases hnm : n = m
  · subst hnm
    have H := Lib.hid h
    have G := Lib.hid g
    clear h g
    go_enter Try.func15, Try.ntmps15
    go_wp2_with fail
    go_loopw [5] (fun i wr => ∃ k : Nat, k ≤ n ∧ i = .int .i64 k ∧ (∀ j, j < k → L.getD j 0 = M.getD j 0) ∧ Below w.heap.size w wr) (fun i _ => n - (intOf i).toNat)
    case atStart => exact ⟨0, Nat.zero_le _, rfl, (fun j hj => by omega), Below.refl _ _⟩
    case round =>
      obtain ⟨wo, rfl⟩ : ∃ wo : World, wo = wr := ⟨_, rfl⟩
      obtain ⟨k, hk, rfl, hs, hb⟩ := hrel
      by_cases hkn : k < n
      · obtain ⟨b1, o1, e1, _, q1⟩ := (H.out.below hb).pos (by omega)
        obtain ⟨b2, o2, e2, _, q2⟩ := (G.out.below hb).pos (by omega)
        subst e1; subst e2
        have c1 := q1 k hkn
        have c2 := q2 k hkn
        have p1 : (0 : Int) ≤ (k : Int) := by omega
        have p2 : (k : Int) < (n : Int) := by omega
        have HS := Lib.hid hs
        have HB := Lib.hid hb
        by_cases hxy : L.getD k 0 = M.getD k 0
        · have XY := Lib.hid hxy
          rw [hxy] at c1
          generalize M.getD k 0 = x at c1 c2
          clear hs hb q1 q2 hxy
          go_wp2_with fail
          go_quiet (fail)
          go_wp2_with fail
          go_roundw
          case rel => exact ⟨k + 1, by omega, by go_num, (fun j hj => by by_cases e : j = k
                                                                         · subst e; exact XY.out
                                                                         · exact HS.out j (by omega)), below_drewN HB.out _⟩
          case measure => simp [intOf]; omega
        · have HP := Lib.hid (same_at hxy)
          generalize L.getD k 0 = x at c1 hxy
          generalize M.getD k 0 = y at c2 hxy
          have d1 : decide (x = y) = false := by simpa using hxy
          clear hs hb q1 q2
          go_wp2_with fail
          go_quiet (fail)
          go_wp2_with fail
          go_ret
          exact ⟨by rw [HP.out]; rfl, below_drewN HB.out _⟩
      · have hk' : k = n := by omega
        subst hk'
        have HP := Lib.hid (same_all (by rw [H.out.ln, G.out.ln]) (fun j hj => hs j (by rw [H.out.ln] at hj; exact hj)))
        have HB := Lib.hid hb
        clear hs hb
        go_wp2_with fail
        go_ret
        exact ⟨by rw [HP.out]; rfl, HB.out⟩
  · have HP := Lib.hid (same_len (L := L) (M := M) (by rw [h.ln, g.ln]; exact hnm))
    have d1 : decide (n = m) = false := by simpa using hnm
    clear h g
    go_enter Try.func15, Try.ntmps15
    go_wp2_with fail
    go_ret
    exact ⟨by rw [HP.out]; rfl, Below.refl _ _⟩

set_option maxRecDepth 100000 in
set_option maxHeartbeats 2000000 in
theorem same_any (a b : Option Addr) (n c m d : Nat) (L M : List Int) (w : World) (h : Ir w a n L) (g : Ir w b m M) :
    Calls Try.prog 24 #[.slice a n c, .slice b m d] w (SameP L M w) := by
  have hle := h.le
  unfold maxLen at hle
  by_cases hnm : n = m
  · subst hnm
    have H := Lib.hid h
    have G := Lib.hid g
    clear h g
    go_enter Try.func24, Try.ntmps24
    go_wp2_with fail
    go_loopw [5] (fun i wr => ∃ k : Nat, k ≤ n ∧ i = .int .i64 k ∧ (∀ j, j < k → L.getD j 0 = M.getD j 0) ∧ Below w.heap.size w wr) (fun i _ => n - (intOf i).toNat)
    case atStart => exact ⟨0, Nat.zero_le _, rfl, (fun j hj => by omega), Below.refl _ _⟩
    case round =>
      obtain ⟨wo, rfl⟩ : ∃ wo : World, wo = wr := ⟨_, rfl⟩
      obtain ⟨k, hk, rfl, hs, hb⟩ := hrel
      by_cases hkn : k < n
      · obtain ⟨b1, o1, e1, _, q1⟩ := (H.out.below hb).pos (by omega)
        obtain ⟨b2, o2, e2, _, q2⟩ := (G.out.below hb).pos (by omega)
        subst e1; subst e2
        have c1 := q1 k hkn
        have c2 := q2 k hkn
        have p1 : (0 : Int) ≤ (k : Int) := by omega
        have p2 : (k : Int) < (n : Int) := by omega
        have HS := Lib.hid hs
        have HB := Lib.hid hb
        by_cases hxy : L.getD k 0 = M.getD k 0
        · have XY := Lib.hid hxy
          rw [hxy] at c1
          generalize M.getD k 0 = x at c1 c2
          clear hs hb q1 q2 hxy
          go_wp2_with fail
          go_quiet (fail)
          go_wp2_with fail
          go_roundw
          case rel => exact ⟨k + 1, by omega, by go_num, (fun j hj => by by_cases e : j = k
                                                                         · subst e; exact XY.out
                                                                         · exact HS.out j (by omega)), below_drewN HB.out _⟩
          case measure => simp [intOf]; omega
        · have HP := Lib.hid (same_at hxy)
          generalize L.getD k 0 = x at c1 hxy
          generalize M.getD k 0 = y at c2 hxy
          have d1 : decide (x = y) = false := by simpa using hxy
          clear hs hb q1 q2
          go_wp2_with fail
          go_quiet (fail)
          go_wp2_with fail
          go_ret
          exact ⟨by rw [HP.out]; rfl, below_drewN HB.out _⟩
      · have hk' : k = n := by omega
        subst hk'
        have HP := Lib.hid (same_all (by rw [H.out.ln, G.out.ln]) (fun j hj => hs j (by rw [H.out.ln] at hj; exact hj)))
        have HB := Lib.hid hb
        clear hs hb
        go_wp2_with fail
        go_ret
        exact ⟨by rw [HP.out]; rfl, HB.out⟩
  · have HP := Lib.hid (same_len (L := L) (M := M) (by rw [h.ln, g.ln]; exact hnm))
    have d1 : decide (n = m) = false := by simpa using hnm
    clear h g
    go_enter Try.func24, Try.ntmps24
    go_wp2_with fail
    go_ret
    exact ⟨by rw [HP.out]; rfl, Below.refl _ _⟩
end Go.Proofs.Ytfloceoopjokcaa
