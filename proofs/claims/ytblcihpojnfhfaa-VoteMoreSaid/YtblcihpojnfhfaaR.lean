/- The document's votes, and the walk of VoteTells. -/
import Derived.Test.YtblcihpojnfhfaaH
namespace Go.Proofs.Ytblcihpojnfhfaa
set_option linter.unusedVariables false
open Go.ChangeShapes Go.WideShapes Go.ChangeAt Go.RowKit

theorem rvoters_all (a : Option Addr) (len cap : Nat) (g : Nat → I) (w : World) (h : Sl w a len g) :
    Calls Try.prog 20 #[.slice a len cap] w fun e w' => e = .returned (.int .i64 (cnt votesF g len)) ∧ w = w' := by
  have hl := h.le
  unfold maxLen at hl
  have H := Lib.hid h
  clear h
  go_enter Try.func20, Try.ntmps20
  go_wp2_with fail
  go_loop [3, 4] (fun n i => ∃ k : Nat, k ≤ len ∧ i = .int .i64 k ∧ n = .int .i64 (cnt votesF g k)) (fun _ i => len - (intOf i).toNat)
  case atStart => exact ⟨0, Nat.zero_le _, rfl, rfl⟩
  case round =>
    obtain ⟨k, hk, rfl, rfl⟩ := hrel
    have hc := cnt_le votesF g k
    by_cases hlt : k < len
    · obtain ⟨b, off, ha, hlt', hcs⟩ := H.out.pos (by omega)
      have c2 : w.cell? ⟨b, off + k * 3 + 2, none⟩ = some (.bool (g k).2.2) := hcs k hlt 2 (by omega)
      clear hcs
      subst ha
      have e : cnt votesF g (k + 1) = cnt votesF g k + if votesF (g k) then 1 else 0 := rfl
      unfold votesF at e
      have E := Lib.hid e
      clear e
      generalize hv : (g k).2.2 = v at E c2
      clear hv
      cases v
      all_goals
        go_wp2_with fail
        go_round
        case rel => exact ⟨k + 1, by omega, by go_num, by unfold votesF at *; rw [E.out]; simp⟩
        case measure => simp [intOf]; omega
    · have hk' : k = len := by omega
      subst hk'
      go_wp2_with fail
      go_ret
      exact ⟨rfl, rfl⟩

theorem ryes_all (a : Option Addr) (len cap : Nat) (g : Nat → I) (w : World) (h : Sl w a len g) :
    Calls Try.prog 10 #[.slice a len cap] w fun e w' => e = .returned (.int .i64 (cnt yesF g len)) ∧ w = w' := by
  have hl := h.le
  unfold maxLen at hl
  have H := Lib.hid h
  clear h
  go_enter Try.func10, Try.ntmps10
  go_wp2_with fail
  go_loop [3, 4] (fun n i => ∃ k : Nat, k ≤ len ∧ i = .int .i64 k ∧ n = .int .i64 (cnt yesF g k)) (fun _ i => len - (intOf i).toNat)
  case atStart => exact ⟨0, Nat.zero_le _, rfl, rfl⟩
  case round =>
    obtain ⟨k, hk, rfl, rfl⟩ := hrel
    have hc := cnt_le yesF g k
    by_cases hlt : k < len
    · obtain ⟨b, off, ha, hlt', hcs⟩ := H.out.pos (by omega)
      have c0 : w.cell? ⟨b, off + k * 3, none⟩ = some (.bool (g k).1) := hcs k hlt 0 (by omega)
      have c1 : w.cell? ⟨b, off + k * 3 + 1, none⟩ = some (.bool (g k).2.1) := hcs k hlt 1 (by omega)
      have c2 : w.cell? ⟨b, off + k * 3 + 2, none⟩ = some (.bool (g k).2.2) := hcs k hlt 2 (by omega)
      clear hcs
      subst ha
      have e : cnt yesF g (k + 1) = cnt yesF g k + if yesF (g k) then 1 else 0 := rfl
      unfold yesF at e
      have E := Lib.hid e
      clear e
      generalize hv : (g k).2.2 = v at E c2
      generalize hx : (g k).1 = x at E c0
      generalize hz : (g k).2.1 = z at E c1
      clear hv hx hz
      cases v <;> cases x <;> cases z
      all_goals
        go_wp2_with fail
        go_round
        case rel => exact ⟨k + 1, by omega, by go_num, by unfold yesF at *; rw [E.out]; simp⟩
        case measure => simp [intOf]; omega
    · have hk' : k = len := by omega
      subst hk'
      go_wp2_with fail
      go_ret
      exact ⟨rfl, rfl⟩

theorem rneed_all (n : Int) (a : Option Addr) (len cap : Nat) (g : Nat → I) (w : World) (h : Sl w a len g) :
    Calls Try.prog 12 #[.int .i64 n, .slice a len cap] w fun e w' => e = .returned (.int .i64 (needF n (cnt votesF g len))) ∧ w = w' := by
  have H := Lib.hid h
  clear h
  go_enter Try.func12, Try.ntmps12
  go_wp2_with fail
  all_goals
    refine (rvoters_all a len cap g _ H.out).mono ?_
    rintro e w1 ⟨rfl, rfl⟩
    go_wp2_with fail
    all_goals
      go_ret
      exact ⟨bret_int (by unfold needF; (repeat' split) <;> omega), rfl⟩

theorem need_pos (n : Int) (c : Nat) : (0 < needF n c) ↔ 0 < c := by unfold needF; split <;> split at * <;> omega

theorem rtrips_all (n : Int) (a : Option Addr) (len cap : Nat) (g : Nat → I) (w : World) (h : Sl w a len g) :
    Calls Try.prog 14 #[.int .i64 n, .slice a len cap] w fun e w' => e = .returned (.bool (tripsF n g len)) ∧ w = w' := by
  have H := Lib.hid h
  clear h
  have ht : tripsF n g len = (decide ((0 : Int) < (cnt votesF g len : Int)) && decide (needF n (cnt votesF g len) ≤ (cnt yesF g len : Int))) := by
    unfold tripsF
    rw [show decide (0 < needF n (cnt votesF g len)) = decide ((0 : Int) < (cnt votesF g len : Int)) from decide_eq_decide.2 (by rw [need_pos]; omega)]
  rw [ht]
  clear ht
  generalize hk0 : needF n (cnt votesF g len) = k
  generalize hc0 : cnt votesF g len = c
  have HK := Lib.hid hk0
  have HC := Lib.hid hc0
  clear hk0 hc0
  by_cases hk : 0 < c
  · have hd : decide ((0 : Int) < (c : Int)) = true := by simp; omega
    go_enter Try.func14, Try.ntmps14
    go_wp2_with fail
    refine (rvoters_all a len cap g _ H.out).mono ?_
    rintro e w1 ⟨rfl, rfl⟩
    rw [HC.out]
    go_wp2_with fail
    refine (ryes_all a len cap g _ H.out).mono ?_
    rintro e w1 ⟨rfl, rfl⟩
    go_wp2_with fail
    refine (rneed_all n a len cap g _ H.out).mono ?_
    rintro e w1 ⟨rfl, rfl⟩
    rw [HK.out]
    go_wp2_with fail
    go_ret
    exact ⟨bret_bool (by rw [hd]; simp), rfl⟩
  · have hd : decide ((0 : Int) < (c : Int)) = false := by simp; omega
    go_enter Try.func14, Try.ntmps14
    go_wp2_with fail
    refine (rvoters_all a len cap g _ H.out).mono ?_
    rintro e w1 ⟨rfl, rfl⟩
    rw [HC.out]
    go_wp2_with fail
    go_ret
    exact ⟨bret_bool (by rw [hd]; rfl), rfl⟩

theorem rhealthy_all (n : Int) (a : Option Addr) (len cap : Nat) (g : Nat → I) (w : World) (h : Sl w a len g) :
    Calls Try.prog 16 #[.int .i64 n, .slice a len cap] w fun e w' => e = .returned (.bool (healthyF n g len)) ∧ w = w' := by
  have H := Lib.hid h
  clear h
  have ht : healthyF n g len = ((((cnt votesF g len : Nat) : Int) == (len : Int)) && !tripsF n g len) := rfl
  rw [ht]
  clear ht
  generalize ht0 : tripsF n g len = t
  generalize hk0 : cnt votesF g len = c
  have HT := Lib.hid ht0
  have HK := Lib.hid hk0
  clear ht0 hk0
  cases hk : ((c : Int) == (len : Int))
  · go_enter Try.func16, Try.ntmps16
    go_wp2_with fail
    refine (rvoters_all a len cap g _ H.out).mono ?_
    rintro e w1 ⟨rfl, rfl⟩
    rw [HK.out]
    go_wp2_with fail
    go_ret
    exact ⟨rfl, rfl⟩
  · go_enter Try.func16, Try.ntmps16
    go_wp2_with fail
    refine (rvoters_all a len cap g _ H.out).mono ?_
    rintro e w1 ⟨rfl, rfl⟩
    rw [HK.out]
    go_wp2_with fail
    refine (rtrips_all n a len cap g _ H.out).mono ?_
    rintro e w2 ⟨rfl, rfl⟩
    rw [HT.out]
    go_wp2_with fail
    go_ret
    exact ⟨rfl, rfl⟩

theorem tells_walk (n : Int) (a : Option Addr) (len cap : Nat) (g : Nat → I) (w : World) (h : Sl w a len g) :
    Calls Try.prog 3 #[.int .i64 n, .slice a len cap] w fun e w' => e = .returned (.bool true) ∧ Below w.heap.size w w' := by
  have hl := h.le
  unfold maxLen at hl
  have H := Lib.hid h
  clear h
  by_cases hs : 5000 < len
  · have hd : decide (5000 < (len : Int)) = true := by simp; omega
    go_enter Try.func3, Try.ntmps3
    go_wp2_with fail
    refine (head_any w).mono ?_
    rintro e w0 ⟨rfl, hb⟩
    go_wp2_with fail
    go_ret
    exact ⟨rfl, hb⟩
  · have hd : decide (5000 < (len : Int)) = false := by simp; omega
    go_enter Try.func3, Try.ntmps3
    go_wp2_with fail
    refine (head_any w).mono ?_
    rintro e w0 ⟨rfl, hb⟩
    go_wp2_with fail
    refine (yes_all a len cap g _ (H.out.below hb)).mono ?_
    rintro e w1 ⟨rfl, q1⟩
    have b1 := hb.trans (q1.mono hb.size)
    go_wp2_with fail
    refine (ryes_all a len cap g _ (H.out.below b1)).mono ?_
    rintro e w1 ⟨rfl, rfl⟩
    go_wp2_with fail
    refine (need_all n a len cap g _ (H.out.below b1)).mono ?_
    rintro e w2 ⟨rfl, q2⟩
    have b2 := b1.trans (q2.mono b1.size)
    go_wp2_with fail
    refine (rneed_all n a len cap g _ (H.out.below b2)).mono ?_
    rintro e w1 ⟨rfl, rfl⟩
    go_wp2_with fail
    refine (trips_all n a len cap g _ (H.out.below b2)).mono ?_
    rintro e w3 ⟨rfl, q3⟩
    have b3 := b2.trans (q3.mono b2.size)
    go_wp2_with fail
    refine (rtrips_all n a len cap g _ (H.out.below b3)).mono ?_
    rintro e w1 ⟨rfl, rfl⟩
    go_wp2_with fail
    refine (healthy_all n a len cap g _ (H.out.below b3)).mono ?_
    rintro e w4 ⟨rfl, q4⟩
    have b4 := b3.trans (q4.mono b3.size)
    go_wp2_with fail
    refine (rhealthy_all n a len cap g _ (H.out.below b4)).mono ?_
    rintro e w1 ⟨rfl, rfl⟩
    go_wp2_with fail
    go_ret
    exact ⟨rfl, b4⟩

theorem rows_in {H : Type} {enc : TypeId × Value → H} {w : World} {fuel : Nat} {a : Option Addr} {len cap : Nat} {x : DataW H × List MemPlace} (h : DataW.trod enc Try.prog w 0 (fun _ => true) true fuel 22 [.slice a len cap] = some x) :
    ∃ f : Nat → I, Sl w a len f := by
  obtain ⟨V, hV, hf⟩ := row_structs (sz := 3) Try.underlying22 Try.underlying29 (by kernel_rfl) (by omega) h
  obtain ⟨f, hff⟩ := Go.Deep.choose_lt (α := I) (p := fun i b => V i = inV b) (fun i hi => by
    obtain ⟨hl, n, hfi⟩ := hf i hi
    obtain ⟨b0, h0⟩ := field_bool (P := Try.prog) Try.underlying4 (by kernel_rfl) (hfi 0 _ rfl)
    obtain ⟨b1, h1⟩ := field_bool (P := Try.prog) Try.underlying4 (by kernel_rfl) (hfi 1 _ rfl)
    obtain ⟨b2, h2⟩ := field_bool (P := Try.prog) Try.underlying4 (by kernel_rfl) (hfi 2 _ rfl)
    exact ⟨(b0, b1, b2), list3 hl h0 h1 h2⟩)
  exact ⟨f, hV.congr hff⟩

end Go.Proofs.Ytblcihpojnfhfaa
