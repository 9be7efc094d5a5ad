/- The document's Put of a request, and what an exception to it is. -/
import Derived.Test.YthcfmfkdglmkmaaWh
namespace Go.Proofs.Ythcfmfkdglmkmaa
set_option linter.unusedVariables false
set_option linter.unusedSimpArgs false
open Go.ChangeShapes Go.WideShapes Go.ChangeAt Go.RowKit

theorem bytesD_any (r : Rq) (w : World) (hr : r.ok w) (hh : rightR r = true) : Calls Try.prog 26 #[rv r] w (HeadP w r.fc.toNat) := by
  have hk := (right_facts hh).1
  have hc : r.fc = 23 ∨ r.fc = 22 ∨ r.fc = 16 ∨ r.fc = 15 ∨ r.fc = 6 ∨ r.fc = 5 ∨ r.fc = 4 ∨ r.fc = 3 ∨ r.fc = 2 ∨ r.fc = 1 := by
    generalize fo r.fc = f at hk
    unfold formOf at hk
    repeat' split at hk
    all_goals first | (cases hk; done) | omega
  rcases hc with h | h | h | h | h | h | h | h | h | h
  · exact bytes23_any r w hr hh h
  · exact bytes6_any r w hr hh (.inr h)
  · exact bytes16_any r w hr hh h
  · exact bytes15_any r w hr hh h
  · exact bytes6_any r w hr hh (.inl h)
  · exact bytes5_any r w hr hh h
  · exact bytesA_any r w hr hh (by omega)
  · exact bytesA_any r w hr hh (by omega)
  · exact bytesA_any r w hr hh (by omega)
  · exact bytesA_any r w hr hh (by omega)
set_option maxRecDepth 100000 in
set_option maxHeartbeats 4000000 in
theorem putD_any (r : Rq) (w : World) (hr : r.ok w) (hh : rightR r = true) : Calls Try.prog 17 #[rv r] w (HeadP w r.fc.toNat) := by
  obtain ⟨P, hP⟩ : ∃ P, P = (HeadP w r.fc.toNat : Ending → World → Prop) := ⟨_, rfl⟩
  rw [← hP]
  have HR := Lib.hid (fun W (h : Below w.heap.size w W) => right14_any r W (hr.below h))
  have HB := Lib.hid (fun W (h : Below w.heap.size w W) => bytesD_any r W (hr.below h) hh)
  have FIN : Hid (∀ W, Below w.heap.size w W → ∀ e W', HeadP W r.fc.toNat e W' → P e W') := Lib.hid (by
    intro W h e W' h2
    rw [hP]
    obtain ⟨v, L, rfl, h3, h4, h5, h6⟩ := h2
    exact ⟨v, L, rfl, h3.mono h.size, h4, h5, h.trans (h6.mono h.size)⟩)
  have FV : Hid (∀ W e W', HeadP W r.fc.toNat e W' → ∃ v, e = .returned v) := Lib.hid (fun W e W' ⟨v, L, h, _⟩ => ⟨v, h⟩)
  rw [hh] at HR
  generalize HeadP = HP2 at *
  obtain ⟨fc, ad, q, vs, vn, vc, V, rto⟩ := r
  simp only [rv] at HR HB ⊢
  obtain ⟨W, hW⟩ : ∃ W, W = w.alloc (.cells #[.int .i64 fc, .int .i64 ad, .int .i64 q, .slice vs vn vc, .int .i64 rto] 24 (0, 0)) := ⟨_, rfl⟩
  have k1 := alloc_bq w (.cells #[.int .i64 fc, .int .i64 ad, .int .i64 q, .slice vs vn vc, .int .i64 rto] 24 (0, 0))
  have x0 := heap_alloc_new w (.cells #[.int .i64 fc, .int .i64 ad, .int .i64 q, .slice vs vn vc, .int .i64 rto] 24 (0, 0))
  rw [← hW] at k1 x0
  have B0 := Lib.hid k1
  have X0 := Lib.hid x0
  have HW := Lib.hid hW
  obtain ⟨c0, c1, c2, c3, c4⟩ := cells5 X0.out
  clear hP hr hh k1 x0 hW
  go_enter Try.func17, Try.ntmps17
  go_upto_region 1 with fail
  rw [← HW.out]
  go_wp2_with fail
  refine (HR.out W B0.out).mono ?_
  rintro e w1 ⟨rfl, z1⟩
  have B1 := Lib.hid (B0.out.trans (Below.mono z1 B0.out.size))
  have X1 := Lib.hid (low_of z1 X0.out)
  clear z1 c0 c1 c2 c3 c4
  obtain ⟨c0, c1, c2, c3, c4⟩ := cells5 X1.out
  go_wp2_with fail
  refine (HB.out w1 B1.out).mono ?_
  intro e w2 h2
  have F2 := Lib.hid (FIN.out w1 B1.out e w2 h2)
  obtain ⟨v, rfl⟩ := FV.out _ _ _ h2
  clear h2
  go_wp2_with fail
  exact F2.out

theorem or_up : ∀ x : Nat, x < 128 → x ||| 128 = x + 128 := by decide
/-- An exception to a request's bytes is its answer's, of that code. -/
theorem al_rep {r : Rq} (hh : rightR r = true) {c : Int} (c1 : 1 ≤ c) (c4 : c ≤ 4) (L : List Nat) : alN (r.fc.toNat :: L) c = repN r c [] ∧ okR r c [] = true := by
  have hf := right_facts hh
  have hx : isEx c = true := by unfold isEx; simp; omega
  constructor
  · unfold alN repN
    rw [hx, if_pos rfl, if_pos (by omega)]
    simp only [List.getD_cons_zero]
    rw [or_up _ (by omega)]
  · unfold okR mayB
    rw [hh, if_pos (.inl (by omega)), hx]
    simp
theorem al_none (D : List Nat) {c : Int} (h : c < 1 ∨ 4 < c) : alN D c = [] := by
  have hx : isEx c = false := by unfold isEx; simp; omega
  unfold alN
  rw [hx]; rfl
end Go.Proofs.Ythcfmfkdglmkmaa
