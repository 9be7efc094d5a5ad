/- SameVals, Same. -/
import Derived.Test.YtcmolkhaajcmpaaU
namespace Go.Proofs.Ytcmolkhaajcmpaa
set_option linter.unusedVariables false
open Go.ChangeShapes Go.WideShapes Go.ChangeAt Go.RowKit

set_option maxRecDepth 100000 in
set_option maxHeartbeats 4000000 in
theorem samevals_any (a : Option Addr) (n c : Nat) (V : List Nat) (b : Option Addr) (m d : Nat) (U : List Nat) (w : World) (h : Wds w a n V) (h2 : Wds w b m U) :
    Calls Try.prog 23 #[.slice a n c, .slice b m d] w fun e w' => e = .returned (.bool (decide (V = U))) ∧ Below w.heap.size w w' := by
  have hln := h.ln
  have hln2 := h2.ln
  have hle := h.le
  unfold maxLen at hle
  by_cases hnm : n = m
  · subst hnm
    have H := Lib.hid h
    have H2 := Lib.hid h2
    have t1 : ((n : Int) != (n : Int)) = false := by simp
    clear h h2
    go_enter Try.func23, Try.ntmps23
    go_wp2_with fail
    go_loopw [5] (fun i wr => ∃ k : Nat, k ≤ n ∧ i = .int .i64 k ∧ V.take k = U.take k ∧ Below w.heap.size w wr) (fun i _ => n - (intOf i).toNat)
    case atStart => exact ⟨0, Nat.zero_le _, rfl, rfl, Below.refl _ _⟩
    case round =>
      obtain ⟨wo, rfl⟩ : ∃ wo : World, wo = wr := ⟨_, rfl⟩
      obtain ⟨k, hk, rfl, hz, hb⟩ := hrel
      by_cases hkn : k < n
      · obtain ⟨b1, o1, rfl, e1⟩ := (H.out.below hb).row k hkn
        obtain ⟨b2, o2, rfl, e2⟩ := (H2.out.below hb).row k hkn
        have t1' := take_snoc' V k (by omega)
        have t2' := take_snoc' U k (by omega)
        rw [hz] at t1'
        have d0 : (k : Int) < (n : Int) := by omega
        generalize hv : V.getD k 0 = v at e1 t1'
        generalize hu : U.getD k 0 = u at e2 t2'
        have HV := Lib.hid hv
        have HU := Lib.hid hu
        have T1 := Lib.hid t1'
        have T2 := Lib.hid t2'
        have HB := Lib.hid hb
        clear hv hu t1' t2' hz hb
        by_cases hvu : v = u
        · subst hvu
          have tt : ((v : Int) != (v : Int)) = false := by simp
          go_wp2_with fail
          go_region
          all_goals
            go_wp2_with fail
            go_roundw
            case rel => exact ⟨k + 1, by omega, by go_num, by rw [T1.out, T2.out], HB.out.drew⟩
            case measure => simp [intOf]; omega
        · have tt : ((v : Int) != (u : Int)) = true := by simp; omega
          have hne : decide (V = U) = false := decide_eq_false (fun e => hvu (by rw [← HV.out, ← HU.out, e]))
          have HN := Lib.hid hne
          clear hne
          go_wp2_with fail
          go_region
          all_goals
            go_wp2_with fail
            go_ret
            exact ⟨by rw [HN.out]; rfl, HB.out.drew⟩
      · have hk' : k = n := by omega
        subst hk'
        rw [List.take_of_length_le (by omega), List.take_of_length_le (by omega)] at hz
        have HE : Hid (decide (V = U) = true) := Lib.hid (decide_eq_true hz)
        have HB := Lib.hid hb
        clear hz hb
        go_wp2_with fail
        go_ret
        exact ⟨by rw [HE.out]; rfl, HB.out⟩
  · have t1 : ((n : Int) != (m : Int)) = true := by simp; omega
    have hne : decide (V = U) = false := decide_eq_false (fun e => hnm (by rw [← hln, ← hln2, e]))
    have HN := Lib.hid hne
    clear h h2 hne
    go_enter Try.func23, Try.ntmps23
    go_wp2_with fail
    go_ret
    exact ⟨by rw [HN.out]; rfl, Below.refl _ _⟩
/-- Are two requests alike? -/
def sameR (r s : Rq) : Bool := decide (r.fc = s.fc) && (decide (r.ad = s.ad) && (decide (r.q = s.q) && (decide (r.to = s.to) && decide (r.V = s.V))))
def SameP (w : World) (r s : Rq) (e : Ending) (w' : World) : Prop := e = .returned (.bool (sameR r s)) ∧ Below w.heap.size w w'
set_option maxRecDepth 100000 in
set_option maxHeartbeats 4000000 in
theorem same_any (r s : Rq) (w : World) (hr : r.ok w) (hs : s.ok w) : Calls Try.prog 12 #[rv r, rv s] w (SameP w r s) := by
  have HRA := Lib.hid hr.arg.row
  have HSA := Lib.hid hs.arg.row
  clear hr hs
  obtain ⟨fc, ad, q, vs, vn, vc, V, rto⟩ := r
  obtain ⟨fc2, ad2, q2, vs2, vn2, vc2, V2, rto2⟩ := s
  simp only [rv]
  have b0 : Below w.heap.size w ((w.alloc (.cells #[.int .i64 fc, .int .i64 ad, .int .i64 q, .slice vs vn vc, .int .i64 rto] 24 (0, 0))).alloc (.cells #[.int .i64 fc2, .int .i64 ad2, .int .i64 q2, .slice vs2 vn2 vc2, .int .i64 rto2] 24 (0, 0))) := ((Below.refl _ _).alloc (Nat.le_refl _) _).alloc (by simp) _
  have SV := Lib.hid (samevals_any vs vn vc V vs2 vn2 vc2 V2 _ (HRA.out.below b0) (HSA.out.below b0))
  have B0 := Lib.hid b0
  obtain ⟨P, hP⟩ : ∃ P, P = SameP w ⟨fc, ad, q, vs, vn, vc, V, rto⟩ ⟨fc2, ad2, q2, vs2, vn2, vc2, V2, rto2⟩ := ⟨_, rfl⟩
  rw [← hP]
  have HP := Lib.hid hP
  clear b0 hP
  by_cases e1 : fc = fc2
  · have t1 : (fc == fc2) = true := by simpa using e1
    by_cases e2 : ad = ad2
    · have t2 : (ad == ad2) = true := by simpa using e2
      by_cases e3 : q = q2
      · have t3 : (q == q2) = true := by simpa using e3
        by_cases e4 : rto = rto2
        · have t4 : (rto == rto2) = true := by simpa using e4
          have HX : Hid (sameR ⟨fc, ad, q, vs, vn, vc, V, rto⟩ ⟨fc2, ad2, q2, vs2, vn2, vc2, V2, rto2⟩ = decide (V = V2)) := Lib.hid (by simp [sameR, e1, e2, e3, e4])
          clear e1 e2 e3 e4
          go_enter Try.func12, Try.ntmps12
          go_wp2_with fail
          refine SV.out.mono ?_
          rintro e w2 ⟨rfl, b2⟩
          have B2 := Lib.hid (B0.out.trans (b2.mono B0.out.size))
          clear b2
          go_wp2_with fail
          rw [HP.out]
          exact ⟨by rw [HX.out]; rfl, B2.out⟩
        · have t4 : (rto == rto2) = false := by simpa using e4
          have HX : Hid (sameR ⟨fc, ad, q, vs, vn, vc, V, rto⟩ ⟨fc2, ad2, q2, vs2, vn2, vc2, V2, rto2⟩ = false) := Lib.hid (by simp [sameR, e4])
          clear e1 e2 e3 e4
          go_enter Try.func12, Try.ntmps12
          go_wp2_with fail
          rw [HP.out]
          exact ⟨by rw [HX.out], B0.out⟩
      · have t3 : (q == q2) = false := by simpa using e3
        have HX : Hid (sameR ⟨fc, ad, q, vs, vn, vc, V, rto⟩ ⟨fc2, ad2, q2, vs2, vn2, vc2, V2, rto2⟩ = false) := Lib.hid (by simp [sameR, e3])
        clear e1 e2 e3
        go_enter Try.func12, Try.ntmps12
        go_wp2_with fail
        rw [HP.out]
        exact ⟨by rw [HX.out], B0.out⟩
    · have t2 : (ad == ad2) = false := by simpa using e2
      have HX : Hid (sameR ⟨fc, ad, q, vs, vn, vc, V, rto⟩ ⟨fc2, ad2, q2, vs2, vn2, vc2, V2, rto2⟩ = false) := Lib.hid (by simp [sameR, e2])
      clear e1 e2
      go_enter Try.func12, Try.ntmps12
      go_wp2_with fail
      rw [HP.out]
      exact ⟨by rw [HX.out], B0.out⟩
  · have t1 : (fc == fc2) = false := by simpa using e1
    have HX : Hid (sameR ⟨fc, ad, q, vs, vn, vc, V, rto⟩ ⟨fc2, ad2, q2, vs2, vn2, vc2, V2, rto2⟩ = false) := Lib.hid (by simp [sameR, e1])
    clear e1
    go_enter Try.func12, Try.ntmps12
    go_wp2_with fail
    rw [HP.out]
    exact ⟨by rw [HX.out], B0.out⟩
end Go.Proofs.Ytcmolkhaajcmpaa
