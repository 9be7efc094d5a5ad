/- The live question. -/
import Derived.Test.YtcmolkhaajcmpaaV
namespace Go.Proofs.Ytcmolkhaajcmpaa
set_option linter.unusedVariables false
open Go.ChangeShapes Go.WideShapes Go.ChangeAt Go.RowKit

def hq0 : Rq := ⟨3, 1, 2, none, 0, 0, [], 0⟩
def hV : List Nat := [1, 0, 1, 1, 0, 0, 1, 1, 1, 0]
def hq1 (vs : Option Addr) (vn vc : Nat) : Rq := ⟨15, 19, 10, vs, vn, vc, hV, 0⟩
theorem hx1 : (if rightR hq0 = true then putR (fo hq0.fc) hq0 else []) = [3, 0, 1, 0, 2] := by decide +kernel
theorem hx2 : getC [15, 0, 19, 0, 10, 2, 205, 1] = 0 := by decide +kernel
theorem hx2q : (getQ [15, 0, 19, 0, 10, 2, 205, 1]).fc = 15 ∧ (getQ [15, 0, 19, 0, 10, 2, 205, 1]).ad = 19 ∧ (getQ [15, 0, 19, 0, 10, 2, 205, 1]).q = 10 ∧ (getQ [15, 0, 19, 0, 10, 2, 205, 1]).V = hV ∧ (getQ [15, 0, 19, 0, 10, 2, 205, 1]).to = 0 := by decide +kernel
theorem hx3 : getC [7] = 1 := by decide +kernel
theorem hx4 : getC [3, 0, 1, 0, 126] = 3 := by decide +kernel
theorem hx5 : getC [3, 255, 255, 0, 2] = 2 := by decide +kernel
theorem hx6 : (fo 23).rd = true ∧ ((fo 23).rd && (fo 23).bi) = false := by decide +kernel
theorem hx7 : (fo 5).wr = true ∧ ((fo 5).wr && (fo 5).bi) = true := by decide +kernel
theorem hx8 : rightR (hq1 none 0 0) = true := by decide +kernel
theorem hx9 : rightR zq = false := by decide +kernel
theorem getq_z {L : List Nat} (h : getC L ≠ 0) : getQ L = zq := by unfold getQ; rw [if_neg h]
theorem hok0 (w : World) : hq0.ok w := ⟨⟨Wds.nil _ _, fun _ => ⟨rfl, rfl⟩, Nat.le_refl _, Nat.zero_le _⟩, by decide, by decide, by decide, by decide⟩
theorem zok (w : World) : zq.ok w := ⟨⟨Wds.nil _ _, fun _ => ⟨rfl, rfl⟩, Nat.le_refl _, Nat.zero_le _⟩, by decide, by decide, by decide, by decide⟩
theorem arg_new (w : World) (L : List Nat) (hl : L.length ≤ 1000) (hb : ∀ b ∈ L, b < 256) : ArgB (w.alloc (.cells (bv L).toArray 5 (0, 0))) (some ⟨w.heap.size, 0, none⟩) L.length L.length L :=
  ⟨bys_block L (by unfold maxLen; omega) hb (heap_alloc_new _ _), (fun e => by cases e), Nat.le_refl _, by unfold maxLen; omega⟩
set_option maxRecDepth 100000 in
set_option maxHeartbeats 8000000 in
theorem head_any (w : World) : Calls Try.prog 8 #[] w fun e w' => e = .returned (.bool true) ∧ Below w.heap.size w w' := by
  have P0 := Lib.hid (put_any hq0 w (hok0 w))
  simp only [rv, hq0] at P0
  go_enter Try.func8, Try.ntmps8
  go_wp2_with fail
  refine P0.out.mono ?_
  rintro e w1 ⟨v, rfl, ho, b1⟩
  have ho : OwnV w.heap.size w1 v [3, 0, 1, 0, 2] := by
    have := hx1
    unfold hq0 at this
    rw [this] at ho
    exact ho
  obtain ⟨pa, pc, rfl, hM, _, _⟩ := own_arg ho (by decide)
  have M1 := Lib.hid hM
  have B1 := Lib.hid b1
  have A1 := arg_new w1 [15, 0, 19, 0, 10, 2, 205, 1] (by decide) (by decide)
  have G1 := Lib.hid (get_any _ _ _ _ _ A1 (by decide))
  clear hM b1 ho A1
  go_wp2_with fail
  refine G1.out.mono ?_
  rintro e w2 ⟨vs, vn, vc, rfl, hA, b2⟩
  obtain ⟨q1, q2, q3, q4, q5⟩ := hx2q
  rw [hx2]
  simp only [wsl, rv, q1, q2, q3, q5]
  rw [q4] at hA
  have B2 := Lib.hid (B1.out.trans ((((Below.refl w1.heap.size w1).alloc (Nat.le_refl _) (.cells (bv [15, 0, 19, 0, 10, 2, 205, 1]).toArray 5 (0, 0))).trans (b2.mono (by simp))).mono B1.out.size))
  have al2 := (Below.refl w2.heap.size w2).alloc (Nat.le_refl _) (.cells #[.int .i64 15, .int .i64 19, .int .i64 10, .slice vs vn vc, .int .i64 0] 24 (0, 0))
  have QK := Lib.hid (heap_alloc_new w2 (.cells #[.int .i64 15, .int .i64 19, .int .i64 10, .slice vs vn vc, .int .i64 0] 24 (0, 0)))
  have AV := Lib.hid (hA.below al2)
  have M2 := Lib.hid ((M1.out.below (((Below.refl _ _).alloc (Nat.le_refl _) _).trans (b2.mono (by simp)))).below al2)
  have C2 := Lib.hid (B2.out.trans (al2.mono B2.out.size))
  obtain ⟨z2, hz2⟩ : ∃ z, z = w2.heap.size := ⟨_, rfl⟩
  obtain ⟨W2', hW2⟩ : ∃ W, W = w2.alloc (.cells #[.int .i64 15, .int .i64 19, .int .i64 10, .slice vs vn vc, .int .i64 0] 24 (0, 0)) := ⟨_, rfl⟩
  have Z2 := Lib.hid (show z2 < W2'.heap.size from by rw [hW2, hz2]; simp)
  rw [← hz2, ← hW2] at QK
  rw [← hW2] at AV M2 C2
  have G2 := Lib.hid (get_any _ _ _ _ _ (arg_new W2' [7] (by decide) (by decide)) (by decide))
  have HW2 := Lib.hid hW2
  have HZ2 := Lib.hid hz2
  rw [hW2, World.size_alloc] at G2
  clear hA b2 al2 M1 B1 q1 q2 q3 q4 q5 hW2 hz2
  go_wp2_with fail
  refine G2.out.mono ?_
  rw [← HW2.out]
  rintro e w3 ⟨vs3, vn3, vc3, rfl, _, b3⟩
  rw [getq_z (by rw [hx3]; decide), hx3]
  simp only [zq, wsl, rv]
  rw [← HZ2.out]
  have b3' := ((Below.refl W2'.heap.size W2').alloc (Nat.le_refl _) (.cells (bv [7]).toArray 5 (0, 0))).trans (b3.mono (by simp))
  have K3 := Lib.hid b3'
  clear b3 b3' G2
  obtain ⟨W3', hW3⟩ : ∃ W, W = w3.alloc (.cells #[.int .i64 0, .int .i64 0, .int .i64 0, .slice vs3 vn3 vc3, .int .i64 0] 24 (0, 0)) := ⟨_, rfl⟩
  have L3 := Lib.hid (K3.out.trans (((Below.refl w3.heap.size w3).alloc (Nat.le_refl _) (.cells #[.int .i64 0, .int .i64 0, .int .i64 0, .slice vs3 vn3 vc3, .int .i64 0] 24 (0, 0))).mono K3.out.size))
  rw [← hW3] at L3
  have G3' := Lib.hid (get_any _ _ _ _ _ (arg_new W3' [3, 0, 1, 0, 126] (by decide) (by decide)) (by decide))
  have HW3 := Lib.hid hW3
  rw [hW3, World.size_alloc] at G3'
  clear hW3
  go_wp2_with fail
  refine G3'.out.mono ?_
  rw [← HW3.out]
  rintro e w4 ⟨vs4, vn4, vc4, rfl, _, b4⟩
  rw [getq_z (by rw [hx4]; decide), hx4]
  simp only [zq, wsl, rv]
  have K4 := Lib.hid (L3.out.trans ((((Below.refl W3'.heap.size W3').alloc (Nat.le_refl _) (.cells (bv [3, 0, 1, 0, 126]).toArray 5 (0, 0))).trans (b4.mono (by simp))).mono L3.out.size))
  clear b4 G3'
  obtain ⟨W4', hW4⟩ : ∃ W, W = w4.alloc (.cells #[.int .i64 0, .int .i64 0, .int .i64 0, .slice vs4 vn4 vc4, .int .i64 0] 24 (0, 0)) := ⟨_, rfl⟩
  have L4 := Lib.hid (K4.out.trans (((Below.refl w4.heap.size w4).alloc (Nat.le_refl _) (.cells #[.int .i64 0, .int .i64 0, .int .i64 0, .slice vs4 vn4 vc4, .int .i64 0] 24 (0, 0))).mono K4.out.size))
  rw [← hW4] at L4
  have G4 := Lib.hid (get_any _ _ _ _ _ (arg_new W4' [3, 255, 255, 0, 2] (by decide) (by decide)) (by decide))
  have HW4 := Lib.hid hW4
  rw [hW4, World.size_alloc] at G4
  clear hW4
  go_wp2_with fail
  refine G4.out.mono ?_
  rw [← HW4.out]
  rintro e w5 ⟨vs5, vn5, vc5, rfl, _, b5⟩
  rw [getq_z (by rw [hx5]; decide), hx5]
  simp only [zq, wsl, rv]
  have K5 := Lib.hid (L4.out.trans ((((Below.refl W4'.heap.size W4').alloc (Nat.le_refl _) (.cells (bv [3, 255, 255, 0, 2]).toArray 5 (0, 0))).trans (b5.mono (by simp))).mono L4.out.size))
  have L5 := Lib.hid (K5.out.trans (((Below.refl w5.heap.size w5).alloc (Nat.le_refl _) (.cells #[.int .i64 0, .int .i64 0, .int .i64 0, .slice vs5 vn5 vc5, .int .i64 0] 24 (0, 0))).mono K5.out.size))
  clear b5 G4
  obtain ⟨x1, x2⟩ := hx6
  obtain ⟨x3, x4⟩ := hx7
  go_wp2_with fail
  refine (reads_any 23 _ (by decide)).mono ?_
  rintro e w6 ⟨rfl, b6⟩
  rw [x1, show (true && (fo 23).bi) = false by rw [← x1]; exact x2]
  have K6 := Lib.hid (L5.out.trans (b6.mono L5.out.size))
  clear b6
  go_wp2_with fail
  refine (writes_any 5 _ (by decide)).mono ?_
  rintro e w7 ⟨rfl, b7⟩
  rw [x3, show (true && (fo 5).bi) = true by rw [← x3]; exact x4]
  have K7 := Lib.hid (K6.out.trans (b7.mono K6.out.size))
  clear b7 x1 x2 x3 x4
  have cv : (convert 25 9 (.slice pa 5 pc)).run Try.prog w7 = .ok (.string (strN [3, 0, 1, 0, 2])) w7 := conv_bys (M2.out.below K7.out)
  obtain ⟨c0, c1, c2, c3, c4⟩ := cells5 (low_of K7.out QK.out)
  have hst : ((strN [3, 0, 1, 0, 2]).toList == [3, 0, 1, 0, 2]) = true := by decide +kernel
  have al7 := (Below.refl w7.heap.size w7).alloc (Nat.le_refl _) (.cells #[.int .u16 1, .int .u16 0, .int .u16 1, .int .u16 1, .int .u16 0, .int .u16 0, .int .u16 1, .int .u16 1, .int .u16 1, .int .u16 0] 33 (0, 0))
  have K8 := Lib.hid (K7.out.trans (al7.mono K7.out.size))
  have ok1 : ∀ W, Below W2'.heap.size W2' W → (hq1 vs vn vc).ok W := fun W hb => ⟨AV.out.below hb, by show (Lit.int .i64 15).wf = true; decide, by show (Lit.int .i64 19).wf = true; decide, by show (Lit.int .i64 10).wf = true; decide, by show (Lit.int .i64 0).wf = true; decide⟩
  have ok2 : (hq1 (some ⟨w7.heap.size, 0, none⟩) 10 10).ok (w7.alloc (.cells #[.int .u16 1, .int .u16 0, .int .u16 1, .int .u16 1, .int .u16 0, .int .u16 0, .int .u16 1, .int .u16 1, .int .u16 1, .int .u16 0] 33 (0, 0))) := ⟨⟨wds_block (t := 33) (m := (0, 0)) hV (by unfold maxLen; decide) (by decide) (heap_alloc_new _ _), (fun e => by cases e), Nat.le_refl _, by unfold maxLen; show 10 ≤ _; omega⟩, by show (Lit.int .i64 15).wf = true; decide, by show (Lit.int .i64 19).wf = true; decide, by show (Lit.int .i64 10).wf = true; decide, by show (Lit.int .i64 0).wf = true; decide⟩
  have SA := Lib.hid (same_any (hq1 vs vn vc) (hq1 (some ⟨w7.heap.size, 0, none⟩) 10 10) _ (ok1 _ K8.out) ok2)
  simp only [rv, hq1] at SA
  have OK1 := Lib.hid ok1
  clear ok1 ok2 al7
  go_wp2_with fail
  refine SA.out.mono ?_
  rintro e w8 ⟨rfl, b8⟩
  rw [show sameR ⟨15, 19, 10, vs, vn, vc, hV, 0⟩ ⟨15, 19, 10, some ⟨w7.heap.size, 0, none⟩, 10, 10, hV, 0⟩ = true by simp [sameR]]
  have K9 := Lib.hid (K8.out.trans (b8.mono K8.out.size))
  clear b8 SA c0 c1 c2 c3 c4 cv
  obtain ⟨c0, c1, c2, c3, c4⟩ := cells5 (low_of K9.out QK.out)
  have RA := Lib.hid (right_any (hq1 vs vn vc) w8 (OK1.out _ K9.out))
  simp only [rv, hq1] at RA
  have hr1 : rightR ⟨15, 19, 10, vs, vn, vc, hV, 0⟩ = true := hx8
  rw [hr1] at RA
  clear hr1
  go_wp2_with fail
  refine RA.out.mono ?_
  rintro e w9 ⟨rfl, b9⟩
  have K10 := Lib.hid (K9.out.trans (b9.mono K9.out.size))
  have RZ := Lib.hid (right_any zq w9 (zok _))
  simp only [rv, zq] at RZ
  have hr2 : rightR ⟨0, 0, 0, none, 0, 0, [], 0⟩ = false := hx9
  rw [hr2] at RZ
  clear hr2 b9 RA
  go_wp2_with fail
  refine RZ.out.mono ?_
  rintro e w10 ⟨rfl, b10⟩
  have K11 := Lib.hid (C2.out.trans ((K10.out.trans (b10.mono K10.out.size)).mono C2.out.size))
  clear b10
  go_wp2_with fail
  go_ret
  exact ⟨rfl, K11.out⟩
end Go.Proofs.Ytcmolkhaajcmpaa
