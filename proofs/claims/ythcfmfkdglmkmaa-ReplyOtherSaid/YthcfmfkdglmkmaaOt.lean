/- ReplyOther. -/
import Derived.Test.YthcfmfkdglmkmaaRf
namespace Go.Proofs.Ythcfmfkdglmkmaa
set_option linter.unusedVariables false
set_option linter.unusedSimpArgs false
open Go.ChangeShapes Go.WideShapes Go.ChangeAt Go.RowKit

set_option maxRecDepth 100000 in
set_option maxHeartbeats 20000000 in
theorem other_any (x y : Rq) (p : Rp) (w : World) (hx : x.ok w) (hy : y.ok w) (hp : p.ok w) : Calls Try.prog 4 #[rv x, rv y, rpv p] w (BoolB w true) := by
  obtain ⟨P, hP⟩ : ∃ P, P = (BoolB w true : Ending → World → Prop) := ⟨_, rfl⟩
  rw [← hP]
  have FIN : Hid (∀ W', Below w.heap.size w W' → P (.returned (.bool true)) W') := Lib.hid (fun W' h => by rw [hP]; exact ⟨rfl, h⟩)
  have HG := Lib.hid (fun W (h : Below w.heap.size w W) => great_any x p W (hx.below h) (hp.below h))
  have HPU := Lib.hid (fun W (h : Below w.heap.size w W) => putQ_any x p W (hx.below h) (hp.below h))
  have HRX := Lib.hid (fun W (h : Below w.heap.size w W) => right14_any x W (hx.below h))
  have HRY := Lib.hid (fun W (h : Below w.heap.size w W) => right14_any y W (hy.below h))
  have HBY : Hid (∀ b ∈ (if okR x p.code p.V = true then repN x p.code p.V else []), b < 256) := Lib.hid (by
    split
    · rename_i h
      exact repN_by hx (ok_right h).1 (ok_right h).2 hp.arg.row.by' (ok_len h)
    · intro b hb; simp at hb)
  have HLN : Hid (okR x p.code p.V = true → 1 ≤ (repN x p.code p.V).length ∧ (repN x p.code p.V).length ≤ 253) := Lib.hid (fun h => repN_len h)
  have HG11 := Lib.hid (fun (W : World) (h : Below w.heap.size w W) (a : Option Addr) (n c : Nat) (hA : ArgB W a n c (repN x p.code p.V)) (hn : n ≤ 100000) => getQ_any y a n c _ W (hy.below h) hA hn)
  have HSV := Lib.hid (fun (W : World) (h : Below w.heap.size w W) => samevals_any x.vs x.vn x.vc x.V y.vs y.vn y.vc y.V W (hx.arg.below h).row (hy.arg.below h).row)
  have HRD := Lib.hid (fun W => reads14_any x.fc W)
  have F1 : Hid (okR x p.code p.V = true → p.code = 0 → x.fc ≠ y.fc → (getF y (repN x p.code p.V)).2 = 51) := Lib.hid (fun h e hf => by rw [e] at h ⊢; exact err_fc h hf)
  have F2 : Hid (okR x p.code p.V = true → p.code = 0 → nOf x ≠ nOf y → (getF y (repN x p.code p.V)).2 = 51) := Lib.hid (fun h e hf => by rw [e] at h ⊢; exact err_len h hf)
  have F3 : Hid (okR x p.code p.V = true → p.code = 0 → rightR y = true → x.fc = y.fc → rd14 x.fc = true → x.q = y.q → (getF y (repN x p.code p.V)).2 = 0) := Lib.hid (fun h e hr hf hd hq => by
    have h1 := reads14_fo (right_facts (ok_right h).1).1
    rw [e] at h ⊢; exact err_same h hr hf (by unfold rdF; rw [← h1.1]; exact hd) hq)
  have F4 : Hid (okR x p.code p.V = true → p.code = 0 → rightR y = true → x.fc = y.fc → rd14 x.fc = false → (getF y (repN x p.code p.V)).2 = if x.ad = y.ad ∧ x.q = y.q ∧ (x.fc = 15 ∨ x.fc = 16 ∨ x.V = y.V) then 0 else 51) := Lib.hid (fun h e hr hf hd => by
    have h1 := reads14_fo (right_facts (ok_right h).1).1
    rw [e] at h ⊢; exact err_wr h hr hf (by unfold rdF; rw [← h1.1]; exact hd))
  have F5 : Hid (okR x p.code p.V = true → rightR y = true → x.fc = y.fc → 0 ≤ x.q ∧ x.q ≤ 2000 ∧ 0 ≤ y.q ∧ y.q ≤ 2000 ∧ (rd14 x.fc = true → bi14 x.fc = true → nOf x = 2 + (x.q.toNat + 7) / 8 ∧ nOf y = 2 + (y.q.toNat + 7) / 8) ∧ (rd14 x.fc = true → bi14 x.fc = false → nOf x = 2 + 2 * x.q.toNat ∧ nOf y = 2 + 2 * y.q.toNat)) := Lib.hid (fun h hr hf => by
    have r1 := right_facts (ok_right h).1
    have r2 := right_facts hr
    have h1 := reads14_fo r1.1
    have h2 := reads14_fo r2.1
    rw [← hf] at h2
    refine ⟨r1.2.2.2.1, r1.2.2.2.2, r2.2.2.2.1, r2.2.2.2.2, fun a b => ?_, fun a b => ?_⟩
    · unfold nOf rdF biF
      rw [← hf, ← h1.2, ← h1.1, a, b]
      simp
    · unfold nOf rdF biF
      rw [← hf, ← h1.2, ← h1.1, a, b]
      simp)
  generalize getF y (repN x p.code p.V) = gf at HG11 F1 F2 F3 F4
  obtain ⟨⟨gx, gV⟩, er⟩ := gf
  simp only at F1 F2 F3 F4
  generalize repN x p.code p.V = RL at HPU HBY HLN HG11
  generalize okR x p.code p.V = ok at HPU HBY HLN F1 F2 F3 F4 F5
  generalize greatB x.V p.V = gb at HG
  generalize rightR x = rx at HRX
  generalize rightR y = ry at HRY F3 F4 F5
  generalize nOf x = nx at F2 F5
  generalize nOf y = ny at F2 F5
  generalize rd14 x.fc = rd at HRD F3 F4 F5
  have FB : Hid (bi14 x.fc = true → rd = true ∨ True) := Lib.hid (fun _ => .inr trivial)
  generalize bi14 x.fc = bi at HRD F5 FB
  have sv : ∃ b, b = decide (x.V = y.V) := ⟨_, rfl⟩
  obtain ⟨sv, hsv⟩ := sv
  rw [← hsv] at HSV
  have F4 : Hid (ok = true → p.code = 0 → ry = true → x.fc = y.fc → rd = false → er = if x.ad = y.ad ∧ x.q = y.q ∧ (x.fc = 15 ∨ x.fc = 16 ∨ sv = true) then 0 else 51) := Lib.hid (by
    intro h1 h2 h3 h4 h5
    rw [F4.out h1 h2 h3 h4 h5, hsv]
    simp)
  obtain ⟨fc, ad, q, vs, vn, vc, V, rto⟩ := x
  obtain ⟨fc2, ad2, q2, vs2, vn2, vc2, V2, rto2⟩ := y
  obtain ⟨code, us, un, uc, U⟩ := p
  simp only [rv, rpv] at HG HPU HRX HRY HG11 HSV HRD F1 F2 F3 F4 F5 ⊢
  clear hP hx hy hp hsv
  obtain ⟨W, hW⟩ : ∃ W, W = ((w.alloc (.cells #[.int .i64 fc, .int .i64 ad, .int .i64 q, .slice vs vn vc, .int .i64 rto] 24 (0, 0))).alloc (.cells #[.int .i64 fc2, .int .i64 ad2, .int .i64 q2, .slice vs2 vn2 vc2, .int .i64 rto2] 24 (0, 0))).alloc (.cells #[.int .i64 code, .slice us un uc] 26 (0, 0)) := ⟨_, rfl⟩
  have k1 := alloc_bq w (.cells #[.int .i64 fc, .int .i64 ad, .int .i64 q, .slice vs vn vc, .int .i64 rto] 24 (0, 0))
  have k2 := alloc_bq (w.alloc (.cells #[.int .i64 fc, .int .i64 ad, .int .i64 q, .slice vs vn vc, .int .i64 rto] 24 (0, 0))) (.cells #[.int .i64 fc2, .int .i64 ad2, .int .i64 q2, .slice vs2 vn2 vc2, .int .i64 rto2] 24 (0, 0))
  have k3 := alloc_bq ((w.alloc (.cells #[.int .i64 fc, .int .i64 ad, .int .i64 q, .slice vs vn vc, .int .i64 rto] 24 (0, 0))).alloc (.cells #[.int .i64 fc2, .int .i64 ad2, .int .i64 q2, .slice vs2 vn2 vc2, .int .i64 rto2] 24 (0, 0))) (.cells #[.int .i64 code, .slice us un uc] 26 (0, 0))
  have k12 := k1.trans (k2.mono k1.size)
  have bw := k12.trans (k3.mono k12.size)
  have hx := low_of k3 (low_of k2 (heap_alloc_new w (.cells #[.int .i64 fc, .int .i64 ad, .int .i64 q, .slice vs vn vc, .int .i64 rto] 24 (0, 0))))
  have hy := low_of k3 (heap_alloc_new (w.alloc (.cells #[.int .i64 fc, .int .i64 ad, .int .i64 q, .slice vs vn vc, .int .i64 rto] 24 (0, 0))) (.cells #[.int .i64 fc2, .int .i64 ad2, .int .i64 q2, .slice vs2 vn2 vc2, .int .i64 rto2] 24 (0, 0)))
  have hp := heap_alloc_new ((w.alloc (.cells #[.int .i64 fc, .int .i64 ad, .int .i64 q, .slice vs vn vc, .int .i64 rto] 24 (0, 0))).alloc (.cells #[.int .i64 fc2, .int .i64 ad2, .int .i64 q2, .slice vs2 vn2 vc2, .int .i64 rto2] 24 (0, 0))) (.cells #[.int .i64 code, .slice us un uc] 26 (0, 0))
  rw [World.size_alloc] at hy
  rw [World.size_alloc, World.size_alloc] at hp
  rw [← hW] at bw hx hy hp
  have XQ0 := Lib.hid hx
  have XR0 := Lib.hid hy
  have XP0 := Lib.hid hp
  have B0 := Lib.hid bw
  have HW := Lib.hid hW
  have HD := head_any W
  obtain ⟨c0, c1, c2, c3, c4⟩ := cells5 XQ0.out
  obtain ⟨d0, d1, d2, d3, d4⟩ := cells5 XR0.out
  obtain ⟨y0, y1⟩ := cells2q XP0.out
  clear k1 k2 k3 k12 bw hx hy hp hW
  go_enter Try.func4, Try.ntmps4
  go_upto_region 1 with fail
  rw [← HW.out]
  go_wp2_with fail
  refine HD.mono ?_
  rintro e w1 ⟨rfl, z1⟩
  have B1 := Lib.hid (B0.out.trans (Below.mono z1 B0.out.size))
  have XQ1 := Lib.hid (low_of z1 XQ0.out)
  have XR1 := Lib.hid (low_of z1 XR0.out)
  have XP1 := Lib.hid (low_of z1 XP0.out)
  clear z1 c0 c1 c2 c3 c4 d0 d1 d2 d3 d4 y0 y1
  obtain ⟨c0, c1, c2, c3, c4⟩ := cells5 XQ1.out
  obtain ⟨d0, d1, d2, d3, d4⟩ := cells5 XR1.out
  obtain ⟨y0, y1⟩ := cells2q XP1.out
  go_wp2_with fail
  refine (HG.out w1 B1.out).mono ?_
  rintro e w2 ⟨rfl, z2⟩
  have B2 := Lib.hid (B1.out.trans (Below.mono z2 B1.out.size))
  have XQ2 := Lib.hid (low_of z2 XQ1.out)
  have XR2 := Lib.hid (low_of z2 XR1.out)
  have XP2 := Lib.hid (low_of z2 XP1.out)
  clear z2 c0 c1 c2 c3 c4 d0 d1 d2 d3 d4 y0 y1
  obtain ⟨c0, c1, c2, c3, c4⟩ := cells5 XQ2.out
  obtain ⟨d0, d1, d2, d3, d4⟩ := cells5 XR2.out
  obtain ⟨y0, y1⟩ := cells2q XP2.out
  cases gb with
  | true =>
    go_wp2_with fail
    exact FIN.out _ B2.out
  | false =>
  by_cases hn : 3000 < vn2
  · have t1 : (3000 : Int) < (vn2 : Int) := by omega
    go_wp2_with fail
    exact FIN.out _ B2.out
  have t1 : ¬ (3000 : Int) < (vn2 : Int) := by omega
  clear hn
  go_wp2_with fail
  refine (HRX.out w2 B2.out).mono ?_
  rintro e w3 ⟨rfl, z3⟩
  have B3 := Lib.hid (B2.out.trans (Below.mono z3 B2.out.size))
  have XQ3 := Lib.hid (low_of z3 XQ2.out)
  have XR3 := Lib.hid (low_of z3 XR2.out)
  have XP3 := Lib.hid (low_of z3 XP2.out)
  clear z3 c0 c1 c2 c3 c4 d0 d1 d2 d3 d4 y0 y1
  obtain ⟨c0, c1, c2, c3, c4⟩ := cells5 XQ3.out
  obtain ⟨d0, d1, d2, d3, d4⟩ := cells5 XR3.out
  obtain ⟨y0, y1⟩ := cells2q XP3.out
  cases rx with
  | false =>
    go_wp2_with fail
    exact FIN.out _ B3.out
  | true =>
  go_wp2_with fail
  refine (HRY.out w3 B3.out).mono ?_
  rintro e w4 ⟨rfl, z4⟩
  have B4 := Lib.hid (B3.out.trans (Below.mono z4 B3.out.size))
  have XQ4 := Lib.hid (low_of z4 XQ3.out)
  have XR4 := Lib.hid (low_of z4 XR3.out)
  have XP4 := Lib.hid (low_of z4 XP3.out)
  clear z4 c0 c1 c2 c3 c4 d0 d1 d2 d3 d4 y0 y1
  obtain ⟨c0, c1, c2, c3, c4⟩ := cells5 XQ4.out
  obtain ⟨d0, d1, d2, d3, d4⟩ := cells5 XR4.out
  obtain ⟨y0, y1⟩ := cells2q XP4.out
  cases ry with
  | false =>
    go_wp2_with fail
    exact FIN.out _ B4.out
  | true =>
  by_cases hc : code = 0
  rotate_left
  · have t2 : (code != 0) = true := by simp [hc]
    clear hc
    go_wp2_with fail
    exact FIN.out _ B4.out
  subst hc
  go_wp2_with fail
  refine (HPU.out w4 B4.out).mono ?_
  rintro e w5 ⟨v5, rfl, ho, z5⟩
  obtain ⟨a5, e5, hv5, ab5, _⟩ := OwnV.argB ho HBY.out
  subst hv5
  have A5 := Lib.hid ab5
  have B5 := Lib.hid (B4.out.trans (Below.mono z5 B4.out.size))
  have XQ5 := Lib.hid (low_of z5 XQ4.out)
  have XR5 := Lib.hid (low_of z5 XR4.out)
  have XP5 := Lib.hid (low_of z5 XP4.out)
  clear z5 ho ab5 c0 c1 c2 c3 c4 d0 d1 d2 d3 d4 y0 y1 t1
  obtain ⟨c0, c1, c2, c3, c4⟩ := cells5 XQ5.out
  obtain ⟨d0, d1, d2, d3, d4⟩ := cells5 XR5.out
  cases ok with
  | false =>
    simp only [Bool.false_eq_true, if_false, List.length_nil] at A5 ⊢
    go_wp2_with fail
    exact FIN.out _ B5.out
  | true =>
  obtain ⟨hl1, hl2⟩ := HLN.out (by trivial)
  simp only [if_true] at A5 ⊢
  generalize hm : RL.length = m at A5 hl1 hl2 ⊢
  have HM := Lib.hid hm
  clear hm
  have g0 : ((m : Int) == 0) = false := by simp; omega
  have G6 := HG11.out w5 B5.out a5 m e5 A5.out (by omega)
  go_wp2_with fail
  refine G6.mono ?_
  rintro e w6 ⟨xa, xn, xd, rfl, xA, z6⟩
  simp only at xA ⊢
  have al := alloc_bq w6 (.cells #[.int .i64 gx, .slice xa xn xd] 26 (0, 0))
  have B6 := Lib.hid (B5.out.trans (Below.mono z6 B5.out.size))
  have B7 := Lib.hid (B6.out.trans (al.mono B6.out.size))
  have XQ7 := Lib.hid (low_of al (low_of z6 XQ5.out))
  have XR7 := Lib.hid (low_of al (low_of z6 XR5.out))
  clear al z6 xA G6 c0 c1 c2 c3 c4 d0 d1 d2 d3 d4
  go_upto_region 8 with fail
  obtain ⟨W7, hW7⟩ : ∃ W7, W7 = w6.alloc (.cells #[.int .i64 gx, .slice xa xn xd] 26 (0, 0)) := ⟨_, rfl⟩
  rw [← hW7] at B7 XQ7 XR7 ⊢
  clear hW7
  obtain ⟨c0, c1, c2, c3, c4⟩ := cells5 XQ7.out
  obtain ⟨d0, d1, d2, d3, d4⟩ := cells5 XR7.out
  by_cases hf : fc = fc2
  rotate_left
  · have t1 : (fc != fc2) = true := by simp [hf]
    have he := F1.out (by trivial) (by trivial) hf
    subst he
    clear hf
    go_wp2_with fail
    exact FIN.out _ B7.out
  have t1 : (fc != fc2) = false := by simp [hf]
  obtain ⟨hq1, hq2, hq3, hq4, hbt, hbf⟩ := F5.out (by trivial) (by trivial) hf
  have FS := Lib.hid (fun h1 h2 => F3.out (by trivial) (by trivial) (by trivial) hf h1 h2)
  have FW := Lib.hid (fun h1 => F4.out (by trivial) (by trivial) (by trivial) hf h1)
  have FL := Lib.hid (fun h1 => F2.out (by trivial) (by trivial) h1)
  have HBT := Lib.hid hbt
  have HBF := Lib.hid hbf
  have s1 : wrap64 (q + 7) = q + 7 := by unfold wrap64; omega
  have s2 : wrap64 (q2 + 7) = q2 + 7 := by unfold wrap64; omega
  clear hf hbt hbf
  obtain ⟨q, rfl⟩ : ∃ k : Nat, q = (k : Int) := ⟨q.toNat, by omega⟩
  obtain ⟨q2, rfl⟩ : ∃ k : Nat, q2 = (k : Int) := ⟨q2.toNat, by omega⟩
  go_wp2_with fail
  refine (HRD.out _).mono ?_
  rintro e w8 ⟨rfl, e8⟩
  rw [e8]
  clear e8 w8
  cases rd with
  | true =>
    cases bi with
    | true =>
      obtain ⟨n1, n2⟩ := HBT.out (by trivial) (by trivial)
      simp only [Int.toNat_natCast] at n1 n2
      by_cases hqq : q = q2
      · subst hqq
        have he := FS.out (by trivial) (by trivial)
        subst he
        clear n1 n2
        go_wp2_with fail
        exact FIN.out _ B7.out
      · have t2 : ((q : Int) != (q2 : Int)) = true := by simp; omega
        by_cases h8 : (q + 7) / 8 = (q2 + 7) / 8
        · have t3 : (((q : Int) + 7) / 8 == ((q2 : Int) + 7) / 8) = true := by simp; omega
          clear h8 hqq n1 n2
          go_wp2_with fail
          exact FIN.out _ B7.out
        · have t3 : (((q : Int) + 7) / 8 == ((q2 : Int) + 7) / 8) = false := by simp; omega
          have he := FL.out (by omega)
          subst he
          clear h8 hqq n1 n2
          go_wp2_with fail
          exact FIN.out _ B7.out
    | false =>
      obtain ⟨n1, n2⟩ := HBF.out (by trivial) (by trivial)
      simp only [Int.toNat_natCast] at n1 n2
      by_cases hqq : q = q2
      · subst hqq
        have he := FS.out (by trivial) (by trivial)
        subst he
        clear n1 n2
        go_wp2_with fail
        exact FIN.out _ B7.out
      · have t2 : ((q : Int) == (q2 : Int)) = false := by simp; omega
        have he := FL.out (by omega)
        subst he
        clear hqq n1 n2
        go_wp2_with fail
        exact FIN.out _ B7.out
  | false =>
    have hw := FW.out (by trivial)
    by_cases ha : ad = ad2
    rotate_left
    · have t2 : (ad == ad2) = false := by simp [ha]
      rw [if_neg (fun e => ha e.1)] at hw
      subst hw
      clear ha
      go_wp2_with fail
      exact FIN.out _ B7.out
    by_cases hqq : q = q2
    rotate_left
    · have t2 : (ad == ad2) = true := by simp [ha]
      have t3 : ((q : Int) == (q2 : Int)) = false := by simp; omega
      rw [if_neg (fun e => hqq (by omega))] at hw
      subst hw
      clear ha hqq
      go_wp2_with fail
      exact FIN.out _ B7.out
    have t2 : (ad == ad2) = true := by simp [ha]
    have t3 : ((q : Int) == (q2 : Int)) = true := by simp [hqq]
    by_cases h15 : fc = 15
    · have t4 : (fc == 15) = true := by simp [h15]
      rw [if_pos ⟨ha, by omega, .inl h15⟩] at hw
      subst hw
      clear ha hqq h15
      go_wp2_with fail
      exact FIN.out _ B7.out
    by_cases h16 : fc = 16
    · have t4 : (fc == 15) = false := by simp [h15]
      have t5 : (fc == 16) = true := by simp [h16]
      rw [if_pos ⟨ha, by omega, .inr (.inl h16)⟩] at hw
      subst hw
      clear ha hqq h15 h16
      go_wp2_with fail
      exact FIN.out _ B7.out
    have t4 : (fc == 15) = false := by simp [h15]
    have t5 : (fc == 16) = false := by simp [h16]
    cases sv with
    | true =>
      rw [if_pos ⟨ha, by omega, .inr (.inr (by trivial))⟩] at hw
      subst hw
      clear ha hqq h15 h16
      go_wp2_with fail
      refine (HSV.out _ B7.out).mono ?_
      rintro e w9 ⟨rfl, z9⟩
      have B9 := Lib.hid (B7.out.trans (Below.mono z9 B7.out.size))
      clear z9 c0 c1 c2 c3 c4 d0 d1 d2 d3 d4
      go_wp2_with fail
      exact FIN.out _ B9.out
    | false =>
      rw [if_neg (by rintro ⟨_, _, e | e | e⟩
                     · exact h15 e
                     · exact h16 e
                     · exact absurd e (by simp))] at hw
      subst hw
      clear ha hqq h15 h16
      go_wp2_with fail
      refine (HSV.out _ B7.out).mono ?_
      rintro e w9 ⟨rfl, z9⟩
      have B9 := Lib.hid (B7.out.trans (Below.mono z9 B7.out.size))
      clear z9 c0 c1 c2 c3 c4 d0 d1 d2 d3 d4
      go_wp2_with fail
      exact FIN.out _ B9.out
end Go.Proofs.Ythcfmfkdglmkmaa
