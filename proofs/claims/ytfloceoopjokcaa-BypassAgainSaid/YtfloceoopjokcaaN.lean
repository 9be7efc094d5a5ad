/- BypassAgain. -/
import Derived.Test.YtfloceoopjokcaaK
namespace Go.Proofs.Ytfloceoopjokcaa
set_option linter.unusedVariables false
open Go.ChangeShapes Go.WideShapes Go.ChangeAt Go.RowKit

theorem Row.pos {W : World} {a : Option Addr} {len : Nat} {V : Nat → Value} (h : Row W a len V) (hp : 0 < len) : ∃ b off, a = some ⟨b, off, none⟩ ∧ b < W.heap.size ∧ ∀ i, i < len → W.cell? ⟨b, off + i, none⟩ = some (V i) := by
  rcases h.at' with z | z
  · omega
  · exact z
theorem Row.below {W w : World} {a : Option Addr} {len : Nat} {V : Nat → Value} (h : Row W a len V) (hb : Below W.heap.size W w) : Row w a len V := by
  refine ⟨h.le, ?_⟩
  rcases h.at' with z | ⟨b, off, ha, hlt, hc⟩
  · exact .inl z
  · exact .inr ⟨b, off, ha, Nat.lt_of_lt_of_le hlt hb.size, fun i hi => (hb.cell (p := ⟨b, off + i, none⟩) hlt).trans (hc i hi)⟩
theorem u16_bd {x : Int} (h : (Lit.int .u16 x).wf = true) : 0 ≤ x ∧ x ≤ 65535 := by
  simp [Lit.wf, IntKind.min, IntKind.max, IntKind.signed, IntKind.bits] at h; omega

theorem put1_bad {lim D n now : Int} (h : ¬ (1 ≤ n ∧ n ≤ lim)) : putC [lim] [D] 0 n now = 1 ∧ putE [lim] [D] 0 n now = [D] := by
  have ho : okP [lim] 0 n now = false := by
    unfold okP; simp; omega
  have hc : putC [lim] [D] 0 n now = 1 := by unfold putC; rw [if_pos (by simp), ho]; simp
  exact ⟨hc, by unfold putE; rw [hc]; simp⟩
theorem put1_ok {lim D n now : Int} (h : 1 ≤ n ∧ n ≤ lim) (hl : lim ≤ 65535) (h0 : 0 ≤ now) (h1 : now ≤ 1099511627776) : okP [lim] 0 n now = true := by
  unfold okP; simp; omega
theorem put1_there {lim D n now : Int} (h : 1 ≤ n ∧ n ≤ lim) (hl : lim ≤ 65535) (h0 : 0 ≤ now) (h1 : now ≤ 1099511627776) (hD : now < D) : putC [lim] [D] 0 n now = 4 ∧ putE [lim] [D] 0 n now = [D] := by
  have hb : isB [D] 0 now = true := by unfold isB unt; simp; omega
  have hc : putC [lim] [D] 0 n now = 4 := by unfold putC; rw [if_pos (by simp), put1_ok (D := D) h hl h0 h1, hb]; simp
  exact ⟨hc, by unfold putE; rw [hc]; simp⟩
theorem put1_in {lim D n now : Int} (h : 1 ≤ n ∧ n ≤ lim) (hl : lim ≤ 65535) (h0 : 0 ≤ now) (h1 : now ≤ 1099511627776) (hD : ¬ now < D) : putC [lim] [D] 0 n now = 0 ∧ putE [lim] [D] 0 n now = [now + n] := by
  have hb : isB [D] 0 now = false := by unfold isB unt; simp; omega
  have hc : putC [lim] [D] 0 n now = 0 := by unfold putC; rw [if_pos (by simp), put1_ok (D := D) h hl h0 h1, hb]; simp
  exact ⟨hc, by unfold putE; rw [hc]; simp⟩
theorem unt1 (D : Int) : unt [D] 0 = D := by unfold unt; simp
theorem drop1 (D : Int) : dropE [D] 0 = [0] := by unfold dropE; simp

def AgainP (w : World) (e : Ending) (w' : World) : Prop := e = .returned (.bool true) ∧ Below w.heap.size w w'
/-- At a round: k passed; the time N, the end D. -/
structure AgR (w wr : World) (t m : Nat) (lim N D : Int) (k : Nat) : Prop where
  tb : Tb (w.heap.size + 1) wr t m k [lim] [D]
  n0 : 0 ≤ N
  n1 : N ≤ (k : Int) * 65535
  d0 : 0 ≤ D
  d1 : D ≤ N + lim
  be : Below w.heap.size w wr

set_option maxRecDepth 100000 in
set_option maxHeartbeats 8000000 in
theorem again_any (w : World) (lim : Int) (hlim : (Lit.int .u16 lim).wf = true) (a1 a2 : Option Addr) (l1 c1 l2 c2 : Nat) (f1 f2 : Nat → Int) (r1 : Row w a1 l1 (fun i => .int .u16 (f1 i))) (r2 : Row w a2 l2 (fun i => .int .u16 (f2 i)))
    (g1 : ∀ i, i < l1 → (Lit.int .u16 (f1 i)).wf = true) (g2 : ∀ i, i < l2 → (Lit.int .u16 (f2 i)).wf = true) (d : Bool) :
    Calls Try.prog 6 #[.int .u16 lim, .slice a1 l1 c1, .slice a2 l2 c2, .bool d] w (AgainP w) := by
  obtain ⟨hl0, hl1⟩ := u16_bd hlim
  have hle1 := r1.le
  have hle2 := r2.le
  unfold maxLen at hle1 hle2
  have R1 := Lib.hid r1
  have R2 := Lib.hid r2
  have G1 := Lib.hid g1
  have G2 := Lib.hid g2
  clear r1 r2 g1 g2
  go_enter Try.func6, Try.ntmps6
  go_wp2_with fail
  refine (head_any w).mono ?_
  rintro e w1 ⟨rfl, b1⟩
  have B1 := Lib.hid b1
  clear b1
  go_wp2_with fail
  refine (new_any _ 1 1 [lim] _ (lit1 w1 2 lim (wf_i64 (by omega) (by omega))) (by omega)).mono ?_
  rintro e w2 ⟨t, m, rfl, T2, b2⟩
  have hs1 := B1.out.size
  have T2' : Tb (w.heap.size + 1) w2 t m 0 [lim] [0] := ⟨by have := T2.ht; simp at this; omega, by have := T2.hm; simp at this; omega, T2.ne, T2.ln, T2.bd, T2.blk, T2.map⟩
  have b2' : Below w.heap.size w w2 := B1.out.trans (((alloc_b w1 _).trans (b2.mono (alloc_b w1 _).size)).mono hs1)
  have S := Lib.hid (AgR.mk (N := 0) (D := 0) (k := 0) T2' (by omega) (by omega) (by omega) (by omega) b2')
  clear T2 T2' b2 b2' B1 hs1
  by_cases hg : 300 < l1
  · have dg : decide ((300 : Int) < (l1 : Int)) = true := by simp; omega
    go_wp2_with fail
    go_ret
    exact ⟨rfl, S.out.be⟩
  have dg : decide ((300 : Int) < (l1 : Int)) = false := by simp; omega
  go_wp2_with fail
  go_loopw [11, 12, 13] (fun nv ev iv wr => ∃ (k : Nat) (N D : Int), k ≤ l1 ∧ k ≤ l2 ∧ iv = .int .i64 k ∧ nv = .int .i64 N ∧ ev = .int .i64 D ∧ AgR w wr t m lim N D k) (fun _ _ iv _ => l1 - (intOf iv).toNat)
  case atStart => exact ⟨0, 0, 0, Nat.zero_le _, Nat.zero_le _, rfl, rfl, rfl, S.out⟩
  case round =>
    obtain ⟨wo, rfl⟩ : ∃ wo : World, wo = wr := ⟨_, rfl⟩
    obtain ⟨k, N, D, hk1, hk2, rfl, rfl, rfl, hA⟩ := hrel
    have A := Lib.hid hA
    by_cases h1 : k < l1
    · by_cases h2 : k < l2
      · have n0 := hA.n0
        have n1 := hA.n1
        have dd0 := hA.d0
        have dd1 := hA.d1
        clear hA
        obtain ⟨b1, o1, e1, hlt1, q1⟩ := R1.out.pos (by omega)
        obtain ⟨b2, o2, e2, hlt2, q2⟩ := R2.out.pos (by omega)
        have z1 := (A.out.be.cell (p := ⟨b1, o1 + k, none⟩) hlt1).trans (q1 k h1)
        have z2 := (A.out.be.cell (p := ⟨b2, o2 + k, none⟩) hlt2).trans (q2 k h2)
        have x1 := u16_bd (G1.out k h1)
        have x2 := u16_bd (G2.out k h2)
        have Q2 := Lib.hid q2
        subst e1; subst e2
        generalize f1 k = x at z1 x1
        obtain ⟨y, hy⟩ : ∃ y, y = f2 k := ⟨_, rfl⟩
        rw [← hy] at z2 x2
        have HY := Lib.hid hy
        clear hy
        clear q1 q2
        have N2 : N ≤ 19660500 := by omega
        by_cases hx1 : x < 1
        · have e1 : decide (1 ≤ x) = false := by simp; omega
          obtain ⟨hC, hE⟩ := put1_bad (lim := lim) (D := D) (n := x) (now := N) (by omega)
          have HC := Lib.hid hC
          have HE := Lib.hid hE
          clear hC hE
          go_wp2_with fail
          refine (put_any A.out.tb (by unfold maxLen; omega) 0 x N).mono ?_
          rintro e w3 ⟨rfl, t3, f3⟩
          rw [HC.out]
          rw [HE.out] at t3
          have T3 := Lib.hid t3
          have hm := t3.hm
          have BE3 := Lib.hid (A.out.be.trans (f3.below (by omega) A.out.be.size))
          have z3 : w3.cell? ⟨b2, o2 + k, none⟩ = some (.int .u16 y) := by rw [HY.out]; exact (BE3.out.cell (p := ⟨b2, o2 + k, none⟩) hlt2).trans (Q2.out k h2)
          clear t3 f3 A
          cases d with
          | false =>
            go_wp2_with fail
            refine (until_any T3.out 0 (by decide)).mono ?_
            rintro e w4 ⟨rfl, rfl⟩
            rw [unt1]
            have dq : decide (N + lim < D) = false := by simp; omega
            go_wp2_with fail
            go_roundw
            case rel => exact ⟨k + 1, N + y, D, by omega, by omega, by go_num, by go_num, by go_num, ⟨T3.out, by omega, by omega, by omega, by omega, BE3.out⟩⟩
            case measure => simp [intOf]; omega
          | true =>
            by_cases h3 : k % 3 = 2
            · have d3 : ((k : Int) % 3) = 2 := by omega
              go_wp2_with fail
              refine (drop_any T3.out 0 (by decide)).mono ?_
              rintro e w5 ⟨rfl, T5, f5⟩
              rw [unt1]
              rw [drop1] at T5
              have hT5 := Lib.hid T5
              have hb5 := Lib.hid (BE3.out.trans (f5.below (by omega) BE3.out.size))
              have z5 : w5.cell? ⟨b2, o2 + k, none⟩ = some (.int .u16 y) := by rw [HY.out]; exact (hb5.out.cell (p := ⟨b2, o2 + k, none⟩) hlt2).trans (Q2.out k h2)
              clear T5 f5
              go_wp2_with fail
              refine (until_any hT5.out 0 (by decide)).mono ?_
              rintro e w6 ⟨rfl, rfl⟩
              rw [unt1]
              have dq : decide (N + lim < 0) = false := by simp; omega
              go_wp2_with fail
              go_roundw
              case rel => exact ⟨k + 1, N + y, 0, by omega, by omega, by go_num, by go_num, by go_num, ⟨hT5.out, by omega, by omega, by omega, by omega, hb5.out⟩⟩
              case measure => simp [intOf]; omega
            · have d3 : decide (((k : Int) % 3) = 2) = false := by simp; omega
              go_wp2_with fail
              refine (until_any T3.out 0 (by decide)).mono ?_
              rintro e w4 ⟨rfl, rfl⟩
              rw [unt1]
              have dq : decide (N + lim < D) = false := by simp; omega
              go_wp2_with fail
              go_roundw
              case rel => exact ⟨k + 1, N + y, D, by omega, by omega, by go_num, by go_num, by go_num, ⟨T3.out, by omega, by omega, by omega, by omega, BE3.out⟩⟩
              case measure => simp [intOf]; omega
        have e1 : decide (1 ≤ x) = true := by simp; omega
        by_cases hx2 : lim < x
        · have e2 : decide (x ≤ lim) = false := by simp; omega
          obtain ⟨hC, hE⟩ := put1_bad (lim := lim) (D := D) (n := x) (now := N) (by omega)
          have HC := Lib.hid hC
          have HE := Lib.hid hE
          clear hC hE
          go_wp2_with fail
          refine (put_any A.out.tb (by unfold maxLen; omega) 0 x N).mono ?_
          rintro e w3 ⟨rfl, t3, f3⟩
          rw [HC.out]
          rw [HE.out] at t3
          have T3 := Lib.hid t3
          have hm := t3.hm
          have BE3 := Lib.hid (A.out.be.trans (f3.below (by omega) A.out.be.size))
          have z3 : w3.cell? ⟨b2, o2 + k, none⟩ = some (.int .u16 y) := by rw [HY.out]; exact (BE3.out.cell (p := ⟨b2, o2 + k, none⟩) hlt2).trans (Q2.out k h2)
          clear t3 f3 A
          cases d with
          | false =>
            go_wp2_with fail
            refine (until_any T3.out 0 (by decide)).mono ?_
            rintro e w4 ⟨rfl, rfl⟩
            rw [unt1]
            have dq : decide (N + lim < D) = false := by simp; omega
            go_wp2_with fail
            go_roundw
            case rel => exact ⟨k + 1, N + y, D, by omega, by omega, by go_num, by go_num, by go_num, ⟨T3.out, by omega, by omega, by omega, by omega, BE3.out⟩⟩
            case measure => simp [intOf]; omega
          | true =>
            by_cases h3 : k % 3 = 2
            · have d3 : ((k : Int) % 3) = 2 := by omega
              go_wp2_with fail
              refine (drop_any T3.out 0 (by decide)).mono ?_
              rintro e w5 ⟨rfl, T5, f5⟩
              rw [unt1]
              rw [drop1] at T5
              have hT5 := Lib.hid T5
              have hb5 := Lib.hid (BE3.out.trans (f5.below (by omega) BE3.out.size))
              have z5 : w5.cell? ⟨b2, o2 + k, none⟩ = some (.int .u16 y) := by rw [HY.out]; exact (hb5.out.cell (p := ⟨b2, o2 + k, none⟩) hlt2).trans (Q2.out k h2)
              clear T5 f5
              go_wp2_with fail
              refine (until_any hT5.out 0 (by decide)).mono ?_
              rintro e w6 ⟨rfl, rfl⟩
              rw [unt1]
              have dq : decide (N + lim < 0) = false := by simp; omega
              go_wp2_with fail
              go_roundw
              case rel => exact ⟨k + 1, N + y, 0, by omega, by omega, by go_num, by go_num, by go_num, ⟨hT5.out, by omega, by omega, by omega, by omega, hb5.out⟩⟩
              case measure => simp [intOf]; omega
            · have d3 : decide (((k : Int) % 3) = 2) = false := by simp; omega
              go_wp2_with fail
              refine (until_any T3.out 0 (by decide)).mono ?_
              rintro e w4 ⟨rfl, rfl⟩
              rw [unt1]
              have dq : decide (N + lim < D) = false := by simp; omega
              go_wp2_with fail
              go_roundw
              case rel => exact ⟨k + 1, N + y, D, by omega, by omega, by go_num, by go_num, by go_num, ⟨T3.out, by omega, by omega, by omega, by omega, BE3.out⟩⟩
              case measure => simp [intOf]; omega
        have e2 : decide (x ≤ lim) = true := by simp; omega
        by_cases hx3 : N < D
        · have e3 : decide (N < D) = true := by simp; omega
          obtain ⟨hC, hE⟩ := put1_there (lim := lim) (D := D) (n := x) (now := N) (by omega) (by omega) (by omega) (by omega) hx3
          have HC := Lib.hid hC
          have HE := Lib.hid hE
          clear hC hE
          go_wp2_with fail
          refine (put_any A.out.tb (by unfold maxLen; omega) 0 x N).mono ?_
          rintro e w3 ⟨rfl, t3, f3⟩
          rw [HC.out]
          rw [HE.out] at t3
          have T3 := Lib.hid t3
          have hm := t3.hm
          have BE3 := Lib.hid (A.out.be.trans (f3.below (by omega) A.out.be.size))
          have z3 : w3.cell? ⟨b2, o2 + k, none⟩ = some (.int .u16 y) := by rw [HY.out]; exact (BE3.out.cell (p := ⟨b2, o2 + k, none⟩) hlt2).trans (Q2.out k h2)
          clear t3 f3 A
          cases d with
          | false =>
            go_wp2_with fail
            refine (until_any T3.out 0 (by decide)).mono ?_
            rintro e w4 ⟨rfl, rfl⟩
            rw [unt1]
            have dq : decide (N + lim < D) = false := by simp; omega
            go_wp2_with fail
            go_roundw
            case rel => exact ⟨k + 1, N + y, D, by omega, by omega, by go_num, by go_num, by go_num, ⟨T3.out, by omega, by omega, by omega, by omega, BE3.out⟩⟩
            case measure => simp [intOf]; omega
          | true =>
            by_cases h3 : k % 3 = 2
            · have d3 : ((k : Int) % 3) = 2 := by omega
              go_wp2_with fail
              refine (drop_any T3.out 0 (by decide)).mono ?_
              rintro e w5 ⟨rfl, T5, f5⟩
              rw [unt1]
              rw [drop1] at T5
              have hT5 := Lib.hid T5
              have hb5 := Lib.hid (BE3.out.trans (f5.below (by omega) BE3.out.size))
              have z5 : w5.cell? ⟨b2, o2 + k, none⟩ = some (.int .u16 y) := by rw [HY.out]; exact (hb5.out.cell (p := ⟨b2, o2 + k, none⟩) hlt2).trans (Q2.out k h2)
              clear T5 f5
              go_wp2_with fail
              refine (until_any hT5.out 0 (by decide)).mono ?_
              rintro e w6 ⟨rfl, rfl⟩
              rw [unt1]
              have dq : decide (N + lim < 0) = false := by simp; omega
              go_wp2_with fail
              go_roundw
              case rel => exact ⟨k + 1, N + y, 0, by omega, by omega, by go_num, by go_num, by go_num, ⟨hT5.out, by omega, by omega, by omega, by omega, hb5.out⟩⟩
              case measure => simp [intOf]; omega
            · have d3 : decide (((k : Int) % 3) = 2) = false := by simp; omega
              go_wp2_with fail
              refine (until_any T3.out 0 (by decide)).mono ?_
              rintro e w4 ⟨rfl, rfl⟩
              rw [unt1]
              have dq : decide (N + lim < D) = false := by simp; omega
              go_wp2_with fail
              go_roundw
              case rel => exact ⟨k + 1, N + y, D, by omega, by omega, by go_num, by go_num, by go_num, ⟨T3.out, by omega, by omega, by omega, by omega, BE3.out⟩⟩
              case measure => simp [intOf]; omega
        · have e3 : decide (N < D) = false := by simp; omega
          obtain ⟨hC, hE⟩ := put1_in (lim := lim) (D := D) (n := x) (now := N) (by omega) (by omega) (by omega) (by omega) hx3
          have HC := Lib.hid hC
          have HE := Lib.hid hE
          clear hC hE
          go_wp2_with fail
          refine (put_any A.out.tb (by unfold maxLen; omega) 0 x N).mono ?_
          rintro e w3 ⟨rfl, t3, f3⟩
          rw [HC.out]
          rw [HE.out] at t3
          have T3 := Lib.hid t3
          have hm := t3.hm
          have BE3 := Lib.hid (A.out.be.trans (f3.below (by omega) A.out.be.size))
          have z3 : w3.cell? ⟨b2, o2 + k, none⟩ = some (.int .u16 y) := by rw [HY.out]; exact (BE3.out.cell (p := ⟨b2, o2 + k, none⟩) hlt2).trans (Q2.out k h2)
          clear t3 f3 A
          cases d with
          | false =>
            go_wp2_with fail
            refine (until_any T3.out 0 (by decide)).mono ?_
            rintro e w4 ⟨rfl, rfl⟩
            rw [unt1]
            have dq : decide (N + lim < (N + x)) = false := by simp; omega
            go_wp2_with fail
            go_roundw
            case rel => exact ⟨k + 1, N + y, (N + x), by omega, by omega, by go_num, by go_num, by go_num, ⟨T3.out, by omega, by omega, by omega, by omega, BE3.out⟩⟩
            case measure => simp [intOf]; omega
          | true =>
            by_cases h3 : k % 3 = 2
            · have d3 : ((k : Int) % 3) = 2 := by omega
              go_wp2_with fail
              refine (drop_any T3.out 0 (by decide)).mono ?_
              rintro e w5 ⟨rfl, T5, f5⟩
              rw [unt1]
              rw [drop1] at T5
              have hT5 := Lib.hid T5
              have hb5 := Lib.hid (BE3.out.trans (f5.below (by omega) BE3.out.size))
              have z5 : w5.cell? ⟨b2, o2 + k, none⟩ = some (.int .u16 y) := by rw [HY.out]; exact (hb5.out.cell (p := ⟨b2, o2 + k, none⟩) hlt2).trans (Q2.out k h2)
              clear T5 f5
              go_wp2_with fail
              refine (until_any hT5.out 0 (by decide)).mono ?_
              rintro e w6 ⟨rfl, rfl⟩
              rw [unt1]
              have dq : decide (N + lim < 0) = false := by simp; omega
              go_wp2_with fail
              go_roundw
              case rel => exact ⟨k + 1, N + y, 0, by omega, by omega, by go_num, by go_num, by go_num, ⟨hT5.out, by omega, by omega, by omega, by omega, hb5.out⟩⟩
              case measure => simp [intOf]; omega
            · have d3 : decide (((k : Int) % 3) = 2) = false := by simp; omega
              go_wp2_with fail
              refine (until_any T3.out 0 (by decide)).mono ?_
              rintro e w4 ⟨rfl, rfl⟩
              rw [unt1]
              have dq : decide (N + lim < (N + x)) = false := by simp; omega
              go_wp2_with fail
              go_roundw
              case rel => exact ⟨k + 1, N + y, (N + x), by omega, by omega, by go_num, by go_num, by go_num, ⟨T3.out, by omega, by omega, by omega, by omega, BE3.out⟩⟩
              case measure => simp [intOf]; omega
      · have hk : k = l2 := by omega
        subst hk
        have hs : decide ((k : Int) < (l1 : Int)) = true := by simp; omega
        have BE := Lib.hid hA.be
        clear hA A
        go_wp2_with fail
        go_ret
        exact ⟨rfl, BE.out⟩
    · have hk : k = l1 := by omega
      subst hk
      have BE := Lib.hid hA.be
      clear hA A
      go_wp2_with fail
      go_ret
      exact ⟨rfl, BE.out⟩
end Go.Proofs.Ytfloceoopjokcaa
