/- The walk of QueueKeeps. -/
import Derived.Test.YtbonifmhlbakbaaR
namespace Go.Proofs.Ytbonifmhlbakbaa
set_option linter.unusedVariables false
open Go.ChangeShapes Go.WideShapes Go.ChangeAt Go.RowKit

def Small (X : List Int) : Prop := ∀ v ∈ X, -999 ≤ v ∧ v ≤ 999
theorem small_sum {X : List Int} (h : Small X) : -999 * (X.length : Int) ≤ X.sum ∧ X.sum ≤ 999 * (X.length : Int) := by
  induction X with
  | nil => simp
  | cons x X ih =>
    have h1 := h x (by simp)
    have h2 := ih (fun v hv => h v (by simp [hv]))
    simp only [List.sum_cons, List.length_cons]
    omega
theorem small_snoc {X : List Int} {x : Int} (h : Small X) (hx : -999 ≤ x ∧ x ≤ 999) : Small (X ++ [x]) := by
  intro v hv
  rcases List.mem_append.1 hv with hv | hv
  · exact h v hv
  · rw [List.mem_singleton] at hv; subst hv; exact hx
theorem small_tail {X : List Int} {x : Int} (h : Small (x :: X)) : Small X := fun v hv => h v (by simp [hv])
theorem sum_snoc (X : List Int) (x : Int) : (X ++ [x]).sum = X.sum + x := by simp

/-- What is known of a queue, of how many wait, and of their sum. -/
structure Kp (B N : Nat) (W w : World) (d cu co m : Nat) (s t : Int) : Prop where
  ex : ∃ X Y : List Int, Small X ∧ Small Y ∧ s = X.sum + Y.sum ∧ t = ((X.length + Y.length : Nat) : Int) ∧ Q B w d cu co m (X.map iv) (Y.map iv)
  low : Below N W w

set_option maxRecDepth 100000 in
set_option maxHeartbeats 2000000 in
theorem keeps_walk (a : Option Addr) (len cap : Nat) (g : Nat → Opn) (w : World) (h : Sl w a len g) :
    Calls Try.prog 7 #[.slice a len cap] w fun e w' => e = .returned (.bool true) ∧ Below w.heap.size w w' := by
  have hl := h.1.le
  unfold maxLen at hl
  have H := Lib.hid h
  clear h
  go_enter Try.func7, Try.ntmps7
  go_wp2_with fail
  refine (head_any w).mono ?_
  rintro e w0 ⟨rfl, hb⟩
  have B0 := Lib.hid hb
  have hs0 := hb.size
  clear hb
  go_wp2_with fail
  refine (new_int 64 w0).mono ?_
  rintro e w1 ⟨d, cu, co, rfl, q, b⟩
  rw [show cl 64 = 64 from rfl] at q
  have Q1 := Lib.hid q
  have B1 := Lib.hid (B0.out.trans (b.mono hs0))
  clear q b
  by_cases h5 : 1000 < len
  · have d1 : decide (1000 < (len : Int)) = true := by simp; omega
    go_wp2_with fail
    go_ret
    exact ⟨rfl, B1.out⟩
  have d1 : decide (1000 < (len : Int)) = false := by simp; omega
  go_wp2_with fail
  go_loopw [5, 6, 7, 8, 9, 10, 11, 12] (fun s t i u8 u9 u10 u11 u12 wr => ∃ (k : Nat) (S T : Int), k ≤ len ∧ i = .int .i64 k ∧ s = .int .i64 S ∧ t = .int .i64 T ∧ Kp w0.heap.size w.heap.size w wr d cu co 64 S T) (fun s t i _ _ _ _ _ _ => len - (intOf i).toNat)
  case atStart => exact ⟨0, 0, 0, Nat.zero_le _, rfl, rfl, rfl, ⟨[], [], by simp [Small], by simp [Small], rfl, rfl, Q1.out⟩, B1.out⟩
  case round =>
    obtain ⟨k, S, T, hk, rfl, rfl, rfl, hK⟩ := hrel
    obtain ⟨w2, hw2⟩ : ∃ w2, w2 = wr := ⟨_, rfl⟩
    subst hw2
    have HK := Lib.hid hK
    clear hK
    by_cases hlt : k < len
    · obtain ⟨b, off, rfl, hlt', hcs⟩ := (H.out.1.below HK.out.low).pos (by omega)
      have c0 : w2.cell? ⟨b, off + k * 3, none⟩ = some (.int .i64 (g k).1) := hcs k hlt 0 (by omega)
      have c1 : w2.cell? ⟨b, off + k * 3 + 1, none⟩ = some (.bool (g k).2.1) := hcs k hlt 1 (by omega)
      have c2 : w2.cell? ⟨b, off + k * 3 + 2, none⟩ = some (.int .i64 (g k).2.2) := hcs k hlt 2 (by omega)
      clear hcs
      generalize (g k).1 = wh at c0
      generalize (g k).2.1 = ur at c1
      generalize (g k).2.2 = xx at c2
      obtain ⟨r, hr⟩ : ∃ r, xx.tmod 1000 = r := ⟨_, rfl⟩
      have hr1 : -999 ≤ r ∧ r ≤ 999 := by
        have := Int.tmod_lt_of_pos xx (show (0 : Int) < 1000 by omega)
        have := Int.lt_tmod_of_pos xx (show (0 : Int) < 1000 by omega)
        omega
      have hr0 := hr1.1
      have hr2 := hr1.2
      clear hr1
      go_upto_if 44 with fail
      have HR := Lib.hid hr
      clear hr
      go_cut [5, 6, 9, 10] from 27 to 100 (fun s t _ _ wx => ∃ S T : Int, s = .int .i64 S ∧ t = .int .i64 T ∧ Kp w0.heap.size w.heap.size w wx d cu co 64 S T)
      case first =>
        obtain ⟨⟨X, Y, sX, sY, hS, hT, hq⟩, hb⟩ := HK.out
        have HB := Lib.hid hb
        have HQ := Lib.hid hq
        have bX := small_sum sX
        have bY := small_sum sY
        have lX : X.length ≤ 64 := by have := hq.lu; simpa using this
        have lY : Y.length ≤ 64 := by have := hq.lo; simpa using this
        have SX := Lib.hid sX
        have SY := Lib.hid sY
        have bX1 := bX.1
        have bX2 := bX.2
        have bY1 := bY.1
        have bY2 := bY.2
        have zb1 : -127872 ≤ S := by omega
        have zb2 : S ≤ 127872 := by omega
        have zt1 : 0 ≤ T := by omega
        have zt2 : T ≤ 128 := by omega
        have HS := Lib.hid hS
        have HT := Lib.hid hT
        clear hS hT hb hq sX sY bX bY HK bX1 bX2 bY1 bY2
        by_cases hw : wh < 3
        · cases ur
          · by_cases hrm : Y.length < 64
            · have hrr : room 64 (Y.map iv) = true := by rw [room_map]; simpa using hrm
              have hpp : pushL 64 (Y.map iv) (.int .i64 r) = (Y ++ [r]).map iv := by simp [pushL, hrm]
              have HRR := Lib.hid hrr
              have HPP := Lib.hid hpp
              clear hrr hpp
              go_wp2_with fail
              refine (put_int_o r HQ.out).mono ?_
              rintro e w3 ⟨rfl, hq3, hb3⟩
              rw [HPP.out] at hq3
              rw [HRR.out]
              have HK3 : Hid (Kp w0.heap.size w.heap.size w w3 d cu co 64 (S + r) (T + 1)) := Lib.hid ⟨⟨X, (Y ++ [r]), SX.out, small_snoc SY.out ⟨hr0, hr2⟩, by rw [sum_snoc, HS.out]; omega, by rw [HT.out, List.length_append]; simp; omega, hq3⟩, HB.out.trans (hb3.mono hs0)⟩
              clear hq3 hb3
              go_wp2_with fail
              go_meet
              exact ⟨_, _, rfl, rfl, HK3.out⟩
            · have hrr : room 64 (Y.map iv) = false := by rw [room_map]; simpa using hrm
              have hpp : pushL 64 (Y.map iv) (.int .i64 r) = Y.map iv := by simp [pushL, hrm]
              have HRR := Lib.hid hrr
              have HPP := Lib.hid hpp
              clear hrr hpp
              go_wp2_with fail
              refine (put_int_o r HQ.out).mono ?_
              rintro e w3 ⟨rfl, hq3, hb3⟩
              rw [HPP.out] at hq3
              rw [HRR.out]
              have HK3 : Hid (Kp w0.heap.size w.heap.size w w3 d cu co 64 S T) := Lib.hid ⟨⟨X, Y, SX.out, SY.out, HS.out, HT.out, hq3⟩, HB.out.trans (hb3.mono hs0)⟩
              clear hq3 hb3
              go_wp2_with fail
              go_meet
              exact ⟨_, _, rfl, rfl, HK3.out⟩
          · by_cases hrm : X.length < 64
            · have hrr : room 64 (X.map iv) = true := by rw [room_map]; simpa using hrm
              have hpp : pushL 64 (X.map iv) (.int .i64 r) = (X ++ [r]).map iv := by simp [pushL, hrm]
              have HRR := Lib.hid hrr
              have HPP := Lib.hid hpp
              clear hrr hpp
              go_wp2_with fail
              refine (put_int_u r HQ.out).mono ?_
              rintro e w3 ⟨rfl, hq3, hb3⟩
              rw [HPP.out] at hq3
              rw [HRR.out]
              have HK3 : Hid (Kp w0.heap.size w.heap.size w w3 d cu co 64 (S + r) (T + 1)) := Lib.hid ⟨⟨(X ++ [r]), Y, small_snoc SX.out ⟨hr0, hr2⟩, SY.out, by rw [sum_snoc, HS.out]; omega, by rw [HT.out, List.length_append]; simp; omega, hq3⟩, HB.out.trans (hb3.mono hs0)⟩
              clear hq3 hb3
              go_wp2_with fail
              go_meet
              exact ⟨_, _, rfl, rfl, HK3.out⟩
            · have hrr : room 64 (X.map iv) = false := by rw [room_map]; simpa using hrm
              have hpp : pushL 64 (X.map iv) (.int .i64 r) = X.map iv := by simp [pushL, hrm]
              have HRR := Lib.hid hrr
              have HPP := Lib.hid hpp
              clear hrr hpp
              go_wp2_with fail
              refine (put_int_u r HQ.out).mono ?_
              rintro e w3 ⟨rfl, hq3, hb3⟩
              rw [HPP.out] at hq3
              rw [HRR.out]
              have HK3 : Hid (Kp w0.heap.size w.heap.size w w3 d cu co 64 S T) := Lib.hid ⟨⟨X, Y, SX.out, SY.out, HS.out, HT.out, hq3⟩, HB.out.trans (hb3.mono hs0)⟩
              clear hq3 hb3
              go_wp2_with fail
              go_meet
              exact ⟨_, _, rfl, rfl, HK3.out⟩
        · by_cases hw5 : wh = 5
          · subst hw5
            go_wp2_with fail
            refine (drain_int HQ.out (by omega)).mono ?_
            rintro e w3 ⟨rfl, hq3, hb3⟩
            rw [← HT.out]
            have HK3 : Hid (Kp w0.heap.size w.heap.size w w3 d cu co 64 0 0) := Lib.hid ⟨⟨[], [], by simp [Small], by simp [Small], rfl, rfl, hq3⟩, HB.out.trans (hb3.mono hs0)⟩
            clear hq3 hb3
            go_wp2_with fail
            go_meet
            exact ⟨_, _, rfl, rfl, HK3.out⟩
          · have w5 : (wh == 5) = false := by simpa using hw5
            cases X with
            | cons x X =>
              have hxs := SX.out x (by simp)
              have hx1 := hxs.1
              have hx2 := hxs.2
              have t0 : 0 < T := by rw [HT.out]; simp; omega
              have t1 : decide ((0 : Int) < T) = true := decide_eq_true t0
              clear hxs
              go_wp2_with fail
              refine (take_int_u' x (h := HQ.out)).mono ?_
              rintro e w3 ⟨rfl, hq3, hb3⟩
              have HK3 : Hid (Kp w0.heap.size w.heap.size w w3 d cu co 64 (S - x) (T - 1)) := Lib.hid ⟨⟨X, Y, small_tail SX.out, SY.out, by rw [HS.out]; simp; omega, by rw [HT.out]; simp; omega, hq3⟩, HB.out.trans (hb3.mono hs0)⟩
              clear hq3 hb3
              go_wp2_with fail
              go_meet
              exact ⟨_, _, rfl, rfl, HK3.out⟩
            | nil =>
              cases Y with
              | cons x Y =>
                have hxs := SY.out x (by simp)
                have hx1 := hxs.1
                have hx2 := hxs.2
                have t0 : 0 < T := by rw [HT.out]; simp <;> omega
                have t1 : decide ((0 : Int) < T) = true := decide_eq_true t0
                clear hxs
                go_wp2_with fail
                refine (take_int_o' x (h := HQ.out)).mono ?_
                rintro e w3 ⟨rfl, hq3, hb3⟩
                have HK3 : Hid (Kp w0.heap.size w.heap.size w w3 d cu co 64 (S - x) (T - 1)) := Lib.hid ⟨⟨[], Y, SX.out, small_tail SY.out, by rw [HS.out]; simp <;> omega, by rw [HT.out]; simp <;> omega, hq3⟩, HB.out.trans (hb3.mono hs0)⟩
                clear hq3 hb3
                go_wp2_with fail
                go_meet
                exact ⟨_, _, rfl, rfl, HK3.out⟩
              | nil =>
                have t0 : T = 0 := HT.out
                have s0 : S = 0 := HS.out
                subst t0 s0
                go_wp2_with fail
                refine (take_int_n' (h := HQ.out)).mono ?_
                rintro e w3 ⟨rfl, hq3, hb3⟩
                have HK3 : Hid (Kp w0.heap.size w.heap.size w w3 d cu co 64 0 0) := Lib.hid ⟨⟨[], [], SX.out, SY.out, rfl, rfl, hq3⟩, HB.out.trans (hb3.mono hs0)⟩
                clear hq3 hb3
                go_wp2_with fail
                go_meet
                exact ⟨_, _, rfl, rfl, HK3.out⟩
      case rest =>
        obtain ⟨S', T', rfl, rfl, hK⟩ := hcut
        obtain ⟨w3, hw3⟩ : ∃ w3, w3 = wc := ⟨_, rfl⟩
        subst hw3
        obtain ⟨⟨X, Y, sX, sY, hS, hT, hq⟩, hb⟩ := hK
        have lX : X.length ≤ 64 := by have := hq.lu; simpa using this
        have lY : Y.length ≤ 64 := by have := hq.lo; simpa using this
        have hz : T' = 0 → S' = 0 := by
          intro h0
          have hX : X = [] := List.eq_nil_of_length_eq_zero (by omega)
          have hY : Y = [] := List.eq_nil_of_length_eq_zero (by omega)
          subst hX hY
          exact hS
        have HZ := Lib.hid hz
        have HT := Lib.hid hT
        have HQ := Lib.hid hq
        have HK3 := Lib.hid (show Kp w0.heap.size w.heap.size w w3 d cu co 64 S' T' from ⟨⟨X, Y, sX, sY, hS, hT, hq⟩, hb⟩)
        have hsum : (X.length : Int) + (Y.length : Int) = T' := by rw [hT]; simp
        have HSM := Lib.hid hsum
        clear sX sY hS hT hq hb hz hsum c0 c1 c2 HK
        go_wp2_with fail
        refine (many_int HQ.out).mono ?_
        rintro e w4 ⟨rfl, b4⟩
        have HK4 : Hid (Kp w0.heap.size w.heap.size w w4 d cu co 64 S' T') := Lib.hid (by
          obtain ⟨⟨X, Y, sX, sY, hS, hT, hq⟩, hb⟩ := HK3.out
          exact ⟨⟨X, Y, sX, sY, hS, hT, hq.below b4⟩, hb.trans (b4.mono hb.size)⟩)
        clear b4
        rw [List.length_map, List.length_map]
        by_cases h0 : T' = 0
        · have hS0 := HZ.out h0
          subst h0 hS0
          have hs1 := HSM.out
          have e1 : (((X.length : Int) + (Y.length : Int)) != 0) = false := by rw [hs1]; rfl
          clear hs1
          go_wp2_with fail
          go_roundw
          case rel => exact ⟨k + 1, 0, 0, by omega, by go_num, rfl, rfl, HK4.out⟩
          case measure => simp [intOf]; omega
        · have hs1 := HSM.out
          have e1 : (((X.length : Int) + (Y.length : Int)) != T') = false := by rw [hs1]; simp
          have e2 : (T' == 0) = false := by simpa using h0
          clear hs1
          go_wp2_with fail
          go_roundw
          case rel => exact ⟨k + 1, S', T', by omega, by go_num, rfl, rfl, HK4.out⟩
          case measure => simp [intOf]; omega
    · have hk' : k = len := by omega
      subst hk'
      go_wp2_with fail
      go_ret
      exact ⟨rfl, HK.out.low⟩
end Go.Proofs.Ytbonifmhlbakbaa
