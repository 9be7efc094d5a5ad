/- The contracts of the code's small functions: follows, mayBegin. -/
import Derived.Test.YtnihgpaandodjaaBase
import Derived.Deep.RegionHeld
namespace Go.Proofs.Ytnihgpaandodjaa
set_option linter.unusedVariables false
open Go.ChangeShapes Go.WideShapes Go.ChangeAt Go.RowKit

theorem or_bytes (x y : Nat) (hx : x < 256) (hy : y < 256) : bits .or .i64 ((x : Int) * 256) (y : Int) = ((256 * x + y : Nat) : Int) := by
  have h1 : (256 * x) ||| y = 256 * x + y := by
    have := Nat.two_pow_add_eq_or_of_lt (i := 8) (b := y) (by omega) x
    simpa using this.symm
  have e : (x : Int) * 256 = ((256 * x : Nat) : Int) := by omega
  rw [e]
  have g1 : (BitVec.ofInt 64 ((256 * x : Nat) : Int)).toNat = 256 * x := by
    rw [BitVec.ofInt_natCast, BitVec.toNat_ofNat]; exact Nat.mod_eq_of_lt (by omega)
  have g2 : (BitVec.ofInt 64 (y : Int)).toNat = y := by
    rw [BitVec.ofInt_natCast, BitVec.toNat_ofNat]; exact Nat.mod_eq_of_lt (by omega)
  show IntKind.i64.wrap ((BitVec.ofInt 64 ((256 * x : Nat) : Int) ||| BitVec.ofInt 64 (y : Int)).toNat : Int) = _
  rw [BitVec.toNat_or, g1, g2, h1]
  exact IntWalk.i64_in _ (by omega)

abbrev RowB (w : World) (a : Option Addr) (len : Nat) (f : Nat → Nat) : Prop := Row w a len (fun i => .int .u8 ((f i : Nat) : Int))
theorem Row.pos {W : World} {a : Option Addr} {len : Nat} {V : Nat → Value} (h : Row W a len V) (hp : 0 < len) : ∃ b off, a = some ⟨b, off, none⟩ ∧ b < W.heap.size ∧ ∀ i, i < len → W.cell? ⟨b, off + i, none⟩ = some (V i) := by
  rcases h.at' with z | z
  · omega
  · exact z
theorem Row.below {W w : World} {a : Option Addr} {len : Nat} {V : Nat → Value} (h : Row W a len V) (hb : Below W.heap.size W w) : Row w a len V := by
  refine ⟨h.le, ?_⟩
  rcases h.at' with z | ⟨b, off, ha, hlt, hc⟩
  · exact .inl z
  · exact .inr ⟨b, off, ha, Nat.lt_of_lt_of_le hlt hb.size, fun i hi => (hb.cell (p := ⟨b, off + i, none⟩) hlt).trans (hc i hi)⟩
theorem below_drewN (B : Nat) (w : World) (n : Nat) : Below B w (w.drewN n) := ⟨rfl, rfl, rfl, Nat.le_refl _, fun _ _ => rfl⟩

/-- What the head says that follows. -/
def folF (f : Nat → Nat) : Nat := 256 * f 4 + f 5
/-- Whether the bytes may begin a frame. -/
def mayF (f : Nat → Nat) (len : Nat) : Bool := (decide (len ≤ 2) || decide (f 2 = 0)) && (decide (len ≤ 3) || decide (f 3 = 0)) && (decide (len < 6) || (decide (2 ≤ folF f) && decide (folF f ≤ 254)))

set_option maxRecDepth 100000 in
set_option maxHeartbeats 1000000 in
theorem follows_any (b off len cap : Nat) (x y : Nat) (w : World) (h6 : 6 ≤ len) (hx : w.cell? ⟨b, off + 4, none⟩ = some (.int .u8 (x : Int))) (hy : w.cell? ⟨b, off + 5, none⟩ = some (.int .u8 (y : Int))) (lx : x < 256) (ly : y < 256) :
    Calls Try.prog 20 #[.slice (some ⟨b, off, none⟩) len cap] w fun e w' => e = .returned (.int .i64 ((256 * x + y : Nat) : Int)) ∧ w' = w.drew := by
  have h4 : (4 : Int) < (len : Int) := by omega
  have h5 : (5 : Int) < (len : Int) := by omega
  go_enter Try.func20, Try.ntmps20
  go_wp2_with fail
  go_region
  all_goals
    go_wp2_with fail
    rw [or_bytes x y lx ly]
    go_ret
    exact ⟨rfl, rfl⟩

set_option maxRecDepth 100000 in
set_option maxHeartbeats 2000000 in
theorem may_any (a : Option Addr) (len cap : Nat) (f : Nat → Nat) (w : World) (h : RowB w a len f) (hf : ∀ i, i < len → f i < 256) :
    Calls Try.prog 19 #[.slice a len cap] w fun e w' => e = .returned (.bool (mayF f len)) ∧ Below w.heap.size w w' := by
  have hl := h.le
  unfold maxLen at hl
  have H := Lib.hid h
  have HF := Lib.hid hf
  clear h hf
  go_enter Try.func19, Try.ntmps19
  go_wp2_with fail
  go_loop [3] (fun i => ∃ k : Nat, 2 ≤ k ∧ k ≤ 4 ∧ i = .int .i64 k ∧ ∀ j, 2 ≤ j → j < k → j < len ∧ f j = 0) (fun i => 4 - (intOf i).toNat)
  case atStart => exact ⟨2, by omega, by omega, rfl, fun j _ _ => by omega⟩
  case round =>
    obtain ⟨k, hk2, hk4, rfl, hz⟩ := hrel
    have HZ := Lib.hid hz
    clear hz
    by_cases hlt : k < 4 ∧ k < len
    · obtain ⟨h1, h2⟩ := hlt
      obtain ⟨b, off, ha, _, hc⟩ := H.out.pos (by omega)
      have hc0 := hc k h2
      have hfk := HF.out k h2
      clear hc
      subst ha
      have hi : (k : Int) < (len : Int) := by omega
      generalize hv : f k = v at hc0 hfk
      have HV := Lib.hid hv
      clear hv
      by_cases hv0 : v = 0
      · have t1 : ((v : Int) != 0) = false := by simp [hv0]
        go_wp2_with fail
        go_round
        case rel => exact ⟨k + 1, by omega, by omega, by go_num, fun j h3 h4 => by
          by_cases hj : j = k
          · subst hj; exact ⟨h2, by rw [HV.out, hv0]⟩
          · exact HZ.out j h3 (by omega)⟩
        case measure => simp [intOf]; omega
      · have t1 : ((v : Int) != 0) = true := by simp; omega
        go_wp2_with fail
        go_ret
        refine ⟨?_, Below.refl _ _⟩
        have hm : mayF f len = false := by
          have := HV.out
          rcases (by omega : k = 2 ∨ k = 3) with rfl | rfl
          · simp [mayF, this, hv0]; omega
          · simp [mayF, this, hv0]; omega
        rw [hm]
        rfl
    · have hlast : (len ≤ 2 ∨ f 2 = 0) ∧ (len ≤ 3 ∨ f 3 = 0) := by
        constructor
        · by_cases h2 : len ≤ 2
          · exact .inl h2
          · exact .inr (HZ.out 2 (by omega) (by omega)).2
        · by_cases h3 : len ≤ 3
          · exact .inl h3
          · exact .inr (HZ.out 3 (by omega) (by omega)).2
      have hm : mayF f len = (decide (len < 6) || (decide (2 ≤ folF f) && decide (folF f ≤ 254))) := by
        unfold mayF
        rcases hlast with ⟨h2 | h2, h3 | h3⟩ <;> simp [h2, h3]
      have HM := Lib.hid hm
      have hguard : decide ((k : Int) < 4) = false ∨ (decide ((k : Int) < 4) = true ∧ len ≤ k) := by
        by_cases h4 : k < 4
        · exact .inr ⟨by simp; omega, by omega⟩
        · exact .inl (by simp; omega)
      clear hm hlast
      by_cases h6 : len < 6
      · have d6 : decide ((len : Int) < 6) = true := by simp; omega
        have hm1 : mayF f len = true := by rw [HM.out]; simp [h6]
        have HM1 := Lib.hid hm1
        clear hm1
        rcases hguard with g1 | ⟨g1, g2⟩
        all_goals
          go_wp2_with fail
          go_ret
          refine ⟨?_, Below.refl _ _⟩
          rw [HM1.out]
          try rfl
      · have d6 : decide ((len : Int) < 6) = false := by simp; omega
        obtain rfl : k = 4 := by
          by_cases h4 : k = 4
          · exact h4
          · exact absurd ⟨by omega, by omega⟩ hlt
        obtain ⟨b, off, ha, hb, hc⟩ := H.out.pos (by omega)
        have c4 := hc 4 (by omega)
        have c5 := hc 5 (by omega)
        have l4 := HF.out 4 (by omega)
        have l5 := HF.out 5 (by omega)
        subst ha
        clear hc hguard
        have hF : folF f = 256 * f 4 + f 5 := rfl
        have hm2 : mayF f len = (decide (2 ≤ folF f) && decide (folF f ≤ 254)) := by rw [HM.out]; simp [h6]
        have HM2 := Lib.hid hm2
        have HFF := Lib.hid hF
        have C4 := Lib.hid c4
        have C5 := Lib.hid c5
        clear hF hm2 c4 c5
        go_wp2_with fail
        refine (follows_any b off len cap (f 4) (f 5) w (by omega) C4.out C5.out l4 l5).mono ?_
        rintro e w1 ⟨rfl, rfl⟩
        rw [← HFF.out]
        by_cases hf2 : 2 ≤ folF f
        · have e2 : decide ((2 : Int) ≤ ((folF f : Nat) : Int)) = true := by simp; omega
          have hm3 : mayF f len = decide (folF f ≤ 254) := by rw [HM2.out]; simp [hf2]
          have HM3 := Lib.hid hm3
          clear hm3
          go_wp2_with fail
          refine (follows_any b off len cap (f 4) (f 5) w.drew (by omega) C4.out C5.out l4 l5).mono ?_
          rintro e w2 ⟨rfl, rfl⟩
          rw [← HFF.out]
          go_wp2_with fail
          go_ret
          refine ⟨?_, below_drewN _ _ 2⟩
          rw [HM3.out]
          simp
          omega
        · have e2 : decide ((2 : Int) ≤ ((folF f : Nat) : Int)) = false := by simp; omega
          have hm3 : mayF f len = false := by rw [HM2.out]; simp [hf2]
          have HM3 := Lib.hid hm3
          clear hm3
          go_wp2_with fail
          go_ret
          refine ⟨?_, below_drewN _ _ 1⟩
          rw [HM3.out]
          try rfl
end Go.Proofs.Ytnihgpaandodjaa
