/- The sum of bytes. -/
import Derived.Test.YtdlcfnpnfdlahaaQA
namespace Go.Proofs.Ytdlcfnpnfdlahaa
set_option linter.unusedVariables false
open Go.ChangeShapes Go.WideShapes Go.ChangeAt Go.RowKit

theorem Row.pos {W : World} {a : Option Addr} {len : Nat} {V : Nat → Value} (h : Row W a len V) (hp : 0 < len) : ∃ b off, a = some ⟨b, off, none⟩ ∧ b < W.heap.size ∧ ∀ i, i < len → W.cell? ⟨b, off + i, none⟩ = some (V i) := by
  rcases h.at' with z | z
  · omega
  · exact z
theorem Row.below {W w : World} {a : Option Addr} {len : Nat} {V : Nat → Value} (h : Row W a len V) (hb : Below W.heap.size W w) : Row w a len V := by
  refine ⟨h.le, ?_⟩
  rcases h.at' with z | ⟨b, off, ha, hlt, hc⟩
  · exact .inl z
  · exact .inr ⟨b, off, ha, Nat.lt_of_lt_of_le hlt hb.size, fun i hi => (hb.cell (p := ⟨b, off + i, none⟩) hlt).trans (hc i hi)⟩

/-- The sum of the first n bytes. -/
def crcF (f : Nat → Nat) : Nat → Nat
  | 0 => 65535
  | n + 1 => halves 8 (crcF f n ^^^ f n)
theorem crcF_lt (f : Nat → Nat) (n : Nat) (h : ∀ i, i < n → f i < 256) : crcF f n < 65536 := by
  induction n with
  | zero => simp [crcF]
  | succ n ih =>
    refine halves_lt 8 _ (Nat.xor_lt_two_pow (n := 16) (ih fun i hi => h i (by omega)) ?_)
    have := h n (by omega)
    omega

theorem and_15_u16 (x : Nat) (h : x < 65536) : bits .and .u16 (x : Int) 15 = ((x % 16 : Nat) : Int) := by
  have h1 := bits_and_u16_nat x 15 h (by omega)
  have h2 : x &&& 15 = x % 16 := Nat.and_two_pow_sub_one_eq_mod x 4
  rw [h2] at h1
  exact h1

theorem halves_add (n m x : Nat) : halves (n + m) x = halves m (halves n x) := by
  induction n generalizing x with
  | zero => simp [halves]
  | succ n ih => rw [show n + 1 + m = (n + m) + 1 by omega]; simp only [halves]; exact ih _

theorem tabL_cell {w : World} {b i : Nat} (h : w.heap[b]? = some (.cells tabL 55 (0, 0))) (hi : i < 16) : w.cell? ⟨b, i, none⟩ = some (.int .u16 ((halves 4 i : Nat) : Int)) := by
  have ht : tabL = tab 16 := by rfl
  rw [ht] at h
  have := (tab_cell h hi).1
  rw [if_pos hi] at this
  exact this

abbrev RowB (w : World) (a : Option Addr) (len : Nat) (f : Nat → Nat) : Prop := Row w a len (fun i => .int .u8 ((f i : Nat) : Int))

set_option maxRecDepth 100000 in
set_option maxHeartbeats 2000000 in
theorem sum_any (a : Option Addr) (len cap : Nat) (f : Nat → Nat) (w : World) (h : RowB w a len f) (hf : ∀ i, i < len → f i < 256) :
    Calls Try.prog 28 #[.slice a len cap] w fun e w' => e = .returned (.int .u16 ((crcF f len : Nat) : Int)) ∧ Below w.heap.size w w' := by
  have hl := h.le
  unfold maxLen at hl
  have H := Lib.hid h
  have HF := Lib.hid hf
  clear h hf
  go_enter Try.func28, Try.ntmps28
  go_wp2_with fail
  refine (nibbles_any w).mono ?_
  rintro e w1 ⟨rfl, hb⟩
  go_wp2_with fail
  have hT : (w1.alloc (.cells tabL 55 (0, 0))).heap[w1.heap.size]? = some (.cells tabL 55 (0, 0)) := heap_at rfl
  have hB : Below w.heap.size w (w1.alloc (.cells tabL 55 (0, 0))) := hb.alloc hb.size _
  have hR : RowB (w1.alloc (.cells tabL 55 (0, 0))) a len f := H.out.below hB
  generalize (w1.alloc (.cells tabL 55 (0, 0))) = W at hT hB hR ⊢
  generalize w1.heap.size = G at hT ⊢
  have HT := Lib.hid hT
  have HB := Lib.hid hB
  have HR := Lib.hid hR
  clear hT hB hR hb H
  go_loop [4, 10] (fun t i => ∃ k : Nat, k ≤ len ∧ i = .int .i64 k ∧ t = .int .u16 ((crcF f k : Nat) : Int)) (fun _ i => len - (intOf i).toNat)
  case atStart => exact ⟨0, Nat.zero_le _, rfl, rfl⟩
  case round =>
    obtain ⟨k, hk, rfl, rfl⟩ := hrel
    by_cases hlt : k < len
    · have hx := crcF_lt f k (fun i hi => HF.out i (by omega))
      have hfk := HF.out k hlt
      obtain ⟨b, off, ha, _, hc⟩ := HR.out.pos (by omega)
      have hc0 := hc k hlt
      clear hc
      subst ha
      have hxor := bits_xor_u16_nat (crcF f k) (f k) hx (by omega)
      have hx0 : crcF f k ^^^ f k < 65536 := Nat.xor_lt_two_pow (n := 16) hx (by omega)
      have hfin : crcF f (k + 1) = halves 8 (crcF f k ^^^ f k) := rfl
      generalize crcF f k ^^^ f k = y at hxor hx0 hfin
      generalize crcF f k = x at hx hxor ⊢
      have HFIN := Lib.hid hfin
      clear hfin
      generalize f k = z at hc0 hfk hxor
      go_wp2_with fail
      go_loop [4, 18] (fun t j => ∃ m : Nat, m ≤ 2 ∧ j = .int .i64 m ∧ t = .int .u16 ((halves (4 * m) y : Nat) : Int)) (fun _ j => 2 - (intOf j).toNat)
      case atStart => exact ⟨0, by omega, rfl, by simp [halves]⟩
      case round =>
        obtain ⟨m, hm, rfl, rfl⟩ := hrel
        by_cases hlt2 : m < 2
        · have hq := halves_lt (4 * m) y hx0
          have hadd : halves (4 * (m + 1)) y = halves 4 (halves (4 * m) y) := by rw [show 4 * (m + 1) = 4 * m + 4 by omega]; exact halves_add (4 * m) 4 y
          rw [nibble] at hadd
          generalize halves (4 * m) y = q at hq hadd ⊢
          have hand := and_15_u16 q hq
          have hdiv : ((q : Int) / 16) = ((q / 16 : Nat) : Int) := by simp
          have hr : q % 16 < 16 := by omega
          have hcell := tabL_cell HT.out hr
          have ht := halves_lt 4 (q % 16) (by omega)
          have hxx := bits_xor_u16_nat (q / 16) (halves 4 (q % 16)) (by omega) ht
          generalize q % 16 = r at hand hr hcell hadd ht hxx
          generalize q / 16 = d at hdiv hadd hxx
          generalize halves 4 r = t at hcell hadd ht hxx
          have HADD := Lib.hid hadd
          clear hadd
          go_wp2_with fail
          go_round
          case rel => exact ⟨m + 1, by omega, by go_num, by rw [HADD.out]⟩
          case measure => simp [intOf]; omega
        · have hm' : m = 2 := by omega
          subst hm'
          go_wp2_with fail
          go_round
          case rel => exact ⟨k + 1, by omega, by go_num, by rw [HFIN.out]⟩
          case measure => simp [intOf]; omega
    · have hk' : len = k := by omega
      subst hk'
      go_wp2_with fail
      go_ret
      exact ⟨rfl, HB.out⟩
end Go.Proofs.Ytdlcfnpnfdlahaa
