/- Sums, as numbers: one bit, a nibble, a byte; they are linear over xor, and lose nothing. -/
import Derived.Laws.Entries
import Derived.Laws.Bits64
namespace Go.Proofs.Ytdlcfnpnfdlahaa
set_option linter.unusedVariables false

def half (x : Nat) : Nat := if x % 2 = 1 then x / 2 ^^^ 40961 else x / 2
def halves : Nat → Nat → Nat
  | 0, x => x
  | n + 1, x => halves n (half x)
theorem halves_succ (n x : Nat) : halves (n + 1) x = half (halves n x) := by
  induction n generalizing x with
  | zero => rfl
  | succ n ih => rw [halves, ih]; rfl

theorem xor_div2 (a b : Nat) : (a ^^^ b) / 2 = a / 2 ^^^ b / 2 := by
  have := Nat.xor_div_two_pow (a := a) (b := b) (n := 1)
  simpa using this
theorem xor_mod2 (a b : Nat) : (a ^^^ b) % 2 = (a % 2 + b % 2) % 2 := by
  have h := Nat.xor_mod_two_pow (a := a) (b := b) (n := 1)
  simp only [Nat.pow_one] at h
  rw [h]
  rcases Nat.mod_two_eq_zero_or_one a with ha | ha <;> rcases Nat.mod_two_eq_zero_or_one b with hb | hb <;> rw [ha, hb] <;> rfl
theorem xlc (a b c : Nat) : a ^^^ (b ^^^ c) = b ^^^ (a ^^^ c) := by rw [← Nat.xor_assoc, Nat.xor_comm a b, Nat.xor_assoc]
theorem xcan (a b : Nat) : a ^^^ (b ^^^ a) = b := by rw [Nat.xor_comm b a, ← Nat.xor_assoc, Nat.xor_self, Nat.zero_xor]
theorem xeq (a b : Nat) (h : a ^^^ b = 0) : a = b := by
  have : b ^^^ (a ^^^ b) = a := xcan b a
  rw [h, Nat.xor_zero] at this
  exact this.symm

theorem half_xor (a b : Nat) : half (a ^^^ b) = half a ^^^ half b := by
  unfold half
  have h := xor_mod2 a b
  rcases Nat.mod_two_eq_zero_or_one a with ha | ha <;> rcases Nat.mod_two_eq_zero_or_one b with hb | hb <;> rw [ha, hb] at h <;> simp only [h, ha, hb, xor_div2] <;> simp [Nat.xor_assoc, Nat.xor_comm, xlc]

theorem halves_xor (n a b : Nat) : halves n (a ^^^ b) = halves n a ^^^ halves n b := by
  induction n generalizing a b with
  | zero => rfl
  | succ n ih => simp only [halves]; rw [half_xor, ih]

theorem half_lt (x : Nat) (h : x < 65536) : half x < 65536 := by
  unfold half
  split
  · exact Nat.xor_lt_two_pow (n := 16) (by omega) (by omega)
  · omega
theorem halves_lt (n x : Nat) (h : x < 65536) : halves n x < 65536 := by
  induction n generalizing x with
  | zero => exact h
  | succ n ih => exact ih _ (half_lt x h)

theorem half_zero (x : Nat) (h : x < 65536) (e : half x = 0) : x = 0 := by
  unfold half at e
  split at e
  · have h1 : x / 2 = 40961 := xeq _ _ e
    omega
  · omega
theorem halves_zero (n x : Nat) (h : x < 65536) (e : halves n x = 0) : x = 0 := by
  induction n generalizing x with
  | zero => exact e
  | succ n ih => exact half_zero x h (ih _ (half_lt x h) e)

theorem half_double (q : Nat) : half (2 * q) = q := by unfold half; rw [if_neg (by omega)]; omega
theorem halves4 (q : Nat) : halves 4 (16 * q) = q := by
  have e1 : half (16 * q) = 8 * q := by rw [show 16 * q = 2 * (8 * q) by omega, half_double]
  have e2 : half (8 * q) = 4 * q := by rw [show 8 * q = 2 * (4 * q) by omega, half_double]
  have e3 : half (4 * q) = 2 * q := by rw [show 4 * q = 2 * (2 * q) by omega, half_double]
  simp only [halves, e1, e2, e3, half_double]

/-- A nibble at once. -/
theorem nibble (x : Nat) : halves 4 x = x / 16 ^^^ halves 4 (x % 16) := by
  have e : x = 16 * (x / 16) ^^^ (x % 16) := by
    have h1 := Nat.xor_div_two_pow (a := 16 * (x / 16)) (b := x % 16) (n := 4)
    have h2 := Nat.xor_mod_two_pow (a := 16 * (x / 16)) (b := x % 16) (n := 4)
    simp only [show (2 : Nat) ^ 4 = 16 from rfl] at h1 h2
    rw [show 16 * (x / 16) / 16 = x / 16 by omega, show x % 16 / 16 = 0 by omega, Nat.xor_zero] at h1
    rw [show 16 * (x / 16) % 16 = 0 by omega, show x % 16 % 16 = x % 16 by omega, Nat.zero_xor] at h2
    omega
  conv => lhs; rw [e]
  rw [halves_xor, halves4]

theorem bits_xor_u16_nat (a b : Nat) (ha : a < 65536) (hb : b < 65536) : bits .xor .u16 (a : Int) (b : Int) = ((a ^^^ b : Nat) : Int) := by
  have hx : a ^^^ b < 2 ^ 16 := Nat.xor_lt_two_pow (by omega) (by omega)
  have h1 : (BitVec.ofInt 16 (a : Int)).toNat = a := by
    rw [BitVec.ofInt_natCast, BitVec.toNat_ofNat]; exact Nat.mod_eq_of_lt (by omega)
  have h2 : (BitVec.ofInt 16 (b : Int)).toNat = b := by
    rw [BitVec.ofInt_natCast, BitVec.toNat_ofNat]; exact Nat.mod_eq_of_lt (by omega)
  show IntKind.u16.wrap ((BitVec.ofInt 16 (a : Int) ^^^ BitVec.ofInt 16 (b : Int)).toNat : Int) = _
  rw [BitVec.toNat_xor, h1, h2]
  simp [IntKind.wrap, IntKind.bits, IntKind.signed]
  omega
theorem bits_and_u16_nat (a b : Nat) (ha : a < 65536) (hb : b < 65536) : bits .and .u16 (a : Int) (b : Int) = ((a &&& b : Nat) : Int) := by
  have hx : a &&& b < 2 ^ 16 := Nat.and_lt_two_pow _ (by omega)
  have h1 : (BitVec.ofInt 16 (a : Int)).toNat = a := by
    rw [BitVec.ofInt_natCast, BitVec.toNat_ofNat]; exact Nat.mod_eq_of_lt (by omega)
  have h2 : (BitVec.ofInt 16 (b : Int)).toNat = b := by
    rw [BitVec.ofInt_natCast, BitVec.toNat_ofNat]; exact Nat.mod_eq_of_lt (by omega)
  show IntKind.u16.wrap ((BitVec.ofInt 16 (a : Int) &&& BitVec.ofInt 16 (b : Int)).toNat : Int) = _
  rw [BitVec.toNat_and, h1, h2]
  simp [IntKind.wrap, IntKind.bits, IntKind.signed]
  omega
end Go.Proofs.Ytdlcfnpnfdlahaa
