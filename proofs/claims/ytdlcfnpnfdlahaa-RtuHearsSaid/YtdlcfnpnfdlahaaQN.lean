/- What a change of two bytes that stand together does to a sum. -/
import Derived.Test.YtdlcfnpnfdlahaaQK
namespace Go.Proofs.Ytdlcfnpnfdlahaa
set_option linter.unusedVariables false
open Go.ChangeShapes Go.WideShapes Go.ChangeAt Go.RowKit

/-- The sum that begins with c. -/
def crcI (c : Nat) (f : Nat → Nat) : Nat → Nat
  | 0 => c
  | n + 1 => halves 8 (crcI c f n ^^^ f n)
theorem crcI_F (f : Nat → Nat) (n : Nat) : crcI 65535 f n = crcF f n := by
  induction n with
  | zero => rfl
  | succ n ih => simp only [crcI, crcF, ih]
theorem crcI_xor (a b : Nat) (f g : Nat → Nat) (n : Nat) : crcI (a ^^^ b) (fun i => f i ^^^ g i) n = crcI a f n ^^^ crcI b g n := by
  induction n with
  | zero => rfl
  | succ n ih =>
    simp only [crcI, ih]
    rw [← halves_xor]
    congr 1
    rw [Nat.xor_assoc, Nat.xor_assoc, xlc (crcI b g n) (f n) (g n)]
theorem crcI_lt (c : Nat) (f : Nat → Nat) (n : Nat) (hc : c < 65536) (h : ∀ i, i < n → f i < 256) : crcI c f n < 65536 := by
  induction n with
  | zero => exact hc
  | succ n ih =>
    refine halves_lt 8 _ (Nat.xor_lt_two_pow (n := 16) (ih fun i hi => h i (by omega)) ?_)
    have := h n (by omega)
    omega
theorem halves8 (q : Nat) : halves 8 (256 * q) = q := by
  rw [show (8 : Nat) = 4 + 4 from rfl, halves_add, show 256 * q = 16 * (16 * q) by omega, halves4, halves4]
theorem halves_inj (n a b : Nat) (ha : a < 65536) (hb : b < 65536) (h : halves n a = halves n b) : a = b := by
  refine xeq a b (halves_zero n _ (Nat.xor_lt_two_pow (n := 16) ha hb) ?_)
  rw [halves_xor, h, Nat.xor_self]
theorem halves_zero' (n : Nat) : halves n 0 = 0 := by
  induction n with
  | zero => rfl
  | succ n ih => exact ih

/-- A sum of which the next byte, and one more, are told, comes to 0 just behind its own two. -/
theorem res_zero (c x y : Nat) (hc : c < 65536) (hx : x < 256) (hy : y < 256) : halves 8 (halves 8 (c ^^^ x) ^^^ y) = 0 ↔ (x = c % 256 ∧ y = c / 256) := by
  have hz : c ^^^ x < 65536 := Nat.xor_lt_two_pow (n := 16) hc (by omega)
  have hd := Nat.xor_div_two_pow (a := c) (b := x) (n := 8)
  have hm := Nat.xor_mod_two_pow (a := c) (b := x) (n := 8)
  simp only [show (2 : Nat) ^ 8 = 256 from rfl] at hd hm
  rw [show x / 256 = 0 by omega, Nat.xor_zero] at hd
  rw [show x % 256 = x by omega] at hm
  constructor
  · intro h
    have h1 : halves 8 (c ^^^ x) ^^^ y = 0 := halves_zero 8 _ (Nat.xor_lt_two_pow (n := 16) (halves_lt 8 _ hz) (by omega)) h
    have h2 : halves 8 (c ^^^ x) = y := xeq _ _ h1
    have h3 : c ^^^ x = 256 * y := halves_inj 8 _ _ hz (by omega) (by rw [h2, halves8])
    have h4 : c / 256 = y := by rw [← hd, h3]; omega
    have h5 : (c % 256) ^^^ x = 0 := by rw [← hm, h3]; omega
    exact ⟨(xeq _ _ h5).symm, h4.symm⟩
  · rintro ⟨rfl, rfl⟩
    have h1 : c ^^^ (c % 256) = 256 * (c / 256) := by
      rw [Nat.xor_self] at hm
      omega
    rw [h1, halves8, Nat.xor_self, halves_zero']

theorem ok_res (f : Nat → Nat) (n : Nat) (h : ∀ i, i < n + 2 → f i < 256) : okF f (n + 2) = decide (crcF f (n + 2) = 0) := by
  have hr := res_zero (crcF f n) (f n) (f (n + 1)) (crcF_lt f n fun i hi => h i (by omega)) (h n (by omega)) (h (n + 1) (by omega))
  have e : crcF f (n + 2) = halves 8 (halves 8 (crcF f n ^^^ f n) ^^^ f (n + 1)) := rfl
  rw [e]
  simp only [okF, show n + 2 - 2 = n by omega]
  rw [show decide (2 ≤ n + 2) = true by simp, Bool.true_and, ← Bool.decide_and]
  exact decide_eq_decide.2 hr.symm

/-- Two bytes that stand together, at k. -/
def two (k a b i : Nat) : Nat := if i = k then a else if i = k + 1 then b else 0

theorem two_before (k a b n : Nat) (h : n ≤ k) : crcI 0 (two k a b) n = 0 := by
  induction n with
  | zero => rfl
  | succ n ih =>
    simp only [crcI]
    rw [ih (by omega), show two k a b n = 0 by unfold two; rw [if_neg (by omega), if_neg (by omega)]]
    exact halves_zero' 8
theorem two_behind (k a b m : Nat) (ha : a < 256) (hb : b < 256) : crcI 0 (two k a b) (k + 2 + m) = 0 ↔ (a = 0 ∧ b = 0) := by
  have hlt : ∀ i, two k a b i < 256 := by intro i; unfold two; split <;> (try split) <;> omega
  induction m with
  | zero =>
    have e : crcI 0 (two k a b) (k + 2) = halves 8 (halves 8 (crcI 0 (two k a b) k ^^^ two k a b k) ^^^ two k a b (k + 1)) := rfl
    rw [Nat.add_zero, e, two_before k a b k (Nat.le_refl _)]
    rw [show two k a b k = a by simp [two], show two k a b (k + 1) = b by simp [two]]
    rw [res_zero 0 a b (by omega) ha hb]
  | succ m ih =>
    refine Iff.trans ?_ ih
    have e : crcI 0 (two k a b) (k + 2 + (m + 1)) = halves 8 (crcI 0 (two k a b) (k + 2 + m) ^^^ two k a b (k + 2 + m)) := rfl
    rw [e, show two k a b (k + 2 + m) = 0 by unfold two; rw [if_neg (by omega), if_neg (by omega)], Nat.xor_zero]
    constructor
    · intro h; exact halves_zero 8 _ (crcI_lt 0 _ _ (by omega) fun i _ => hlt i) h
    · intro h; rw [h]; exact halves_zero' 8

theorem two_ok (f : Nat → Nat) (n k a b : Nat) (h : ∀ i, i < n + 2 → f i < 256) (hok : okF f (n + 2) = true) (hk : k ≤ n) (ha : a < 256) (hb : b < 256) (g : Nat → Nat) (hg : ∀ i, i < n + 2 → g i = f i ^^^ two k a b i) :
    okF g (n + 2) = (decide (a = 0) && decide (b = 0)) := by
  have hgl : ∀ i, i < n + 2 → g i < 256 := by
    intro i hi
    rw [hg i hi]
    refine Nat.xor_lt_two_pow (n := 8) (h i hi) ?_
    unfold two; split <;> (try split) <;> omega
  rw [ok_res g n hgl, ← Bool.decide_and]
  rw [ok_res f n h] at hok
  simp only [decide_eq_true_eq] at hok
  rw [crcF_congr g (fun i => f i ^^^ two k a b i) (n + 2) hg, ← crcI_F, show (65535 : Nat) = 65535 ^^^ 0 from rfl, crcI_xor, crcI_F, hok, Nat.zero_xor]
  obtain ⟨m, hm⟩ : ∃ m, n + 2 = k + 2 + m := ⟨n - k, by omega⟩
  rw [hm]
  exact decide_eq_decide.2 (two_behind k a b m ha hb)

theorem bits_xor_u8_nat (a b : Nat) (ha : a < 256) (hb : b < 256) : bits .xor .u8 (a : Int) (b : Int) = ((a ^^^ b : Nat) : Int) := by
  have hx : a ^^^ b < 2 ^ 8 := Nat.xor_lt_two_pow (by omega) (by omega)
  have h1 : (BitVec.ofInt 8 (a : Int)).toNat = a := by
    rw [BitVec.ofInt_natCast, BitVec.toNat_ofNat]; exact Nat.mod_eq_of_lt (by omega)
  have h2 : (BitVec.ofInt 8 (b : Int)).toNat = b := by
    rw [BitVec.ofInt_natCast, BitVec.toNat_ofNat]; exact Nat.mod_eq_of_lt (by omega)
  show IntKind.u8.wrap ((BitVec.ofInt 8 (a : Int) ^^^ BitVec.ofInt 8 (b : Int)).toNat : Int) = _
  rw [BitVec.toNat_xor, h1, h2]
  simp [IntKind.wrap, IntKind.bits, IntKind.signed]
  omega
end Go.Proofs.Ytdlcfnpnfdlahaa
