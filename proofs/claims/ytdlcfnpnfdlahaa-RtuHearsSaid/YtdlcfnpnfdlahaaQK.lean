/- Sealed bytes, and texts of bytes. -/
import Derived.Test.YtdlcfnpnfdlahaaQO
import Derived.Laws.BytesArg
namespace Go.Proofs.Ytdlcfnpnfdlahaa
set_option linter.unusedVariables false
open Go.ChangeShapes Go.WideShapes Go.ChangeAt Go.RowKit

def sOf (L : List Nat) : ByteArray := strOfNums (L.map fun (x : Nat) => (x : Int))
theorem sOf_nil : sOf [] = ByteArray.empty := rfl

theorem conv_any (w : World) (a : Option Addr) (len cap : Nat) (f : Nat → Nat) (h : RowB w a len f) : (convert 22 9 (.slice a len cap)).run Try.prog w = .ok (.string (sOf (bl f len))) w := by
  rcases h.at' with z | ⟨b, off, ha, _, hc⟩
  · subst z
    cases a with
    | none => exact run_convert_bytes_nil (P := Try.prog) w 22 5 Try.underlying22 Try.underlying5 0 cap 9 Try.underlying9
    | some x =>
      rw [run_convert_bytes_string (P := Try.prog) w 22 9 5 (some x) 0 cap Try.underlying22 Try.underlying5 Try.underlying9]
      have hl : (loadCells x 0).run Try.prog w = .ok (([] : List Int).map (Value.int .u8)).toArray w := by
        have := run_loadCells_list (P := Try.prog) w x [] (fun j v hj => by simp at hj)
        simpa using this
      have := run_bytesToString (P := Try.prog) w x 0 cap [] hl
      rw [this]
      rfl
  · subst ha
    refine run_convert_bytes_arg (P := Try.prog) w 22 5 Try.underlying22 Try.underlying5 b off len cap ((bl f len).map fun (x : Nat) => (x : Int)) (by simp [bl]) (fun i hi => ?_) 9 Try.underlying9
    rw [hc i hi]
    simp [bl, List.getD, hi]

theorem crcF_congr (f g : Nat → Nat) (n : Nat) (h : ∀ i, i < n → f i = g i) : crcF f n = crcF g n := by
  induction n with
  | zero => rfl
  | succ n ih => simp only [crcF]; rw [ih (fun i hi => h i (by omega)), h n (by omega)]
theorem bl_congr (f g : Nat → Nat) (n : Nat) (h : ∀ i, i < n → f i = g i) : bl f n = bl g n := by
  simp only [bl]
  exact List.map_congr_left fun i hi => h i (by simpa using hi)
theorem bl_get (f : Nat → Nat) (n i : Nat) (h : i < n) : (bl f n).getD i 0 = f i := by simp [bl, List.getD, h]
theorem bl_bl (f : Nat → Nat) (n : Nat) : bl (fun i => (bl f n).getD i 0) n = bl f n := bl_congr _ _ _ fun i hi => bl_get f n i hi

abbrev sF (f : Nat → Nat) (n : Nat) (i : Nat) : Nat := (sealL f n).getD i 0
theorem sF_lo (f : Nat → Nat) (n i : Nat) (h : i < n) : sF f n i = f i := by
  simp [sF, sealL, bl, List.getD, List.getElem?_append_left, h]
theorem sF_n (f : Nat → Nat) (n : Nat) : sF f n n = crcF f n % 256 := by simp [sF, sealL, bl, List.getD]
theorem sF_n1 (f : Nat → Nat) (n : Nat) : sF f n (n + 1) = crcF f n / 256 := by simp [sF, sealL, bl, List.getD]
theorem sF_crc (f : Nat → Nat) (n : Nat) : crcF (sF f n) n = crcF f n := crcF_congr _ _ _ fun i hi => sF_lo f n i hi
theorem sF_ok (f : Nat → Nat) (n : Nat) : okF (sF f n) (n + 2) = true := by
  simp only [okF, show n + 2 - 2 = n by omega, sF_crc, sF_n, sF_n1]
  simp
theorem sF_bl (f : Nat → Nat) (n : Nat) : bl (sF f n) n = bl f n := bl_congr _ _ _ fun i hi => sF_lo f n i hi
theorem sF_lt (f : Nat → Nat) (n : Nat) (h : ∀ i, i < n → f i < 256) (i : Nat) (hi : i < n + 2) : sF f n i < 256 := by
  have hc := crcF_lt f n h
  by_cases h1 : i < n
  · rw [sF_lo f n i h1]; exact h i h1
  · by_cases h2 : i = n
    · subst h2; rw [sF_n]; omega
    · rw [show i = n + 1 by omega, sF_n1]; omega

/-- What is opened is sealed to the same. -/
theorem seal_open (f : Nat → Nat) (n : Nat) (h : okF f (n + 2) = true) : sealL (fun i => (bl f n).getD i 0) n = bl f (n + 2) := by
  simp only [okF, show n + 2 - 2 = n by omega, Bool.and_eq_true, decide_eq_true_eq] at h
  obtain ⟨_, h1, h2⟩ := h
  unfold sealL
  rw [bl_bl, crcF_congr (fun i => (bl f n).getD i 0) f n (fun i hi => bl_get f n i hi), ← h1, ← h2]
  simp [bl, List.range_succ]

end Go.Proofs.Ytdlcfnpnfdlahaa
