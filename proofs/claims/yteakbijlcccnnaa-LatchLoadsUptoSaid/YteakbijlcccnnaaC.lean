/- All. -/
import Derived.Test.YteakbijlcccnnaaB
namespace Go.Proofs.Yteakbijlcccnnaa
set_option linter.unusedVariables false
open Go.ChangeShapes Go.WideShapes Go.ChangeAt Go.RowKit

def zc (n : Nat) : Array Value := madeCells #[.bool false, .int .i64 0, .bool false] (n * 3)
theorem make_eq (n : Nat) (hn : n ≤ 2000000) (w : World) : (Instr.makeSlice 30 (.int .i64 (n : Int)) (.int .i64 (n : Int))).run Try.prog w = .ok (.slice (some ⟨w.heap.size, 0, none⟩) n n) (w.alloc (.cells (zc n) 37 (0, 0))) := by
  obtain ⟨ti, hti, hz0, hz1, hz2⟩ := info_parts info37
  have hr := run_make (P := Try.prog) w 30 37 ti _ Try.underlying30 hti hz0 .i64 .i64 (n : Int) (n : Int) (by omega) (Int.le_refl _) (by rw [hz2]; omega) (by omega)
  rw [hz1] at hr
  have e : (n : Int).toNat = n := by simp
  rw [e] at hr
  exact hr
theorem zc_at (n i : Nat) (hi : i < n) : (zc n)[i * 3]? = some (.bool false) ∧ (zc n)[i * 3 + 1]? = some (.int .i64 0) ∧ (zc n)[i * 3 + 2]? = some (.bool false) := by
  have h0 : i * 3 < n * 3 := by omega
  have h1 : i * 3 + 1 < n * 3 := by omega
  have h2 : i * 3 + 2 < n * 3 := by omega
  have m0 : i * 3 % 3 = 0 := by omega
  have m1 : (i * 3 + 1) % 3 = 1 := by omega
  have m2 : (i * 3 + 2) % 3 = 2 := by omega
  refine ⟨?_, ?_, ?_⟩ <;> simp [zc, madeCells, h0, h1, h2, m0, m1, m2]
theorem zc_size (n : Nat) : (zc n).size = n * 3 := by simp [zc, madeCells]

/-- The first k of S in a block of n. -/
def Lk (w : World) (g n k : Nat) (S : List La) : Prop := ∃ arr : Array Value, w.heap[g]? = some (.cells arr 37 (0, 0)) ∧ arr.size = n * 3 ∧ ∀ i, i < k → arr[i * 3]? = some (.bool (sg S i).st) ∧ arr[i * 3 + 1]? = some (.int .i64 (sg S i).tm) ∧ arr[i * 3 + 2]? = some (.bool (sg S i).fi)
theorem Lk.lb {w : World} {g n : Nat} {S : List La} (h : Lk w g n n S) : Lb w g n S := by
  obtain ⟨arr, h1, h2, h3⟩ := h; exact ⟨arr, h1, h3⟩
/-- One latch stored whole. -/
def set3 (w : World) (g o : Nat) (x : La) : World := ((w.setCell ⟨g, o, none⟩ (.bool x.st)).setCell ⟨g, o + 1, none⟩ (.int .i64 x.tm)).setCell ⟨g, o + 2, none⟩ (.bool x.fi)
theorem set3_fs (w : World) (g o : Nat) (x : La) : Fs [g] w (set3 w g o x) := ((Fs.set w g o _).trans (Fs.set _ g _ _)).trans (Fs.set _ g _ _)
theorem set3_block {w : World} {g o : Nat} {x : La} {arr : Array Value} {t : TypeId} (h : w.heap[g]? = some (.cells arr t (0, 0))) : (set3 w g o x).heap[g]? = some (.cells (((arr.setIfInBounds o (.bool x.st)).setIfInBounds (o + 1) (.int .i64 x.tm)).setIfInBounds (o + 2) (.bool x.fi)) t (0, 0)) :=
  set_block (set_block (set_block h _ _) _ _) _ _
theorem set3_at {arr : Array Value} {o j : Nat} {a b c : Value} (ho : o + 2 < arr.size) : (((arr.setIfInBounds o a).setIfInBounds (o + 1) b).setIfInBounds (o + 2) c)[j]? = if j = o then some a else if j = o + 1 then some b else if j = o + 2 then some c else arr[j]? := by
  simp only [Array.getElem?_setIfInBounds, Array.size_setIfInBounds]
  by_cases e0 : j = o
  · subst e0; rw [if_neg (by omega), if_neg (by omega), if_pos rfl, if_pos (by omega), if_pos rfl]
  · by_cases e1 : j = o + 1
    · subst e1; rw [if_neg (by omega), if_pos rfl, if_pos (by omega), if_neg (by omega), if_pos rfl]
    · by_cases e2 : j = o + 2
      · subst e2; rw [if_pos rfl, if_pos (by omega), if_neg (by omega), if_neg (by omega), if_pos rfl]
      · rw [if_neg (by omega), if_neg (by omega), if_neg (by omega), if_neg e0, if_neg e1, if_neg e2]
theorem Lk.step {w : World} {g n k : Nat} {S : List La} (h : Lk w g n k S) (hk : k < n) : Lk (set3 w g (k * 3) (sg S k)) g n (k + 1) S := by
  obtain ⟨arr, h1, h2, h3⟩ := h
  refine ⟨_, set3_block h1, by simp [h2], fun i hi => ?_⟩
  have hb : k * 3 + 2 < arr.size := by omega
  rw [set3_at hb, set3_at hb, set3_at hb]
  by_cases e : i = k
  · subst e
    rw [if_pos rfl, if_neg (by omega), if_pos rfl, if_neg (by omega), if_neg (by omega), if_pos rfl]
    exact ⟨rfl, rfl, rfl⟩
  · rw [if_neg (by omega), if_neg (by omega), if_neg (by omega), if_neg (by omega), if_neg (by omega), if_neg (by omega), if_neg (by omega), if_neg (by omega), if_neg (by omega)]
    exact h3 i (by omega)
theorem Lk.below {w w' : World} {g n k : Nat} {S : List La} (h : Lk w g n k S) (hb : Below w.heap.size w w') : Lk w' g n k S := by
  obtain ⟨arr, h1, h2⟩ := h; exact ⟨arr, (hb.block g (blk_lt h1)).trans h1, h2⟩
theorem Lk.cells {w : World} {g n k i : Nat} {S : List La} (h : Lk w g n k S) (hi : i < n) : ∃ a b c, w.cell? ⟨g, i * 3, none⟩ = some a ∧ w.cell? ⟨g, i * 3 + 1, none⟩ = some b ∧ w.cell? ⟨g, i * 3 + 2, none⟩ = some c ∧ w.frozen? ⟨g, i * 3, none⟩ = false ∧ w.frozen? ⟨g, i * 3 + 1, none⟩ = false ∧ w.frozen? ⟨g, i * 3 + 2, none⟩ = false := by
  obtain ⟨arr, h1, h2, _⟩ := h
  have g0 : i * 3 < arr.size := by omega
  have g1 : i * 3 + 1 < arr.size := by omega
  have g2 : i * 3 + 2 < arr.size := by omega
  refine ⟨arr[i * 3], arr[i * 3 + 1], arr[i * 3 + 2], ?_, ?_, ?_, ?_, ?_, ?_⟩ <;> simp [World.cell?, World.frozen?, h1, g0, g1, g2]

def AllP (w : World) (n : Nat) (S : List La) (e : Ending) (w' : World) : Prop := ∃ g, e = .returned (.slice (some ⟨g, 0, none⟩) n n) ∧ Lb w' g n S ∧ w.heap.size ≤ g ∧ Below w.heap.size w w'
set_option maxRecDepth 100000 in
set_option maxHeartbeats 2000000 in
theorem all_any {B t m mb cn n : Nat} {w : World} {G : List Int} {S : List La} (h : Lt B w t m mb cn n G S) (hn : n ≤ 2000000) :
    Calls Try.prog 19 #[.pointer (some ⟨t, 0, none⟩)] w (AllP w n S) := by
  obtain ⟨ma, c, c0, c1, f0, f1, e, h1, h2, h3⟩ := h.cells
  have hmk := make_eq n hn
  have H := Lib.hid h
  have lt := h.lt.1
  have h0 : Lk (w.alloc (.cells (zc n) 37 (0, 0))) w.heap.size n 0 S := ⟨_, heap_alloc_new w _, zc_size n, fun i hi => by omega⟩
  have H0 := Lib.hid h0
  clear h e h0
  go_enter Try.func19, Try.ntmps19
  go_wp2_with fail
  go_loopw [13] (fun i wr => ∃ k : Nat, k ≤ n ∧ i = .int .i64 k ∧ Lk wr w.heap.size n k S ∧ Below w.heap.size w wr) (fun i _ => n - (intOf i).toNat)
  case atStart => exact ⟨0, Nat.zero_le _, rfl, H0.out, alloc_b _ _⟩
  case round =>
    obtain ⟨wo, rfl⟩ : ∃ wo : World, wo = wr := ⟨_, rfl⟩
    obtain ⟨k, hk, rfl, hL, hb⟩ := hrel
    by_cases hkn : k < n
    · have HO := H.out.below hb
      have HL := Lib.hid hL
      have HB := Lib.hid hb
      have hat : atS S (k : Int) = sg S k := atS_nat S k
      have HA := Lib.hid (at_any HO (k : Int))
      have HAT := Lib.hid hat
      clear hL hb HO hat
      go_wp2_with fail
      refine HA.out.mono ?_
      rintro e w1 ⟨rfl, b1⟩
      rw [HAT.out]
      unfold lv
      have L1 := HL.out.below b1
      obtain ⟨u0, u1, u2, x0, x1, x2, y0, y1, y2⟩ := L1.cells hkn
      have L2 := Lib.hid (L1.step hkn)
      have B1 := Lib.hid (HB.out.trans (b1.mono HB.out.size))
      have s1 := b1.size
      have s0 := HB.out.size
      clear L1 b1
      go_wp2_with fail
      go_roundw
      case rel => exact ⟨k + 1, by omega, by go_num, L2.out, B1.out.trans ((set3_fs w1 w.heap.size (k * 3) (sg S k)).below (by simp) B1.out.size)⟩
      case measure => simp [intOf]; omega
    · have hk' : k = n := by omega
      subst hk'
      have HP : Hid (AllP w k S (.returned (.slice (some ⟨w.heap.size, 0, none⟩) k k)) wo) := Lib.hid ⟨_, rfl, hL.lb, Nat.le_refl _, hb⟩
      clear hL hb
      go_wp2_with fail
      go_ret
      exact HP.out
end Go.Proofs.Yteakbijlcccnnaa
