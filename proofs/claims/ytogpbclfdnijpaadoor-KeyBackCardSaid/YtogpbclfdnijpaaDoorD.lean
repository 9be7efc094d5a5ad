/- Whether it is a key; its sum. -/
import Derived.Test.YtogpbclfdnijpaaDoorC
import Derived.Lib.IndexAny
namespace Go.Proofs.YtogpbclfdnijpaaDoor
set_option linter.unusedVariables false
set_option linter.unusedSimpArgs false
open Go.ChangeShapes Go.WideShapes Go.ChangeAt Go.RowKit

def keyB (K : List Nat) : Bool := decide (0 < K.length) && decide (K.length ≤ 32) && K.all fun x => decide (x ≠ 0)
theorem ix_zero (s : ByteArray) : decide (Lib.indexByte s.data.toList 0 < 0) = (sl s).all fun x => decide (x ≠ 0) := by
  have h := Lib.contains_iff_indexByte s.data.toList 0
  have h2 : decide (Lib.indexByte s.data.toList 0 < 0) = !decide (0 ≤ Lib.indexByte s.data.toList 0) := by
    by_cases q : 0 ≤ Lib.indexByte s.data.toList 0
    · simp [q]
    · simp [q]; omega
  rw [h2, ← h, Bool.eq_iff_iff]
  simp only [sl, List.all_map, List.all_eq_true, Bool.not_eq_true', Function.comp, decide_eq_true_eq]
  constructor
  · intro e x hx hz
    have : x = 0 := UInt8.toNat_inj.1 (by simpa using hz)
    subst this
    rw [← Bool.not_eq_true] at e
    exact e (List.contains_iff_mem.2 hx)
  · intro e
    rw [← Bool.not_eq_true]
    intro hc
    exact e 0 (List.contains_iff_mem.1 hc) rfl
theorem isKey_any (s : ByteArray) (w : World) (hs : s.size ≤ maxLen) : Calls Tryd.prog 13 #[.string s] w fun e w' => e = .returned (.bool (keyB (sl s))) ∧ w' = w := by
  unfold maxLen at hs
  have hk : keyB (sl s) = (decide (0 < s.size) && decide (s.size ≤ 32) && decide (Lib.indexByte s.data.toList 0 < 0)) := by
    rw [ix_zero]; unfold keyB; rw [sl_len]
  rw [hk]
  have IX := Lib.hid (Tryd.strings_IndexByte s 0 w)
  clear hk
  by_cases h1 : 0 < s.size
  · have t1 : decide ((0 : Int) < (s.size : Int)) = true := by simp; omega
    have t1' : decide (0 < s.size) = true := by simpa using h1
    by_cases h2 : s.size ≤ 32
    · have t2 : decide ((s.size : Int) ≤ 32) = true := by simp; omega
      have t2' : decide (s.size ≤ 32) = true := by simpa using h2
      rw [t1', t2']
      clear t1' t2'
      obtain ⟨i, hi⟩ : ∃ i, i = Lib.indexByte s.data.toList 0 := ⟨_, rfl⟩
      have IX2 : Hid (Calls Tryd.prog 18 #[.string s, .int .u8 0] w fun e w' => e = .returned (.int .i64 i) ∧ w' = w) := Lib.hid (by rw [hi]; exact IX.out)
      rw [← hi]
      clear hi IX
      go_enter Tryd.func13, Tryd.ntmps13
      go_wp2_with fail
      refine IX2.out.mono ?_
      rintro e w1 ⟨rfl, rfl⟩
      go_wp2_with fail
      go_ret
      exact ⟨rfl, rfl⟩
    · have t2 : decide ((s.size : Int) ≤ 32) = false := by simp; omega
      have t2' : decide (s.size ≤ 32) = false := by simpa using h2
      rw [t1', t2']
      clear t1' t2'
      go_enter Tryd.func13, Tryd.ntmps13
      go_wp2_with fail
      go_ret
      exact ⟨rfl, rfl⟩
  · have t1 : decide ((0 : Int) < (s.size : Int)) = false := by rw [decide_eq_false_iff_not]; omega
    have t1' : decide (0 < s.size) = false := by simpa using h1
    rw [t1']
    clear t1'
    go_enter Tryd.func13, Tryd.ntmps13
    go_wp2_with fail
    go_ret
    exact ⟨rfl, rfl⟩
theorem strN_size (L : List Nat) : (strN L).size = L.length := by unfold strN; rw [strOfNums_size]; simp
def StrP (w : World) (L : List Nat) (e : Ending) (w' : World) : Prop := e = .returned (.string (strN L)) ∧ Below w.heap.size w w'
set_option maxRecDepth 100000 in
theorem fmt21 (h : Nat) (w : World) (hh : h < modN) (hT : TabK w) : Calls Tryd.prog 21 #[.int .u64 (h : Int), .int .i64 16] w (StrP w (hexL h)) := by
  have B := Lib.hid (bits_any h w hh hT)
  clear hh hT
  go_enter Tryd.func21, Tryd.ntmps21
  go_wp2_with fail
  refine B.out.mono ?_
  rintro e w1 ⟨rfl, z1⟩
  have Z := Lib.hid z1
  clear z1
  go_wp2_with fail
  go_ret
  exact ⟨rfl, Z.out⟩
set_option maxRecDepth 100000 in
theorem fmt15 (h : Nat) (w : World) (hh : h < modN) (hT : TabK w) : Calls Tryd.prog 15 #[.int .u64 (h : Int), .int .i64 16] w (StrP w (hexL h)) := by
  have B := Lib.hid (fmt21 h w hh hT)
  clear hh hT
  go_enter Tryd.func15, Tryd.ntmps15
  go_wp2_with fail
  refine B.out.mono ?_
  rintro e w1 ⟨rfl, z1⟩
  have Z := Lib.hid z1
  clear z1
  go_wp2_with fail
  go_ret
  exact ⟨rfl, Z.out⟩
end Go.Proofs.YtogpbclfdnijpaaDoor
