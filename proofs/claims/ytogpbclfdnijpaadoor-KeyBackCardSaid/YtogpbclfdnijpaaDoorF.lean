/- Whether a key matches; its words. -/
import Derived.Test.YtogpbclfdnijpaaDoorE
import Derived.Test.YtogpbclfdnijpaaDoorWords
namespace Go.Proofs.YtogpbclfdnijpaaDoor
set_option linter.unusedVariables false
set_option linter.unusedSimpArgs false
open Go.ChangeShapes Go.WideShapes Go.ChangeAt Go.RowKit

def BoolB (w : World) (b : Bool) (e : Ending) (w' : World) : Prop := e = .returned (.bool b) ∧ Below w.heap.size w w'
theorem hexF_by (k n : Nat) : ∀ b ∈ hexF k n, b < 256 := by
  induction k generalizing n with
  | zero => intro b hb; simp [hexF] at hb
  | succ k ih =>
    intro b hb
    rw [hexF] at hb
    rcases List.mem_append.1 hb with q | q
    · exact ih _ b q
    · simp at q; rw [q]; exact hexd_by _ (by omega)
theorem sumS_by (K : List Nat) : ∀ b ∈ sumS K, b < 256 := by
  unfold sumS
  split
  · exact hexF_by _ _
  · intro b hb; simp at hb
theorem sl_strN {L : List Nat} (h : ∀ b ∈ L, b < 256) : sl (strN L) = L := by
  unfold sl strN strOfNums
  simp only [List.map_map]
  conv => rhs; rw [← List.map_id L]
  apply List.map_congr_left
  intro x hx
  have := h x hx
  simp
  omega
theorem sl_inj {a b : ByteArray} (h : sl a = sl b) : a = b := by
  unfold sl at h
  have := (List.map_inj_right (fun x y e => UInt8.toNat_inj.1 e)).1 h
  exact ByteArray.ext (Array.toList_inj.1 this)
theorem strN_sl (s : ByteArray) : strN (sl s) = s := sl_inj (sl_strN (sl_by s))
theorem beq_sl (x : ByteArray) {L : List Nat} (h : ∀ b ∈ L, b < 256) : (x.toList == (strN L).toList) = decide (sl x = L) := by
  rw [Bool.eq_iff_iff, beq_iff_eq, decide_eq_true_eq, Lib.toList_data, Lib.toList_data]
  constructor
  · intro e
    have : x = strN L := ByteArray.ext (Array.toList_inj.1 e)
    rw [this, sl_strN h]
  · intro e
    rw [← e, strN_sl]
def matchB (x K : List Nat) : Bool := keyB K && decide (x = sumS K)
set_option maxRecDepth 100000 in
theorem match_any (x s : ByteArray) (w : World) (hs : s.size ≤ maxLen) (hT : TabK w) : Calls Tryd.prog 10 #[.string x, .string s] w (BoolB w (matchB (sl x) (sl s))) := by
  have IK := Lib.hid (isKey_any s w hs)
  have SU := Lib.hid (sum_any s w hs hT)
  have HM : Hid (matchB (sl x) (sl s) = (keyB (sl s) && (x.toList == (strN (sumS (sl s))).toList))) := Lib.hid (by rw [beq_sl x (sumS_by _)]; rfl)
  rw [HM.out]
  clear HM
  generalize keyB (sl s) = kb at IK
  unfold StrP at SU
  generalize hst : strN (sumS (sl s)) = T at SU
  clear hs hT
  cases kb with
  | false =>
    go_enter Tryd.func10, Tryd.ntmps10
    go_wp2_with fail
    refine IK.out.mono ?_
    rintro e w1 ⟨rfl, e1⟩
    rw [e1]
    go_wp2_with fail
    go_ret
    exact ⟨rfl, Below.refl _ _⟩
  | true =>
    go_enter Tryd.func10, Tryd.ntmps10
    go_wp2_with fail
    refine IK.out.mono ?_
    rintro e w1 ⟨rfl, e1⟩
    rw [e1]
    go_wp2_with fail
    refine SU.out.mono ?_
    rintro e w2 ⟨rfl, z2⟩
    have Z := Lib.hid z2
    clear z2
    go_wp2_with fail
    go_ret
    exact ⟨rfl, Z.out⟩
end Go.Proofs.YtogpbclfdnijpaaDoor
