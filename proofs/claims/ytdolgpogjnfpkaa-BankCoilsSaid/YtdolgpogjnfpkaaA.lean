/- The forms. -/
import Derived.Test.YtdolgpogjnfpkaaP
import Derived.WalkSpells
import Derived.Lib.LazyBuf
namespace Go.Proofs.Ytdolgpogjnfpkaa
set_option linter.unusedVariables false
open Go.ChangeShapes Go.WideShapes Go.ChangeAt Go.RowKit

def FormsP (w : World) (e : Ending) (w' : World) : Prop := ∃ m, e = .returned (.map (some m)) ∧ IMap Try.prog 3 w' m 10 (fun i => (formOf i).map fv) ∧ Below w.heap.size w w'
theorem wfk {n : Int} (h1 : 0 ≤ n) (h2 : n ≤ 100000) : (Lit.int .i64 n).wf = true := by
  simp [Lit.wf, IntKind.min, IntKind.max, IntKind.signed, IntKind.bits]; omega
set_option maxRecDepth 100000 in
set_option maxHeartbeats 2000000 in
theorem forms_any (w : World) : Calls Try.prog 51 #[] w (FormsP w) := by
  have m0 := imap_made w Try.prog 3
  have b0 : Below w.heap.size w (w.alloc (.map #[] 0)) := (Below.refl _ _).alloc (Nat.le_refl _) _
  have key : ∀ (W : World) (n : Nat) (F : Int → Option Value) (k : Int) (v : Value), n < 100 → 0 ≤ k → k ≤ 100 → IMap Try.prog 3 W w.heap.size n F → Below w.heap.size w W → ∃ w', (Instr.mapUpdate 83 (.map (some w.heap.size)) (.int .i64 k) v).run Try.prog W = .ok () w' ∧ IMap Try.prog 3 w' w.heap.size (n + 1) (fun j => if j = k then some v else F j) ∧ Below w.heap.size w w' := by
    intro W n F k v hn h0 h1 hm hb
    obtain ⟨w', hr, hm', ht⟩ := hm.put (t := 83) (e := 81) Try.underlying83 Try.underlying3 (by unfold maxLen; omega) (wfk h0 (by omega)) v
    exact ⟨w', hr, hm', hb.trans (turned_below ht (Nat.le_refl _) hb.size)⟩
  obtain ⟨w1, r1, m1, b1⟩ := key _ 0 _ 1 (.agg #[.bool true, .bool false, .bool true, .int .i64 2000, .int .i64 0, .int .i64 0, .bool false, .bool false]) (by omega) (by omega) (by omega) m0 b0
  obtain ⟨w2, r2, m2, b2⟩ := key _ 1 _ 2 (.agg #[.bool true, .bool false, .bool true, .int .i64 2000, .int .i64 0, .int .i64 0, .bool false, .bool false]) (by omega) (by omega) (by omega) m1 b1
  obtain ⟨w3, r3, m3, b3⟩ := key _ 2 _ 3 (.agg #[.bool true, .bool false, .bool false, .int .i64 125, .int .i64 0, .int .i64 0, .bool false, .bool false]) (by omega) (by omega) (by omega) m2 b2
  obtain ⟨w4, r4, m4, b4⟩ := key _ 3 _ 4 (.agg #[.bool true, .bool false, .bool false, .int .i64 125, .int .i64 0, .int .i64 0, .bool false, .bool false]) (by omega) (by omega) (by omega) m3 b3
  obtain ⟨w5, r5, m5, b5⟩ := key _ 4 _ 5 (.agg #[.bool false, .bool true, .bool true, .int .i64 0, .int .i64 1, .int .i64 1, .bool false, .bool false]) (by omega) (by omega) (by omega) m4 b4
  obtain ⟨w6, r6, m6, b6⟩ := key _ 5 _ 6 (.agg #[.bool false, .bool true, .bool false, .int .i64 0, .int .i64 1, .int .i64 1, .bool false, .bool false]) (by omega) (by omega) (by omega) m5 b5
  obtain ⟨w7, r7, m7, b7⟩ := key _ 6 _ 15 (.agg #[.bool false, .bool true, .bool true, .int .i64 1968, .int .i64 1, .int .i64 1968, .bool true, .bool false]) (by omega) (by omega) (by omega) m6 b6
  obtain ⟨w8, r8, m8, b8⟩ := key _ 7 _ 16 (.agg #[.bool false, .bool true, .bool false, .int .i64 123, .int .i64 1, .int .i64 123, .bool true, .bool false]) (by omega) (by omega) (by omega) m7 b7
  obtain ⟨w9, r9, m9, b9⟩ := key _ 8 _ 22 (.agg #[.bool false, .bool true, .bool false, .int .i64 0, .int .i64 2, .int .i64 2, .bool false, .bool false]) (by omega) (by omega) (by omega) m8 b8
  obtain ⟨w10, r10, m10, b10⟩ := key _ 9 _ 23 (.agg #[.bool true, .bool true, .bool false, .int .i64 125, .int .i64 1, .int .i64 121, .bool true, .bool true]) (by omega) (by omega) (by omega) m9 b9
  have hP : FormsP w (.returned (.map (some w.heap.size))) w10 := ⟨_, rfl, m10.congr (fun i => by simp only [formOf, apply_ite (Option.map fv), Option.map_some, Option.map_none]; rfl), b10⟩
  have HP := Lib.hid hP
  clear key hP m0 b0 m1 b1 m2 b2 m3 b3 m4 b4 m5 b5 m6 b6 m7 b7 m8 b8 m9 b9 m10 b10
  have hmm := @run_makeMap Try.prog
  go_enter Try.func51, Try.ntmps51
  go_wp2_with fail
  go_ret
  exact HP.out
end Go.Proofs.Ytdolgpogjnfpkaa
