/- Equal, Reads, Writes, Right. -/
import Derived.Test.YtdolgpogjnfpkaaM
import Derived.Laws.Strings
namespace Go.Proofs.Ytdolgpogjnfpkaa
set_option linter.unusedVariables false
open Go.ChangeShapes Go.WideShapes Go.ChangeAt Go.RowKit

theorem str_beq {L M : List Nat} (hL : ∀ b ∈ L, b < 256) (hM : ∀ b ∈ M, b < 256) : ((strN L).toList == (strN M).toList) = decide (L = M) := by
  have := strN_inj hL hM
  by_cases e : L = M
  · subst e; simp
  · rw [decide_eq_false e]
    have hne : ¬ (strN L).toList = (strN M).toList := fun q => e (this.1 (Go.WideShapes.bytes_inj (by rw [← ByteArray.toList_eq, ← ByteArray.toList_eq]; exact q)))
    simpa using hne
theorem equal_any (a : Option Addr) (n c : Nat) (L : List Nat) (b : Option Addr) (m d : Nat) (M : List Nat) (w : World) (h : Bys w a n L) (h2 : Bys w b m M) :
    Calls Try.prog 54 #[.slice a n c, .slice b m d] w fun e w' => e = .returned (.bool (decide (L = M))) ∧ w' = w := by
  have k1 := conv_bys (cap := c) h
  have k2 := conv_bys (cap := d) h2
  have HS := Lib.hid (str_beq h.by' h2.by')
  clear h h2
  generalize strN L = S at *
  generalize strN M = T at *
  go_enter Try.func54, Try.ntmps54
  go_wp2_with fail
  go_ret
  refine ⟨?_, rfl⟩
  rw [← HS.out]
  rfl
theorem zero43 (w : World) : (zeroValue 81).run Try.prog w = .ok (fv fz) w := by kernel_rfl
def fo (n : Int) : Fo := (formOf n).getD fz
theorem getD_fv (n : Int) : ((formOf n).map fv).getD (fv fz) = fv (fo n) := by unfold fo; cases formOf n <;> rfl
theorem look_f {w : World} {m : Nat} (h : IMap Try.prog 3 w m 10 (fun i => (formOf i).map fv)) {n : Int} (hw : (Lit.int .i64 n).wf = true) :
    (Instr.lookup 83 (.map (some m)) (.int .i64 n) false).run Try.prog w = .ok (fv (fo n)) w := by
  rw [← getD_fv]; exact h.look (t := 83) (e := 81) Try.underlying83 Try.underlying3 (zero43 w) hw
theorem look_f_ok {w : World} {m : Nat} (h : IMap Try.prog 3 w m 10 (fun i => (formOf i).map fv)) {n : Int} (hw : (Lit.int .i64 n).wf = true) :
    (Instr.lookup 83 (.map (some m)) (.int .i64 n) true).run Try.prog w = .ok (.tuple #[fv (fo n), .bool (formOf n).isSome]) w := by
  have := h.look_ok (t := 83) (e := 81) Try.underlying83 Try.underlying3 (zero43 w) hw
  rw [getD_fv] at this
  rw [this]
  congr 3
  cases formOf n <;> rfl
set_option maxRecDepth 100000 in
set_option maxHeartbeats 4000000 in
theorem reads_any (n : Int) (w : World) (hw : (Lit.int .i64 n).wf = true) : Calls Try.prog 37 #[.int .i64 n] w fun e w' => e = .returned (.tuple #[.bool (fo n).rd, .bool ((fo n).rd && (fo n).bi)]) ∧ Below w.heap.size w w' := by
  have HW := Lib.hid hw
  obtain ⟨f, hf⟩ : ∃ f, f = fo n := ⟨_, rfl⟩
  rw [← hf]
  have HF := Lib.hid hf
  clear hf hw
  obtain ⟨rd, wt, bi, q, le, mo, co, tq⟩ := f
  go_enter Try.func37, Try.ntmps37
  go_wp2_with fail
  refine (forms_any _).mono ?_
  rintro e w1 ⟨m, rfl, hm, hb⟩
  have hk := look_f hm HW.out
  have hb2 := Lib.hid (fun o => hb.alloc hb.size o)
  clear hm hb
  rw [← HF.out] at hk
  simp only [fv] at hk
  clear HF
  cases rd <;> cases bi
  all_goals
    go_wp2_with fail
    go_region
    all_goals
      go_wp2_with fail
      go_ret2
      exact ⟨rfl, (hb2.out _).drew⟩
end Go.Proofs.Ytdolgpogjnfpkaa
