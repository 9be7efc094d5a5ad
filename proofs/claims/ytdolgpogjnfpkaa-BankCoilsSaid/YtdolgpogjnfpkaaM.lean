/- put of any kind. -/
import Derived.Test.YtdolgpogjnfpkaaI
namespace Go.Proofs.Ytdolgpogjnfpkaa
set_option linter.unusedVariables false
open Go.ChangeShapes Go.WideShapes Go.ChangeAt Go.RowKit

def putR (f : Fo) (r : Rq) : List Nat := putN f r.fc.toNat r.ad.toNat r.q.toNat r.to.toNat r.V
theorem isPl_iff (n : Int) : isPl n = true ↔ 0 ≤ n ∧ n < 65536 := by unfold isPl; simp
theorem put_of {k : Int} {f : Fo} (hk : formOf k = some f) (r : Rq) (w : World) (hr : r.ok w) (hh : has f r = true) (hf0 : 0 ≤ r.fc) (hf1 : r.fc < 256) :
    Calls Try.prog 55 #[fv f, rv r] w (PutFP w (putR f r)) := by
  obtain ⟨h1, h2, h3, h4, h5, h6, h7, h8, h9⟩ := (has_iff f r).1 hh
  rw [isPl_iff] at h1 h2
  have hsm := formOf_small hk
  have hln := hr.arg.row.ln
  have harg := hr.arg
  obtain ⟨fc, ad, q, vs, vn, vc, V, rto⟩ := r
  simp only at h1 h2 h3 h4 h5 h6 h7 h8 h9 hln harg hf0 hf1
  obtain ⟨fc, rfl⟩ : ∃ n : Nat, fc = (n : Int) := ⟨fc.toNat, by omega⟩
  obtain ⟨ad, rfl⟩ : ∃ n : Nat, ad = (n : Int) := ⟨ad.toNat, by omega⟩
  obtain ⟨q, rfl⟩ : ∃ n : Nat, q = (n : Int) := ⟨q.toNat, by omega⟩
  obtain ⟨rto, rfl⟩ : ∃ n : Nat, rto = (n : Int) := ⟨rto.toNat, by omega⟩
  have hq := hsm.q
  simp only [putR, Int.toNat_natCast]
  unfold formOf at hk
  repeat' split at hk
  all_goals first | (cases hk; done) | (injection hk with hk; subst hk; simp only at h3 h4 h6 h7 h8 h9)
  · exact put_s6 true true 125 1 121 fc ad q rto vs vn vc V w harg (by omega) (by omega) (by omega) (by omega) (by omega) (by omega) (by omega)
  · exact put_s3 false true 0 2 2 fc ad q rto vs vn vc V w harg (by omega) (by omega) (by omega) (by omega) rfl (by omega) trivial
  · exact put_s5 false true 123 1 123 fc ad q rto vs vn vc V w harg (by omega) (by omega) (by omega) (by omega) (by omega) (by omega) (by omega)
  · exact put_s4 false true 1968 1 1968 fc ad q rto vs vn vc V w harg (by omega) (by omega) (by omega) (by omega) (by omega) (by omega) (by omega)
  · exact put_s3 false true 0 1 1 fc ad q rto vs vn vc V w harg (by omega) (by omega) (by omega) (by omega) rfl (by omega) trivial
  · have hv0 : V.getD 0 0 ≤ 1 := by
      have h := h9 (by simp)
      unfold allB at h
      rw [List.all_eq_true] at h
      have hl : 0 < V.length := by omega
      have := h V[0] (List.getElem_mem hl)
      simpa [List.getD, List.getElem?_eq_getElem hl] using this
    exact put_s2 false true 0 1 1 fc ad q rto vs vn vc V w harg (by omega) (by omega) (by omega) (by omega) rfl (by omega) hv0 (by omega)
  · exact put_s1b true false 125 0 0 fc ad q rto vs vn vc V w harg (by omega) (by omega) (by omega) (by omega) (by omega) (by omega) trivial
  · exact put_s1b true false 125 0 0 fc ad q rto vs vn vc V w harg (by omega) (by omega) (by omega) (by omega) (by omega) (by omega) trivial
  · exact put_s1a true false 2000 0 0 fc ad q rto vs vn vc V w harg (by omega) (by omega) (by omega) (by omega) (by omega) (by omega) rfl
  · exact put_s1a true false 2000 0 0 fc ad q rto vs vn vc V w harg (by omega) (by omega) (by omega) (by omega) (by omega) (by omega) rfl
end Go.Proofs.Ytdolgpogjnfpkaa
