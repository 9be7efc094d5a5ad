/- Arguments of bytes that the reach bounds. -/
import Derived.Test.YtdlcfnpnfdlahaaBytes
import Derived.SizedLaws
import Derived.HandedShaped
namespace Go.Proofs.Ytdlcfnpnfdlahaa
set_option linter.unusedVariables false
open Go.ChangeShapes Go.WideShapes Go.ChangeAt Go.RowKit

theorem bytes5 : Try.prog.bytesOf 5 = 1 := by kernel_rfl
theorem arg_bytes_z {H : Type} {enc : TypeId × Value → H} {w : World} {fuel : Nat} {a : Option Addr} {len cap : Nat} {x : DataW H × List MemPlace} (h : DataW.trod enc Try.prog w 0 (fun _ => true) true fuel 22 [.slice a len cap] = some x) :
    ∃ L : List Nat, ArgB w a len cap L ∧ ∀ (ts : List TypeId) (ds : List (DataW H)) (j : Nat), (DataW.weightsEach Try.prog ts ds).all (· ≤ reachBytes) = true → ts[j]? = some 22 → ds[j]? = some x.1 → cap ≤ 140737488355328 := by
  obtain ⟨L, hL⟩ := arg_bytes h
  refine ⟨L, hL, fun ts ds j hz ht hd => ?_⟩
  rcases open_ints (k := .u8) Try.underlying22 Try.underlying5 (by kernel_rfl) h with ⟨hcs, _⟩ | ⟨y, l, c, zs, hcs, _, hl, hm, hzz, hx, hcell, hwz⟩
  · simp at hcs
    omega
  · simp at hcs
    obtain ⟨rfl, rfl, rfl⟩ := hcs
    subst hx
    have hs := sized_slice hz ht hd Try.underlying22
    have hz' : zs.length = cap := by simpa using hzz
    rw [bytes5] at hs
    simp only [lits, List.length_map, List.length_take, List.length_drop] at hs
    have := reachBytes_lt
    omega
end Go.Proofs.Ytdlcfnpnfdlahaa
