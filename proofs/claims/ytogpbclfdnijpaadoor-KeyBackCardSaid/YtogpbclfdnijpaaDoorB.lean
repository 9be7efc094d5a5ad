/- The rounds of a key's sum. -/
import Derived.Test.YtogpbclfdnijpaaDoorA
import Derived.Laws.EntriesVeiled
namespace Go.Proofs.YtogpbclfdnijpaaDoor
set_option linter.unusedVariables false
set_option linter.unusedSimpArgs false
open Go.ChangeShapes Go.WideShapes Go.ChangeAt Go.RowKit

theorem startN_lt : startN < modN := by unfold startN modN; omega
theorem startN_eq : ((startN : Nat) : Int) = 14695981039346656037 := rfl
def RoundsP (w : World) (s : ByteArray) (e : Ending) (w' : World) : Prop :=
  ∃ kb pb sb, e = .returned (.func (.func 20) #[] #[.pointer (some ⟨kb, 0, none⟩), .pointer (some ⟨pb, 0, none⟩), .pointer (some ⟨sb, 0, none⟩)]) ∧ KeyS w' s kb pb sb startN ∧ w.heap.size ≤ sb ∧ Below w.heap.size w w'
set_option maxRecDepth 100000 in
set_option maxHeartbeats 4000000 in
theorem rounds_any (s : ByteArray) (w : World) : Calls Tryd.prog 14 #[.string s] w (RoundsP w s) := by
  obtain ⟨P, hP⟩ : ∃ P, P = (RoundsP w s : Ending → World → Prop) := ⟨_, rfl⟩
  rw [← hP]
  obtain ⟨z, hz⟩ : ∃ z : Int, z = 14695981039346656037 := ⟨_, rfl⟩
  have FIN : Hid (∀ W kb pb sb, KeyS W s kb pb sb startN → w.heap.size ≤ sb → Below w.heap.size w W → P (.returned (.func (.func 20) #[] #[.pointer (some ⟨kb, 0, none⟩), .pointer (some ⟨pb, 0, none⟩), .pointer (some ⟨sb, 0, none⟩)])) W) := Lib.hid (fun W kb pb sb h1 h2 h3 => by rw [hP]; exact ⟨kb, pb, sb, rfl, h1, h2, h3⟩)
  have hmf : ∀ (fn : Fn) (first cap : Array Value) (w : World), (Instr.makeFunc fn first cap).run Tryd.prog w = .ok (.func fn first cap) w := fun _ _ _ _ => rfl
  clear hP hz
  go_enter Tryd.func14, Tryd.ntmps14
  go_wp2_with fail
  have k1 := (Below.refl w.heap.size w).alloc (Nat.le_refl _) (.cells #[.string s] 9 (0, 0))
  have k2 := k1.alloc k1.size (.cells #[.int .u64 14695981039346656037] 37 (0, 0))
  have k3 := k2.alloc k2.size (.cells #[.func (.func 19) #[] #[.pointer (some ⟨w.heap.size + 1, 0, none⟩)]] 41 (0, 0))
  refine FIN.out _ _ _ _ ⟨?_, ?_, ?_, by omega, by omega, startN_lt⟩ (by omega) k3
  · rw [Below.heap_alloc _ _ _ (by simp; omega), Below.heap_alloc _ _ _ (by simp)]
    exact heap_alloc_new w _
  · have := heap_alloc_new ((w.alloc (.cells #[.string s] 9 (0, 0))).alloc (.cells #[.int .u64 14695981039346656037] 37 (0, 0))) (.cells #[.func (.func 19) #[] #[.pointer (some ⟨w.heap.size + 1, 0, none⟩)]] 41 (0, 0))
    rwa [World.size_alloc, World.size_alloc] at this
  · rw [Below.heap_alloc _ _ _ (by simp), startN_eq]
    have := heap_alloc_new (w.alloc (.cells #[.string s] 9 (0, 0))) (.cells #[.int .u64 14695981039346656037] 37 (0, 0))
    rwa [World.size_alloc] at this
end Go.Proofs.YtogpbclfdnijpaaDoor
