/- A map keyed by ints, that holds whatever values: what is looked up, put and struck. -/
import Derived.Test.YtdolgpogjnfpkaaBase
import Derived.Maps.OwnOps
import Derived.Maps.OwnSet
namespace Go.Proofs.Ytdolgpogjnfpkaa
set_option linter.unusedVariables false
open Go.ChangeShapes Go.WideShapes Go.ChangeAt Go.RowKit Go.ChangeMaps Go.MapKept

/-- Any value reads as itself. -/
def heldV (v : Value) : Option (DataW Value × List MemPlace) := some (.held v, [])

/-- Block b is a map of at most n entries, keyed by ints, that holds F. -/
structure IMap (P : Program) (k : TypeId) (w : World) (b n : Nat) (F : Int → Option Value) : Prop where
  ex : ∃ D : DataW Value, w.ownsMap P k heldV b n D ∧ Maps.IsMap D ∧ ∀ i, (∀ v, F i = some v → Maps.has D (.int .i64 i) = true ∧ ∀ z, D.atKey (.int .i64 i) z = .held v) ∧ (F i = none → Maps.has D (.int .i64 i) = false)

section
variable {P : Program} {k e t : TypeId} {w : World} {b n : Nat} {F : Int → Option Value}

theorem IMap.lt (h : IMap P k w b n F) : b < w.heap.size := by
  obtain ⟨D, hD, _⟩ := h.ex
  exact hD.lt
theorem IMap.below {w' : World} (h : IMap P k w b n F) (hb : Below w.heap.size w w') : IMap P k w' b n F := by
  have hlt := h.lt
  obtain ⟨D, ⟨es, clock, hbk, hF, hs, hd⟩, h2⟩ := h.ex
  exact ⟨D, ⟨es, clock, (hb.block b hlt).trans hbk, hF, hs, hd⟩, h2⟩
theorem IMap.same {w' : World} (h : IMap P k w b n F) (hb : w'.heap[b]? = w.heap[b]?) : IMap P k w' b n F := by
  obtain ⟨D, ⟨es, clock, hbk, hF, hs, hd⟩, h2⟩ := h.ex
  exact ⟨D, ⟨es, clock, hb.trans hbk, hF, hs, hd⟩, h2⟩
theorem IMap.mono {n' : Nat} (h : IMap P k w b n F) (hn : n ≤ n') : IMap P k w b n' F := by
  obtain ⟨D, hD, h2⟩ := h.ex
  exact ⟨D, hD.mono hn, h2⟩
theorem IMap.congr {F' : Int → Option Value} (h : IMap P k w b n F) (hf : ∀ i, F' i = F i) : IMap P k w b n F' := by
  have : F' = F := funext hf
  rw [this]; exact h

theorem imap_made (w : World) (P : Program) (k : TypeId) : IMap P k (w.alloc (.map #[] 0)) w.heap.size 0 (fun _ => none) :=
  ⟨.map [], World.ownsMap_made w P k heldV, Maps.isMap_empty, fun i => ⟨fun v h => (by cases h), fun _ => rfl⟩⟩

theorem key_i64 {i : Int} (hk : P.underlying k = some (.int .i64)) (hw : (Lit.int .i64 i).wf = true) : keyOf P k (.int .i64 i) = some (.int .i64 i) := Maps.keyOf_int_mk hk hw

theorem IMap.look (h : IMap P k w b n F) (ht : P.underlying t = some (.map k e)) (hk : P.underlying k = some (.int .i64)) {z : Value} (hz : (zeroValue e).run P w = .ok z w) {i : Int} (hw : (Lit.int .i64 i).wf = true) :
    (Instr.lookup t (.map (some b)) (.int .i64 i) false).run P w = .ok ((F i).getD z) w := by
  obtain ⟨D, hD, hm, hF⟩ := h.ex
  obtain ⟨v, ps, hrun, hv⟩ := hD.lookup (Maps.int_keyed hk) ht hz (zd := .held z) (zp := []) rfl (key_i64 hk hw)
  rw [hrun]
  have hv' : DataW.held v = D.atKey (.int .i64 i) (.held z) := congrArg Prod.fst (Option.some.inj hv)
  cases hFi : F i with
  | none =>
    rw [Maps.atKey_of_not_has ((hF i).2 hFi)] at hv'
    cases hv'; rfl
  | some u =>
    rw [((hF i).1 u hFi).2] at hv'
    cases hv'; rfl

theorem IMap.look_ok (h : IMap P k w b n F) (ht : P.underlying t = some (.map k e)) (hk : P.underlying k = some (.int .i64)) {z : Value} (hz : (zeroValue e).run P w = .ok z w) {i : Int} (hw : (Lit.int .i64 i).wf = true) :
    (Instr.lookup t (.map (some b)) (.int .i64 i) true).run P w = .ok (.tuple #[(F i).getD z, .bool (F i).isSome]) w := by
  obtain ⟨D, hD, hm, hF⟩ := h.ex
  obtain ⟨v, ps, hrun, hv⟩ := hD.look_ok (Maps.int_keyed hk) ht hz (zd := .held z) (zp := []) rfl (key_i64 hk hw)
  rw [hrun]
  have hv' : DataW.held v = D.atKey (.int .i64 i) (.held z) := congrArg Prod.fst (Option.some.inj hv)
  cases hFi : F i with
  | none =>
    rw [Maps.atKey_of_not_has ((hF i).2 hFi)] at hv'
    rw [(hF i).2 hFi]
    cases hv'; rfl
  | some u =>
    rw [((hF i).1 u hFi).2] at hv'
    rw [((hF i).1 u hFi).1]
    cases hv'; rfl

theorem isKey_i64 (i : Int) : WideAt.IsKeyLit (.int .i64 i) := by first | exact trivial | exact ⟨_, _, rfl⟩ | simp [WideAt.IsKeyLit]

theorem IMap.put (h : IMap P k w b n F) (ht : P.underlying t = some (.map k e)) (hk : P.underlying k = some (.int .i64)) (hn : n < maxLen) {i : Int} (hw : (Lit.int .i64 i).wf = true) (v : Value) :
    ∃ w', (Instr.mapUpdate t (.map (some b)) (.int .i64 i) v).run P w = .ok () w' ∧ IMap P k w' b (n + 1) (fun j => if j = i then some v else F j) ∧ w.mapTurned w' b := by
  obtain ⟨D, hD, hm, hF⟩ := h.ex
  obtain ⟨w', hrun, h1, h2⟩ := hD.store (Maps.int_keyed hk) ht hn (key_i64 hk hw) (d := .held v) (ps := []) rfl
  refine ⟨w', hrun, ⟨_, h1, hm.put _ _, fun j => ?_⟩, h2⟩
  by_cases hj : j = i
  · subst hj
    refine ⟨fun u hu => ?_, fun hu => by simp at hu⟩
    simp at hu
    subst hu
    exact ⟨Maps.has_put_same hm (isKey_i64 _) _, fun z => Maps.atKey_put_same hm (isKey_i64 _) _ z⟩
  · have hne : (Lit.int .i64 j) ≠ Lit.int .i64 i := by intro he; cases he; exact hj rfl
    simp only [if_neg hj]
    refine ⟨fun u hu => ?_, fun hu => ?_⟩
    · rw [Maps.has_put_other hne]
      exact ⟨((hF j).1 u hu).1, fun z => by rw [Maps.atKey_put_other hne]; exact ((hF j).1 u hu).2 z⟩
    · rw [Maps.has_put_other hne]; exact (hF j).2 hu

theorem IMap.drop (h : IMap P k w b n F) (ht : P.underlying t = some (.map k e)) (hk : P.underlying k = some (.int .i64)) {i : Int} (hw : (Lit.int .i64 i).wf = true) (ty : TypeId) :
    ∃ w', (Builtin.delete_ #[t, k] ty #[.map (some b), .int .i64 i]).run P w = .ok (.tuple #[]) w' ∧ IMap P k w' b n (fun j => if j = i then none else F j) ∧ w.mapTurned w' b := by
  obtain ⟨D, hD, hm, hF⟩ := h.ex
  obtain ⟨w', hrun, h1, h2⟩ := hD.drop (Maps.int_keyed hk) ht (key_i64 hk hw) ty
  refine ⟨w', hrun, ⟨_, h1, hm.del _, fun j => ?_⟩, h2⟩
  by_cases hj : j = i
  · subst hj
    refine ⟨fun u hu => by simp at hu, fun _ => Maps.has_del_same⟩
  · have hne : (Lit.int .i64 j) ≠ Lit.int .i64 i := by intro he; cases he; exact hj rfl
    simp only [if_neg hj]
    refine ⟨fun u hu => ?_, fun hu => ?_⟩
    · rw [Maps.has_del_other hne]
      exact ⟨((hF j).1 u hu).1, fun z => by rw [Maps.atKey_del_other hne]; exact ((hF j).1 u hu).2 z⟩
    · rw [Maps.has_del_other hne]; exact (hF j).2 hu

/-- Nothing but the map's block has turned. -/
theorem turned_below {w' : World} {B : Nat} (h : w.mapTurned w' b) (hB : B ≤ b) (hs : B ≤ w.heap.size) : Below B w w' := by
  have hg := h.grown
  exact ⟨hg.os, hg.tape, hg.output, hg.size, fun i hi => hg.block i (by omega) (by intro he; cases he; omega)⟩
end
end Go.Proofs.Ytdolgpogjnfpkaa
