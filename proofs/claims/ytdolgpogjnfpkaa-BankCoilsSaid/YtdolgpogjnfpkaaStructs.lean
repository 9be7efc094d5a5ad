/- A slice that came in whose elements are structs of several cells, opened at every index. -/
import Derived.Test.YtdolgpogjnfpkaaBase
import Derived.Deep.Slices
namespace Go.Proofs.Ytdolgpogjnfpkaa
set_option linter.unusedVariables false
open Go.ChangeShapes Go.WideShapes Go.ChangeAt Go.RowKit

/-- A slice that came in, its elements of sz cells each: it is of length 0, or its cells read V. -/
structure RowS (W : World) (a : Option Addr) (len sz : Nat) (V : Nat → List Value) : Prop where
  le : len ≤ maxLen
  at' : len = 0 ∨ ∃ b off, a = some ⟨b, off, none⟩ ∧ b < W.heap.size ∧ ∀ i, i < len → ∀ j, j < sz → W.cell? ⟨b, off + (i * sz + j), none⟩ = (V i)[j]?

theorem RowS.pos {W : World} {a : Option Addr} {len sz : Nat} {V : Nat → List Value} (h : RowS W a len sz V) (hp : 0 < len) :
    ∃ b off, a = some ⟨b, off, none⟩ ∧ b < W.heap.size ∧ ∀ i, i < len → ∀ j, j < sz → W.cell? ⟨b, off + i * sz + j, none⟩ = (V i)[j]? := by
  rcases h.at' with z | ⟨b, off, z1, z2, z3⟩
  · omega
  · exact ⟨b, off, z1, z2, fun i hi j hj => by rw [Nat.add_assoc]; exact z3 i hi j hj⟩

theorem addr_add_none (b off n : Nat) : (Addr.mk b off none).add n = ⟨b, off + n, none⟩ := by
  by_cases h : n = 0
  · subst h; simp [Addr.add]
  · simp [Addr.add, h]

theorem RowS.mk_of {W : World} {x : Addr} {len sz : Nat} {V : Nat → List Value} (hl : len ≤ maxLen) (hsz : 0 < sz) (hV : ∀ i, i < len → (V i).length = sz) (h : ∀ i, i < len → ∀ j, j < sz → W.cell? (x.add (i * sz + j)) = (V i)[j]?) : RowS W (some x) len sz V := by
  refine ⟨hl, ?_⟩
  rcases Nat.eq_zero_or_pos len with h0 | h0
  · exact .inl h0
  · right
    obtain ⟨b, off, spot⟩ := x
    have hl0 : 0 < (V 0).length := by rw [hV 0 h0]; exact hsz
    have hc : W.cell? ((Addr.mk b off spot).add (0 * sz + 0)) = some ((V 0)[0]) := by rw [h 0 h0 0 hsz]; simp [List.getElem?_eq_getElem hl0]
    have hspot : spot = none := by simpa [Addr.add] using World.cell?_spot hc
    subst hspot
    refine ⟨b, off, rfl, ?_, fun i hi j hj => ?_⟩
    · have hc0 : W.cell? ⟨b, off, none⟩ = some ((V 0)[0]) := by simpa [Addr.add] using hc
      rcases Nat.lt_or_ge b W.heap.size with h' | h'
      · exact h'
      · simp [World.cell?, Array.getElem?_eq_none h'] at hc0
    · have := h i hi j hj
      rwa [addr_add_none] at this

theorem RowS.congr {W : World} {a : Option Addr} {len sz : Nat} {V V' : Nat → List Value} (h : RowS W a len sz V) (e : ∀ i, i < len → V i = V' i) : RowS W a len sz V' := by
  refine ⟨h.le, ?_⟩
  rcases h.at' with z | ⟨b, off, ha, hb, hc⟩
  · exact .inl z
  · exact .inr ⟨b, off, ha, hb, fun i hi j hj => by rw [← e i hi]; exact hc i hi j hj⟩

theorem list2 {l : List Value} {x y : Value} (hl : l.length = 2) (h0 : l[0]? = some x) (h1 : l[1]? = some y) : l = [x, y] := by
  match l, hl with
  | [p, q], _ => simp at h0 h1; rw [h0, h1]
theorem list3 {l : List Value} {x y z : Value} (hl : l.length = 3) (h0 : l[0]? = some x) (h1 : l[1]? = some y) (h2 : l[2]? = some z) : l = [x, y, z] := by
  match l, hl with
  | [p, q, r], _ => simp at h0 h1 h2; rw [h0, h1, h2]
theorem list4 {l : List Value} {x y z u : Value} (hl : l.length = 4) (h0 : l[0]? = some x) (h1 : l[1]? = some y) (h2 : l[2]? = some z) (h3 : l[3]? = some u) : l = [x, y, z, u] := by
  match l, hl with
  | [p, q, r, s], _ => simp at h0 h1 h2 h3; rw [h0, h1, h2, h3]

section
variable {H : Type} {enc : TypeId × Value → H} {P : Program} {w : World}

theorem row_structs {t e : TypeId} {fs : Array Field} {sz : Nat} {fuel : Nat} {a : Option Addr} {len cap : Nat} {x : DataW H × List MemPlace} (ht : P.underlying t = some (.slice e)) (he : P.underlying e = some (.struct fs)) (hc : P.cellsOf e = sz) (hsz : 0 < sz)
    (h : DataW.trod enc P w 0 (fun _ => true) true fuel t [.slice a len cap] = some x) :
    ∃ V : Nat → List Value, RowS w a len sz V ∧ ∀ i, i < len → (V i).length = sz ∧ ∃ n, ∀ (m : Nat) (f : Field), fs[m]? = some f → ∃ y, DataW.trod enc P w 0 (fun _ => true) true n f.type (((V i).drop f.offset).take (P.cellsOf f.type)) = some y := by
  rcases Go.Deep.open_slice ht h with ⟨hcs, _⟩ | ⟨y, l, c, m, n, D, Pl, hcs, _, hl, hm, hmm, hx, hcell⟩
  · simp at hcs
    obtain ⟨rfl, rfl, rfl⟩ := hcs
    exact ⟨fun _ => [], ⟨Nat.zero_le _, .inl rfl⟩, fun i hi => absurd hi (Nat.not_lt_zero _)⟩
  · simp at hcs
    obtain ⟨rfl, rfl, rfl⟩ := hcs
    have hlm : len ≤ m := by simp at hmm; omega
    obtain ⟨V, hV⟩ := Go.Deep.choose_lt (α := List Value) (p := fun i cs' => w.cells? 0 (y.add (i * P.cellsOf e)) (P.cellsOf e) = some cs' ∧ DataW.trod enc P w 0 (fun _ => true) true n e cs' = some (D i, Pl i)) hcell
    have hlen : ∀ i, i < len → (V i).length = sz := fun i hi => by
      have := (World.cells?_some (hV i (by omega)).1).2.1
      rw [this, hc]
    refine ⟨V, RowS.mk_of (Nat.le_trans hl hm) hsz hlen (fun i hi j hj => ?_), fun i hi => ⟨hlen i hi, ?_⟩⟩
    · have := (World.cells?_some (hV i (by omega)).1).2.2 j (by rw [hc]; exact hj)
      rw [Go.Deep.add_add, hc] at this
      exact this
    · obtain ⟨xs, n', _, _, _, hxs, hf⟩ := DataW.trod_struct he (hV i (by omega)).2
      refine ⟨n', fun m' f hfm => ?_⟩
      have hlt : m' < fs.size := by
        rcases Nat.lt_or_ge m' fs.size with q | q
        · exact q
        · simp [Array.getElem?_eq_none q] at hfm
      exact ⟨xs[m'], by rw [hf m' f hfm, List.getElem?_eq_getElem (by omega)]⟩

theorem field_bool {n : Nat} {T : TypeId} {l : List Value} {o : Nat} (hT : P.underlying T = some .bool) (hc : P.cellsOf T = 1) (h : ∃ y, DataW.trod enc P w 0 (fun _ => true) true n T ((l.drop o).take (P.cellsOf T)) = some y) : ∃ b, l[o]? = some (.bool b) := by
  obtain ⟨y, hy⟩ := h
  obtain ⟨b, hb, _⟩ := DataW.trod_bool hT hy
  rw [hc] at hb
  have h0 : ((l.drop o).take 1)[0]? = some (.bool b) := by rw [hb]; rfl
  exact ⟨b, by simpa using h0⟩

theorem field_int {n : Nat} {T : TypeId} {k : IntKind} {l : List Value} {o : Nat} (hT : P.underlying T = some (.int k)) (hc : P.cellsOf T = 1) (h : ∃ y, DataW.trod enc P w 0 (fun _ => true) true n T ((l.drop o).take (P.cellsOf T)) = some y) : ∃ b, l[o]? = some (.int k b) ∧ (Lit.int k b).wf = true := by
  obtain ⟨y, hy⟩ := h
  obtain ⟨b, hb, _, hw⟩ := DataW.trod_int hT hy
  rw [hc] at hb
  have h0 : ((l.drop o).take 1)[0]? = some (.int k b) := by rw [hb]; rfl
  exact ⟨b, by simpa using h0, hw⟩

theorem field_string {n : Nat} {T : TypeId} {l : List Value} {o : Nat} (hT : P.underlying T = some .string) (hc : P.cellsOf T = 1) (h : ∃ y, DataW.trod enc P w 0 (fun _ => true) true n T ((l.drop o).take (P.cellsOf T)) = some y) : ∃ b : ByteArray, l[o]? = some (.string b) ∧ b.size ≤ maxLen := by
  obtain ⟨y, hy⟩ := h
  obtain ⟨b, hb, _, hw⟩ := DataW.trod_string hT hy
  rw [hc] at hb
  have h0 : ((l.drop o).take 1)[0]? = some (.string b) := by rw [hb]; rfl
  exact ⟨b, by simpa using h0, hw⟩
end

end Go.Proofs.Ytdolgpogjnfpkaa
