/- Small things for the laws of banks. -/
import Derived.Test.YtdolgpogjnfpkaaKe
namespace Go.Proofs.Ytdolgpogjnfpkaa
set_option linter.unusedVariables false
set_option linter.unusedSimpArgs false
open Go.ChangeShapes Go.WideShapes Go.ChangeAt Go.RowKit

theorem arg_new (w : World) (L : List Nat) (hl : L.length ≤ 1000) (hb : ∀ b ∈ L, b < 256) : ArgB (w.alloc (.cells (bv L).toArray 5 (0, 0))) (some ⟨w.heap.size, 0, none⟩) L.length L.length L :=
  ⟨bys_block L (by unfold maxLen; omega) hb (heap_alloc_new _ _), (fun e => by cases e), Nat.le_refl _, by unfold maxLen; omega⟩
theorem argw_new (w : World) (L : List Nat) (hl : L.length ≤ 1000) (hb : ∀ b ∈ L, b < 65536) : ArgW (w.alloc (.cells (wv L).toArray 34 (0, 0))) (some ⟨w.heap.size, 0, none⟩) L.length L.length L :=
  ⟨wds_block L (by unfold maxLen; omega) hb (heap_alloc_new _ _), (fun e => by cases e), Nat.le_refl _, by unfold maxLen; omega⟩
theorem Bn.one {B : Nat} {W : World} {p : Nat} {s : Nat → Nat} {R : Nat → List Nat} (h : Bn B W p s R) {y : Nat} (hp : p ≠ y) (hs : ∀ k, k < 4 → s k ≠ y) (i : Nat) (v : Value) : Bn B (W.setCell ⟨y, i, none⟩ v) p s R :=
  ⟨h.hp, (Below.heap_setCell _ _ _ _ hp).trans h.blk, h.hs, h.ne, fun k hk => (Below.heap_setCell _ _ _ _ (hs k hk)).trans (h.row k hk), h.len, h.wd⟩
theorem ArgW.fw {W W' : World} {a : Option Addr} {n c : Nat} {V : List Nat} {l : List Nat} (h : ArgW W a n c V) (f : Fw l W W') (hf : ∀ b off, a = some ⟨b, off, none⟩ → b ∉ l) : ArgW W' a n c V := by
  refine ⟨⟨h.row.ln, h.row.le, h.row.by', ?_⟩, h.nil, h.le, h.mx⟩
  rcases h.row.at' with z | ⟨b, off, e, hlt, hc⟩
  · exact .inl z
  · exact .inr ⟨b, off, e, Nat.lt_of_lt_of_le hlt f.size, fun i hi => (World.cell?_of_block (a := ⟨b, off + i, none⟩) (f.block b hlt (hf b off e))).trans (hc i hi)⟩
theorem ArgB.fw {W W' : World} {a : Option Addr} {n c : Nat} {V : List Nat} {l : List Nat} (h : ArgB W a n c V) (f : Fw l W W') (hf : ∀ b off, a = some ⟨b, off, none⟩ → b ∉ l) : ArgB W' a n c V := by
  refine ⟨⟨h.row.ln, h.row.le, h.row.by', ?_⟩, h.nil, h.le, h.mx⟩
  rcases h.row.at' with z | ⟨b, off, e, hlt, hc⟩
  · exact .inl z
  · exact .inr ⟨b, off, e, Nat.lt_of_lt_of_le hlt f.size, fun i hi => (World.cell?_of_block (a := ⟨b, off + i, none⟩) (f.block b hlt (hf b off e))).trans (hc i hi)⟩
theorem bl_ne {s : Nat → Nat} {y : Nat} (h : y ∉ bl s) : ∀ k, k < 4 → s k ≠ y := fun k hk e => h (e ▸ bl_mem hk)
/-- A row of words of the law's own. -/
def Wn (W : World) (g : Nat) (L : List Nat) : Prop := W.heap[g]? = some (.cells (wv L).toArray 34 (0, 0))
theorem Wn.cell {W : World} {g i : Nat} {L : List Nat} (h : Wn W g L) (hi : i < L.length) : W.cell? ⟨g, i, none⟩ = some (.int .u16 ((L.getD i 0 : Nat) : Int)) ∧ W.frozen? ⟨g, i, none⟩ = false := by
  unfold Wn at h
  constructor
  · simp only [World.cell?, h]; simpa using wv_get L i hi
  · simp [World.frozen?, h]
theorem Wn.set {W : World} {g : Nat} {L : List Nat} (h : Wn W g L) (i x : Nat) : Wn (W.setCell ⟨g, i, none⟩ (.int .u16 (x : Int))) g (L.set i x) := by
  unfold Wn at h ⊢
  rw [← wv_set]
  simp [World.setCell, Array.getElem?_modify, h]
theorem Wn.fw {W W' : World} {g : Nat} {L : List Nat} {l : List Nat} (h : Wn W g L) (f : Fw l W W') (hg : g ∉ l) : Wn W' g L := (f.block g (blk_ltB h) hg).trans h
theorem Wn.below {W W' : World} {g : Nat} {L : List Nat} (h : Wn W g L) (f : Below W.heap.size W W') : Wn W' g L := (f.block g (blk_ltB h)).trans h
end Go.Proofs.Ytdolgpogjnfpkaa
