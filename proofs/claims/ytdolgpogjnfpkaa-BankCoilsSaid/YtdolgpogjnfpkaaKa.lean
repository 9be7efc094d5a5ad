/- Places: where they lie, and what stands there. -/
import Derived.Test.YtdolgpogjnfpkaaWords
namespace Go.Proofs.Ytdolgpogjnfpkaa
set_option linter.unusedVariables false
set_option linter.unusedSimpArgs false
open Go.ChangeShapes Go.WideShapes Go.ChangeAt Go.RowKit

theorem blk_ltB {w : World} {r : Nat} {o : Obj} (h : w.heap[r]? = some o) : r < w.heap.size := by
  rcases Nat.lt_or_ge r w.heap.size with h' | h'
  · exact h'
  · simp [Array.getElem?_eq_none h'] at h
/-- Only these blocks have changed. -/
structure Fw (l : List Nat) (w w' : World) : Prop where
  os : w'.os = w.os
  tape : w'.tape = w.tape
  output : w'.output = w.output
  size : w.heap.size ≤ w'.heap.size
  block : ∀ k, k < w.heap.size → k ∉ l → w'.heap[k]? = w.heap[k]?
theorem Fw.of_below {l : List Nat} {w w' : World} (h : Below w.heap.size w w') : Fw l w w' := ⟨h.os, h.tape, h.output, h.size, fun k hk _ => h.block k hk⟩
theorem Fw.refl (l : List Nat) (w : World) : Fw l w w := Fw.of_below (Below.refl _ _)
theorem Fw.below {l : List Nat} {B : Nat} {w w' : World} (h : Fw l w w') (hB : ∀ x ∈ l, B ≤ x) (hs : B ≤ w.heap.size) : Below B w w' :=
  ⟨h.os, h.tape, h.output, h.size, fun k hk => h.block k (by omega) (fun q => by have := hB k q; omega)⟩
theorem Fw.trans {l : List Nat} {a b c : World} (h : Fw l a b) (h' : Fw l b c) : Fw l a c :=
  ⟨h'.os.trans h.os, h'.tape.trans h.tape, h'.output.trans h.output, Nat.le_trans h.size h'.size, fun k hk h1 => (h'.block k (Nat.lt_of_lt_of_le hk h.size) h1).trans (h.block k hk h1)⟩
theorem Fw.setRow (w : World) (g : Nat) (cs : Array Value) : Fw [g] w (w.setRow g cs) :=
  ⟨rfl, rfl, rfl, by simp, fun k _ hk => setRow_other w g k _ (by simpa using hk)⟩
theorem Fw.set (w : World) (g k : Nat) (v : Value) : Fw [g] w (w.setCell ⟨g, k, none⟩ v) :=
  ⟨rfl, rfl, rfl, by simp, fun q _ hq => Below.heap_setCell _ _ _ _ (by simpa using hq)⟩
theorem Fw.mono {l l' : List Nat} {w w' : World} (h : Fw l w w') (hl : ∀ x ∈ l, x ∈ l') : Fw l' w w' := ⟨h.os, h.tape, h.output, h.size, fun k hk h1 => h.block k hk (fun q => h1 (hl k q))⟩

/-- A row of words. -/
def slB (s : Nat → Nat) (R : Nat → List Nat) (k : Nat) : Value := .slice (some ⟨s k, 0, none⟩) (R k).length (R k).length
/-- Places. -/
structure Bn (B : Nat) (w : World) (p : Nat) (s : Nat → Nat) (R : Nat → List Nat) : Prop where
  hp : B ≤ p
  blk : w.heap[p]? = some (.cells #[slB s R 0, slB s R 1, slB s R 2, slB s R 3] 64 (0, 0))
  hs : ∀ k, k < 4 → B ≤ s k ∧ s k ≠ p
  ne : ∀ i j, i < 4 → j < 4 → i ≠ j → s i ≠ s j
  row : ∀ k, k < 4 → w.heap[s k]? = some (.cells (wv (R k)).toArray 34 (0, 0))
  len : ∀ k, k < 4 → (R k).length ≤ 256
  wd : ∀ k, k < 4 → ∀ v ∈ R k, v < 65536
/-- The blocks of its rows. -/
def bl (s : Nat → Nat) : List Nat := [s 0, s 1, s 2, s 3]
theorem bl_mem {s : Nat → Nat} {k : Nat} (hk : k < 4) : s k ∈ bl s := by
  have : k = 0 ∨ k = 1 ∨ k = 2 ∨ k = 3 := by omega
  rcases this with rfl | rfl | rfl | rfl <;> simp [bl]
theorem Bn.below {B : Nat} {w w' : World} {p : Nat} {s : Nat → Nat} {R : Nat → List Nat} (h : Bn B w p s R) (b : Below w.heap.size w w') : Bn B w' p s R :=
  ⟨h.hp, (b.block p (blk_ltB h.blk)).trans h.blk, h.hs, h.ne, fun k hk => (b.block _ (blk_ltB (h.row k hk))).trans (h.row k hk), h.len, h.wd⟩
theorem Bn.step {B : Nat} {w w' : World} {p : Nat} {s : Nat → Nat} {R : Nat → List Nat} (h : Bn B w p s R) (f : Fw (bl s) w w') : Below B w w' := by
  refine f.below (fun x hx => ?_) (by have := blk_ltB h.blk; have := h.hp; omega)
  simp only [bl, List.mem_cons, List.not_mem_nil, or_false] at hx
  rcases hx with rfl | rfl | rfl | rfl
  · exact (h.hs 0 (by omega)).1
  · exact (h.hs 1 (by omega)).1
  · exact (h.hs 2 (by omega)).1
  · exact (h.hs 3 (by omega)).1
/-- A row anew. -/
def upR (R : Nat → List Nat) (k : Nat) (L : List Nat) : Nat → List Nat := fun j => if j = k then L else R j
theorem slB_up {s : Nat → Nat} {R : Nat → List Nat} {k : Nat} {L : List Nat} (hl : L.length = (R k).length) (j : Nat) : slB s (upR R k L) j = slB s R j := by
  unfold slB upR
  by_cases h : j = k
  · subst h; rw [if_pos rfl, hl]
  · rw [if_neg h]
theorem Bn.set {B : Nat} {w w' : World} {p : Nat} {s : Nat → Nat} {R : Nat → List Nat} (h : Bn B w p s R) {k : Nat} (hk : k < 4) {L : List Nat} (hl : L.length = (R k).length) (hw : ∀ v ∈ L, v < 65536)
    (f : Fw [s k] w w') (hr : w'.heap[s k]? = some (.cells (wv L).toArray 34 (0, 0))) : Bn B w' p s (upR R k L) := by
  refine ⟨h.hp, ?_, h.hs, h.ne, fun j hj => ?_, fun j hj => ?_, fun j hj => ?_⟩
  · rw [slB_up hl, slB_up hl, slB_up hl, slB_up hl]
    exact (f.block p (blk_ltB h.blk) (by simpa using (h.hs k hk).2.symm)).trans h.blk
  · unfold upR
    by_cases e : j = k
    · subst e; rw [if_pos rfl]; exact hr
    · rw [if_neg e]; exact (f.block _ (blk_ltB (h.row j hj)) (by simpa using h.ne j k hj hk e)).trans (h.row j hj)
  · unfold upR
    by_cases e : j = k
    · subst e; rw [if_pos rfl, hl]; exact h.len j hj
    · rw [if_neg e]; exact h.len j hj
  · unfold upR
    by_cases e : j = k
    · subst e; rw [if_pos rfl]; exact hw
    · rw [if_neg e]; exact h.wd j hj
theorem Bn.cells {B : Nat} {w : World} {p : Nat} {s : Nat → Nat} {R : Nat → List Nat} (h : Bn B w p s R) :
    w.cell? ⟨p, 0, none⟩ = some (slB s R 0) ∧ w.cell? ⟨p, 1, none⟩ = some (slB s R 1) ∧ w.cell? ⟨p, 2, none⟩ = some (slB s R 2) ∧ w.cell? ⟨p, 3, none⟩ = some (slB s R 3) := by
  simp [World.cell?, h.blk]
theorem Bn.cell {B : Nat} {w : World} {p : Nat} {s : Nat → Nat} {R : Nat → List Nat} (h : Bn B w p s R) {k : Nat} (hk : k < 4) : w.cell? ⟨p, k, none⟩ = some (slB s R k) := by
  have : k = 0 ∨ k = 1 ∨ k = 2 ∨ k = 3 := by omega
  obtain ⟨c0, c1, c2, c3⟩ := h.cells
  rcases this with rfl | rfl | rfl | rfl
  · exact c0
  · exact c1
  · exact c2
  · exact c3
theorem Bn.at {B : Nat} {w : World} {p : Nat} {s : Nat → Nat} {R : Nat → List Nat} (h : Bn B w p s R) {k i : Nat} (hk : k < 4) (hi : i < (R k).length) : w.cell? ⟨s k, i, none⟩ = some (.int .u16 (((R k).getD i 0 : Nat) : Int)) ∧ w.frozen? ⟨s k, i, none⟩ = false := by
  constructor
  · simp only [World.cell?, h.row k hk]
    simpa using wv_get (R k) i hi
  · simp [World.frozen?, h.row k hk]

/-- How many places of a kind there are. -/
def szB (R : Nat → List Nat) (k : Int) : Nat := if 0 ≤ k ∧ k < 4 then (R k.toNat).length else 0
theorem size_any {B : Nat} {w : World} {p : Nat} {s : Nat → Nat} {R : Nat → List Nat} (h : Bn B w p s R) (k : Int) :
    Calls Try.prog 27 #[.pointer (some ⟨p, 0, none⟩), .int .i64 k] w fun e w' => e = .returned (.int .i64 (szB R k : Nat)) ∧ w' = w := by
  unfold szB
  by_cases h0 : k < 0
  · have d0 : decide (k < 0) = true := by simpa using h0
    rw [if_neg (by omega)]
    clear h
    go_enter Try.func27, Try.ntmps27
    go_wp2_with fail
    go_ret
    exact ⟨rfl, rfl⟩
  · have d0 : decide (k < 0) = false := by simpa using h0
    by_cases h4 : 4 ≤ k
    · have d4 : decide (4 ≤ k) = true := by simpa using h4
      rw [if_neg (by omega)]
      clear h
      go_enter Try.func27, Try.ntmps27
      go_wp2_with fail
      go_ret
      exact ⟨rfl, rfl⟩
    · have d4 : decide (4 ≤ k) = false := by simpa using h4
      rw [if_pos (by omega)]
      obtain ⟨k, rfl⟩ : ∃ j : Nat, k = (j : Int) := ⟨k.toNat, by omega⟩
      have hk : k < 4 := by omega
      have c := h.cell hk
      unfold slB at c
      rw [Int.toNat_natCast]
      generalize (R k).length = n at c ⊢
      have i0 : (k : Int) < 4 := by omega
      clear h
      go_enter Try.func27, Try.ntmps27
      go_wp2_with fail
      go_ret
      exact ⟨rfl, rfl⟩
end Go.Proofs.Ytdolgpogjnfpkaa
