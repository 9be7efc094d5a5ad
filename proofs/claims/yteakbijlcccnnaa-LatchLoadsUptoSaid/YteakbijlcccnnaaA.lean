/- Rows of latches in memory; what they answer. -/
import Derived.Test.YteakbijlcccnnaaP
import Derived.Test.YteakbijlcccnnaaIMap
import Derived.Maps.AppendAt
import Derived.Laws.AppendOwnNone
import Derived.WalkSmall
namespace Go.Proofs.Yteakbijlcccnnaa
set_option linter.unusedVariables false
open Go.ChangeShapes Go.WideShapes Go.ChangeAt Go.RowKit

theorem wf_i64 {n : Int} (h1 : -9223372036854775808 ≤ n) (h2 : n ≤ 9223372036854775807) : (Lit.int .i64 n).wf = true := by
  simp [Lit.wf, IntKind.min, IntKind.max, IntKind.signed, IntKind.bits]; omega
theorem blk_lt {w : World} {r : Nat} {o : Obj} (h : w.heap[r]? = some o) : r < w.heap.size := by
  rcases Nat.lt_or_ge r w.heap.size with h' | h'
  · exact h'
  · simp [Array.getElem?_eq_none h'] at h
theorem alloc_b (w : World) (o : Obj) : Below w.heap.size w (w.alloc o) := (Below.refl _ _).alloc (Nat.le_refl _) _
theorem set_block {w : World} {g : Nat} {cs : Array Value} {t : TypeId} (h : w.heap[g]? = some (.cells cs t (0, 0))) (i : Nat) (u : Value) : (w.setCell ⟨g, i, none⟩ u).heap[g]? = some (.cells (cs.setIfInBounds i u) t (0, 0)) := by
  simp [World.setCell, Array.getElem?_modify, h]

/-- Nothing but these blocks has turned. -/
structure Fs (l : List Nat) (w w' : World) : Prop where
  os : w'.os = w.os
  tape : w'.tape = w.tape
  output : w'.output = w.output
  size : w.heap.size ≤ w'.heap.size
  block : ∀ k, k < w.heap.size → k ∉ l → w'.heap[k]? = w.heap[k]?
theorem Fs.of_below {l : List Nat} {w w' : World} (h : Below w.heap.size w w') : Fs l w w' := ⟨h.os, h.tape, h.output, h.size, fun k hk _ => h.block k hk⟩
theorem Fs.refl (l : List Nat) (w : World) : Fs l w w := Fs.of_below (Below.refl _ _)
theorem Fs.below {l : List Nat} {B : Nat} {w w' : World} (h : Fs l w w') (hB : ∀ x ∈ l, B ≤ x) (hs : B ≤ w.heap.size) : Below B w w' :=
  ⟨h.os, h.tape, h.output, h.size, fun k hk => h.block k (by omega) (fun q => by have := hB k q; omega)⟩
theorem Fs.trans {l : List Nat} {a b c : World} (h : Fs l a b) (h' : Fs l b c) : Fs l a c :=
  ⟨h'.os.trans h.os, h'.tape.trans h.tape, h'.output.trans h.output, Nat.le_trans h.size h'.size, fun k hk h1 => (h'.block k (Nat.lt_of_lt_of_le hk h.size) h1).trans (h.block k hk h1)⟩
theorem Fs.mono {l l' : List Nat} {w w' : World} (h : Fs l w w') (hl : ∀ x ∈ l, x ∈ l') : Fs l' w w' := ⟨h.os, h.tape, h.output, h.size, fun k hk h1 => h.block k hk (fun q => h1 (hl k q))⟩
theorem Fs.turned {m : Nat} {w w' : World} (h : w.mapTurned w' m) : Fs [m] w w' := by
  have hg := h.grown
  exact ⟨hg.os, hg.tape, hg.output, hg.size, fun i hi hne => hg.block i hi (by intro he; cases he; exact hne (by simp))⟩
theorem Fs.set (w : World) (g k : Nat) (v : Value) : Fs [g] w (w.setCell ⟨g, k, none⟩ v) :=
  ⟨rfl, rfl, rfl, by simp [World.setCell], fun j _ hj => Below.heap_setCell _ _ _ _ (fun e => hj (by simp at e; simp [e]))⟩

/-- A member as it lies. -/
def mc (G : List Int) (S : List La) (i : Nat) : List Value := [.bool (sg S i).st, .int .i64 (sg S i).tm, .bool false, .int .i64 (gg G i)]
/-- The document's map of first ones. -/
def Fm (G : List Int) (S : List La) (g : Int) : Option Value := (fo G S g).map fun i : Nat => Value.int .i64 (i : Int)
/-- The members' block. -/
def Mb (w : World) (mb n : Nat) (G : List Int) (S : List La) : Prop := ∃ arr : Array Value, w.heap[mb]? = some (.cells arr 50 (0, 0)) ∧ ∀ i, i < n → ∀ j, j < 4 → arr[i * 4 + j]? = (mc G S i)[j]?
theorem Mb.lt {w : World} {mb n : Nat} {G : List Int} {S : List La} (h : Mb w mb n G S) : mb < w.heap.size := by
  obtain ⟨arr, h1, _⟩ := h; exact blk_lt h1
theorem Mb.same {w w' : World} {mb n : Nat} {G : List Int} {S : List La} (h : Mb w mb n G S) (hb : w'.heap[mb]? = w.heap[mb]?) : Mb w' mb n G S := by
  obtain ⟨arr, h1, h2⟩ := h; exact ⟨arr, hb.trans h1, h2⟩
theorem Mb.cells {w : World} {mb n : Nat} {G : List Int} {S : List La} (h : Mb w mb n G S) {i : Nat} (hi : i < n) :
    w.cell? ⟨mb, i * 4, none⟩ = some (.bool (sg S i).st) ∧ w.cell? ⟨mb, i * 4 + 1, none⟩ = some (.int .i64 (sg S i).tm) ∧ w.cell? ⟨mb, i * 4 + 2, none⟩ = some (.bool false) ∧ w.cell? ⟨mb, i * 4 + 3, none⟩ = some (.int .i64 (gg G i)) ∧
    w.frozen? ⟨mb, i * 4, none⟩ = false ∧ w.frozen? ⟨mb, i * 4 + 1, none⟩ = false ∧ w.frozen? ⟨mb, i * 4 + 2, none⟩ = false := by
  obtain ⟨arr, h1, h2⟩ := h
  have c0 := h2 i hi 0 (by omega)
  have c1 := h2 i hi 1 (by omega)
  have c2 := h2 i hi 2 (by omega)
  have c3 := h2 i hi 3 (by omega)
  simp only [Nat.add_zero] at c0
  refine ⟨by simp [World.cell?, h1, c0, mc], by simp [World.cell?, h1, c1, mc], by simp [World.cell?, h1, c2, mc], by simp [World.cell?, h1, c3, mc], ?_, ?_, ?_⟩ <;> simp [World.frozen?, h1]

/-- A row of latches: groups G, latches S, of which n; its block t, its map m of at most cn entries, its members' block mb. -/
structure Lt (B : Nat) (w : World) (t m mb cn n : Nat) (G : List Int) (S : List La) : Prop where
  ht : B ≤ t
  hm : B ≤ m
  hb : B ≤ mb
  ln : G.length = n
  le : n ≤ maxLen
  wg : ∀ i, (Lit.int .i64 (gg G i)).wf = true
  wt : ∀ i, (Lit.int .i64 (sg S i).tm).wf = true
  ok : Ok G S
  blk : ∃ ma c, w.heap[t]? = some (.cells #[.slice ma n c, .map (some m)] 48 (0, 0)) ∧ (0 < n → ma = some ⟨mb, 0, none⟩) ∧ n ≤ c ∧ c ≤ maxLen
  row : 0 < n → Mb w mb n G S
  map : IMap Try.prog 3 w m cn (Fm G S)
section
variable {B t m mb cn n : Nat} {w w' : World} {G : List Int} {S : List La}
theorem Lt.lt (h : Lt B w t m mb cn n G S) : t < w.heap.size ∧ m < w.heap.size ∧ (0 < n → mb < w.heap.size) := by
  obtain ⟨ma, c, h1, _⟩ := h.blk
  exact ⟨blk_lt h1, h.map.lt, fun h0 => (h.row h0).lt⟩
theorem Lt.same (h : Lt B w t m mb cn n G S) (h1 : w'.heap[t]? = w.heap[t]?) (h2 : w'.heap[m]? = w.heap[m]?) (h3 : 0 < n → w'.heap[mb]? = w.heap[mb]?) : Lt B w' t m mb cn n G S := by
  obtain ⟨ma, c, q1, q2⟩ := h.blk
  exact ⟨h.ht, h.hm, h.hb, h.ln, h.le, h.wg, h.wt, h.ok, ⟨ma, c, h1.trans q1, q2⟩, fun h0 => (h.row h0).same (h3 h0), h.map.same h2⟩
theorem Lt.below (h : Lt B w t m mb cn n G S) (hb : Below w.heap.size w w') : Lt B w' t m mb cn n G S :=
  h.same (hb.block t h.lt.1) (hb.block m h.lt.2.1) (fun h0 => hb.block mb (h.lt.2.2 h0))
theorem Lt.fs {l : List Nat} (h : Lt B w t m mb cn n G S) (hf : Fs l w w') (h1 : t ∉ l) (h2 : m ∉ l) (h3 : 0 < n → mb ∉ l) : Lt B w' t m mb cn n G S :=
  h.same (hf.block t h.lt.1 h1) (hf.block m h.lt.2.1 h2) (fun h0 => hf.block mb (h.lt.2.2 h0) (h3 h0))
theorem Lt.mono {cn' : Nat} (h : Lt B w t m mb cn n G S) (hc : cn ≤ cn') : Lt B w t m mb cn' n G S :=
  ⟨h.ht, h.hm, h.hb, h.ln, h.le, h.wg, h.wt, h.ok, h.blk, h.row, h.map.mono hc⟩
/-- The three blocks are three. -/
theorem Lt.apart (h : Lt B w t m mb cn n G S) : t ≠ m ∧ (0 < n → t ≠ mb ∧ m ≠ mb) := by
  obtain ⟨ma, c, q1, q2⟩ := h.blk
  obtain ⟨D, ⟨es, clock, hbk, _⟩, _⟩ := h.map.ex
  refine ⟨?_, fun h0 => ⟨?_, ?_⟩⟩
  · rintro rfl; rw [q1] at hbk; cases hbk
  · rintro rfl; obtain ⟨arr, r1, _⟩ := h.row h0; rw [q1] at r1; simp at r1
  · rintro rfl; obtain ⟨arr, r1, _⟩ := h.row h0; rw [hbk] at r1; cases r1
/-- What a call reads. -/
theorem Lt.cells (h : Lt B w t m mb cn n G S) : ∃ ma c, w.cell? ⟨t, 0, none⟩ = some (.slice ma n c) ∧ w.cell? ⟨t, 1, none⟩ = some (.map (some m)) ∧ w.frozen? ⟨t, 0, none⟩ = false ∧ w.frozen? ⟨t, 1, none⟩ = false ∧ (0 < n → ma = some ⟨mb, 0, none⟩) ∧ n ≤ c ∧ c ≤ 9223372036854775807 ∧ n ≤ 9223372036854775807 := by
  obtain ⟨ma, c, h1, h2, h3, h4⟩ := h.blk
  have := h.le
  unfold maxLen at h4 this
  exact ⟨ma, c, by simp [World.cell?, h1], by simp [World.cell?, h1], by simp [World.frozen?, h1], by simp [World.frozen?, h1], h2, h3, by omega, by omega⟩
theorem Lt.mem (h : Lt B w t m mb cn n G S) {i : Nat} (hi : i < n) : ∃ c, w.cell? ⟨t, 0, none⟩ = some (.slice (some ⟨mb, 0, none⟩) n c) ∧ w.cell? ⟨t, 1, none⟩ = some (.map (some m)) ∧ w.frozen? ⟨t, 0, none⟩ = false ∧ w.frozen? ⟨t, 1, none⟩ = false ∧ n ≤ c ∧ c ≤ 9223372036854775807 ∧ n ≤ 9223372036854775807 ∧
    w.cell? ⟨mb, i * 4, none⟩ = some (.bool (sg S i).st) ∧ w.cell? ⟨mb, i * 4 + 1, none⟩ = some (.int .i64 (sg S i).tm) ∧ w.cell? ⟨mb, i * 4 + 2, none⟩ = some (.bool false) ∧ w.cell? ⟨mb, i * 4 + 3, none⟩ = some (.int .i64 (gg G i)) ∧
    w.frozen? ⟨mb, i * 4, none⟩ = false ∧ w.frozen? ⟨mb, i * 4 + 1, none⟩ = false ∧ w.frozen? ⟨mb, i * 4 + 2, none⟩ = false := by
  obtain ⟨ma, c, c0, c1, f0, f1, e, h1, h2, h3⟩ := h.cells
  obtain rfl := e (by omega)
  obtain ⟨q0, q1, q2, q3, g0, g1, g2⟩ := (h.row (by omega)).cells hi
  exact ⟨c, c0, c1, f0, f1, h1, h2, h3, q0, q1, q2, q3, g0, g1, g2⟩
theorem zero3 (w : World) : (zeroValue 3).run Try.prog w = .ok (.int .i64 0) w := by kernel_rfl
/-- What First answers. -/
def fiV (G : List Int) (S : List La) (g : Int) : Value := .tuple #[.int .i64 (match fo G S g with | some i => ((i : Nat) : Int) | none => 0), .bool (fo G S g).isSome]
theorem Lt.look (h : Lt B w t m mb cn n G S) (g : Int) (hw : (Lit.int .i64 g).wf = true) : (Instr.lookup 45 (.map (some m)) (.int .i64 g) true).run Try.prog w = .ok (fiV G S g) w := by
  have hk := h.map.look_ok (t := 45) (e := 3) Try.underlying45 Try.underlying3 (zero3 w) hw
  rw [hk]
  unfold fiV Fm
  cases fo G S g <;> rfl
end

theorem has_any {B t m mb cn n : Nat} {w : World} {G : List Int} {S : List La} (h : Lt B w t m mb cn n G S) (i : Int) :
    Calls Try.prog 23 #[.pointer (some ⟨t, 0, none⟩), .int .i64 i] w fun e w' => e = .returned (.bool (decide (0 ≤ i) && decide (i < (n : Int)))) ∧ w = w' := by
  obtain ⟨ma, c, c0, c1, f0, f1, e, h1, h2, h3⟩ := h.cells
  clear h e
  cases hi : decide (0 ≤ i) with
  | false =>
    have hi' := Lib.hid hi
    go_enter Try.func23, Try.ntmps23
    go_wp2_with fail
    go_ret
    exact ⟨rfl, rfl⟩
  | true =>
    go_enter Try.func23, Try.ntmps23
    go_wp2_with fail
    go_ret
    exact ⟨rfl, rfl⟩

theorem first_any {B t m mb cn n : Nat} {w : World} {G : List Int} {S : List La} (h : Lt B w t m mb cn n G S) (g : Int) (hw : (Lit.int .i64 g).wf = true) :
    Calls Try.prog 21 #[.pointer (some ⟨t, 0, none⟩), .int .i64 g] w fun e w' => e = .returned (fiV G S g) ∧ w = w' := by
  obtain ⟨ma, c, c0, c1, f0, f1, e, h1, h2, h3⟩ := h.cells
  have hk := h.look g hw
  unfold fiV at hk ⊢
  generalize (match fo G S g with | some i => ((i : Nat) : Int) | none => 0) = x at *
  generalize (fo G S g).isSome = y at *
  clear h e
  go_enter Try.func21, Try.ntmps21
  go_wp2_with fail
  go_ret2
  exact ⟨rfl, rfl⟩
end Go.Proofs.Yteakbijlcccnnaa
