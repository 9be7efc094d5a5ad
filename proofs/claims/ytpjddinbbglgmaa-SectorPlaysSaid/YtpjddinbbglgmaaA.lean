/- A disk: its blocks, and the small calls. -/
import Derived.Test.YtpjddinbbglgmaaStructs
import Derived.Laws.CopyOwn
import Derived.Deep.RegionLaw
import Derived.Deep.CutRange
import Derived.Deep.DeepCutAuto
import Derived.Deep.MidRow
import Derived.WalkSmall
namespace Go.Proofs.Ytpjddinbbglgmaa
set_option linter.unusedVariables false
open Go.ChangeShapes Go.WideShapes Go.ChangeAt Go.RowKit

def bv (L : List Nat) : List Value := L.map fun n : Nat => Value.int .u8 ((n : Nat) : Int)
theorem bv_len (L : List Nat) : (bv L).length = L.length := by simp [bv]
theorem bv_one (L : List Nat) : ∀ v ∈ bv L, v.oneCell' = true := by
  intro v hv; simp [bv] at hv; obtain ⟨a, _, rfl⟩ := hv; rfl
theorem bv_get (L : List Nat) (i : Nat) (h : i < L.length) : (bv L)[i]? = some (.int .u8 ((L.getD i 0 : Nat) : Int)) := by
  simp [bv, List.getElem?_map, List.getElem?_eq_getElem h, List.getD]

theorem blk_lt {w : World} {r : Nat} {o : Obj} (h : w.heap[r]? = some o) : r < w.heap.size := by
  rcases Nat.lt_or_ge r w.heap.size with h' | h'
  · exact h'
  · simp [Array.getElem?_eq_none h'] at h

abbrev ptrV (pc : Option Nat) : Value := .pointer (pc.map fun c => (⟨c, 0, none⟩ : Addr))

/-- A disk: where its blocks lie, and what they hold. -/
structure Dk (B : Nat) (w : World) (d s : Nat) (pc : Option Nat) (m : Nat) (ct : Option (Nat × Nat)) (dn : Bool) (wr : Nat) (L : List Nat) : Prop where
  hd : B ≤ d
  hs : B ≤ s
  hc : ∀ c, pc = some c → B ≤ c ∧ c ≠ d ∧ c ≠ s
  ne : d ≠ s
  db : w.heap[d]? = some (.cells #[.slice (some ⟨s, 0, none⟩) m m, ptrV pc, .bool dn, .int .i64 wr] 47 (0, 0))
  sb : w.heap[s]? = some (.cells (bv L).toArray 53 (0, 0))
  cb : (pc = none ∧ ct = none) ∨ ∃ c x, pc = some c ∧ ct = some x ∧ w.heap[c]? = some (.cells #[.int .i64 (x.1 : Nat), .int .i64 (x.2 : Nat)] 55 (0, 0)) ∧ x.2 ≤ 64
  len : L.length = m * 64
  m1 : 1 ≤ m
  m2 : m ≤ 256
  by' : ∀ b ∈ L, b < 256

/-- Nothing but the disk's blocks has changed. -/
structure Fr (d s : Nat) (pc : Option Nat) (w w' : World) : Prop where
  os : w'.os = w.os
  tape : w'.tape = w.tape
  output : w'.output = w.output
  size : w.heap.size ≤ w'.heap.size
  block : ∀ k, k < w.heap.size → k ≠ d → k ≠ s → some k ≠ pc → w'.heap[k]? = w.heap[k]?

theorem Fr.below {d s B : Nat} {pc : Option Nat} {w w' : World} (h : Fr d s pc w w') (hd : B ≤ d) (hs : B ≤ s) (hc : ∀ c, pc = some c → B ≤ c) (hB : B ≤ w.heap.size) : Below B w w' :=
  ⟨h.os, h.tape, h.output, h.size, fun k hk => h.block k (by omega) (by omega) (by omega) (fun e => by have := hc k e.symm; omega)⟩
theorem Fr.of_below {d s : Nat} {pc : Option Nat} {w w' : World} (h : Below w.heap.size w w') : Fr d s pc w w' :=
  ⟨h.os, h.tape, h.output, h.size, fun k hk _ _ _ => h.block k hk⟩
theorem Fr.refl (d s : Nat) (pc : Option Nat) (w : World) : Fr d s pc w w := Fr.of_below (Below.refl _ _)

theorem Dk.below {B : Nat} {w w' : World} {d s m wr : Nat} {pc : Option Nat} {ct : Option (Nat × Nat)} {dn : Bool} {L : List Nat} (h : Dk B w d s pc m ct dn wr L) (hb : Below w.heap.size w w') : Dk B w' d s pc m ct dn wr L := by
  refine ⟨h.hd, h.hs, h.hc, h.ne, (hb.block d (blk_lt h.db)).trans h.db, (hb.block s (blk_lt h.sb)).trans h.sb, ?_, h.len, h.m1, h.m2, h.by'⟩
  rcases h.cb with hn | ⟨c, x, e1, e2, e3, e4⟩
  · exact .inl hn
  · exact .inr ⟨c, x, e1, e2, (hb.block c (blk_lt e3)).trans e3, e4⟩

theorem Dk.cells {B : Nat} {w : World} {d s m wr : Nat} {pc : Option Nat} {ct : Option (Nat × Nat)} {dn : Bool} {L : List Nat} (h : Dk B w d s pc m ct dn wr L) :
    w.cell? ⟨d, 0, none⟩ = some (.slice (some ⟨s, 0, none⟩) m m) ∧ w.cell? ⟨d, 1, none⟩ = some (ptrV pc) ∧ w.cell? ⟨d, 2, none⟩ = some (.bool dn) ∧ w.cell? ⟨d, 3, none⟩ = some (.int .i64 wr) := by
  simp [World.cell?, h.db]
theorem Dk.free {B : Nat} {w : World} {d s m wr : Nat} {pc : Option Nat} {ct : Option (Nat × Nat)} {dn : Bool} {L : List Nat} (h : Dk B w d s pc m ct dn wr L) (k : Nat) : w.frozen? ⟨d, k, none⟩ = false ∧ w.frozen? ⟨s, k, none⟩ = false := by
  simp [World.frozen?, h.db, h.sb]

theorem down_any {B : Nat} {w : World} {d s m wr : Nat} {pc : Option Nat} {ct : Option (Nat × Nat)} {dn : Bool} {L : List Nat} (h : Dk B w d s pc m ct dn wr L) :
    Calls Try.prog 20 #[.pointer (some ⟨d, 0, none⟩)] w fun e w' => e = .returned (.bool dn) ∧ w = w' := by
  have c := h.cells.2.2.1
  clear h
  go_enter Try.func20, Try.ntmps20
  go_wp2_with fail
  go_ret
  exact ⟨rfl, rfl⟩
theorem writes_any {B : Nat} {w : World} {d s m wr : Nat} {pc : Option Nat} {ct : Option (Nat × Nat)} {dn : Bool} {L : List Nat} (h : Dk B w d s pc m ct dn wr L) :
    Calls Try.prog 22 #[.pointer (some ⟨d, 0, none⟩)] w fun e w' => e = .returned (.int .i64 wr) ∧ w = w' := by
  have c := h.cells.2.2.2
  clear h
  go_enter Try.func22, Try.ntmps22
  go_wp2_with fail
  go_ret
  exact ⟨rfl, rfl⟩
theorem many_any {B : Nat} {w : World} {d s m wr : Nat} {pc : Option Nat} {ct : Option (Nat × Nat)} {dn : Bool} {L : List Nat} (h : Dk B w d s pc m ct dn wr L) :
    Calls Try.prog 24 #[.pointer (some ⟨d, 0, none⟩)] w fun e w' => e = .returned (.int .i64 m) ∧ w = w' := by
  have c := h.cells.1
  clear h
  go_enter Try.func24, Try.ntmps24
  go_wp2_with fail
  go_ret
  exact ⟨rfl, rfl⟩

def hasB (m : Nat) (i : Int) : Bool := decide (0 ≤ i) && decide (i < (m : Int))
theorem has_any {B : Nat} {w : World} {d s m wr : Nat} {pc : Option Nat} {ct : Option (Nat × Nat)} {dn : Bool} {L : List Nat} (i : Int) (h : Dk B w d s pc m ct dn wr L) :
    Calls Try.prog 28 #[.pointer (some ⟨d, 0, none⟩), .int .i64 i] w fun e w' => e = .returned (.bool (hasB m i)) ∧ w = w' := by
  have c := h.cells.1
  clear h
  by_cases hi : 0 ≤ i
  · have d1 : decide (0 ≤ i) = true := by simpa using hi
    rw [show hasB m i = decide (i < (m : Int)) by simp [hasB, hi]]
    go_enter Try.func28, Try.ntmps28
    go_wp2_with fail
    go_ret
    exact ⟨rfl, rfl⟩
  · have d1 : decide (0 ≤ i) = false := by simpa using hi
    rw [show hasB m i = false by simp [hasB, hi]]
    go_enter Try.func28, Try.ntmps28
    go_wp2_with fail
    go_ret
    exact ⟨rfl, rfl⟩

def wi (n lo hi : Int) : Int := if (if n < hi then n else hi) < lo then lo else (if n < hi then n else hi)
theorem within_any (n lo hi : Int) (w : World) : Calls Try.prog 26 #[.int .i64 n, .int .i64 lo, .int .i64 hi] w fun e w' => e = .returned (.int .i64 (wi n lo hi)) ∧ w = w' := by
  go_enter Try.func26, Try.ntmps26
  go_wp2_with fail
  all_goals
    go_ret
    exact ⟨bret_int (by unfold wi; (repeat' split) <;> omega), rfl⟩

end Go.Proofs.Ytpjddinbbglgmaa
