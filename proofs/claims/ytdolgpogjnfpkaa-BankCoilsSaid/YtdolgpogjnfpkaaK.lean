/- get: plain data; its state; its beginning. -/
import Derived.Test.YtdolgpogjnfpkaaJ
namespace Go.Proofs.Ytdolgpogjnfpkaa
set_option linter.unusedVariables false
open Go.ChangeShapes Go.WideShapes Go.ChangeAt Go.RowKit

def W1 (L : List Nat) : Nat := (wordL L).1
def W2 (L : List Nat) : List Nat := (wordL L).2
def readW : Nat → List Nat → List Nat
  | 0, _ => []
  | k + 1, L => W1 L :: readW k (W2 L)
def leftW : Nat → List Nat → List Nat
  | 0, L => L
  | k + 1, L => leftW k (W2 L)
theorem readW_snoc (k : Nat) (L : List Nat) : readW (k + 1) L = readW k L ++ [W1 (leftW k L)] := by
  induction k generalizing L with
  | zero => rfl
  | succ k ih => rw [readW, ih, readW, leftW]; rfl
theorem leftW_succ (k : Nat) (L : List Nat) : leftW (k + 1) L = W2 (leftW k L) := by
  induction k generalizing L with
  | zero => rfl
  | succ k ih => rw [leftW, ih, leftW]
theorem readW_len (k : Nat) (L : List Nat) : (readW k L).length = k := by
  induction k generalizing L with
  | zero => rfl
  | succ k ih => rw [readW, List.length_cons, ih]
theorem leftW_by (k : Nat) (L : List Nat) (h : ∀ b ∈ L, b < 256) : ∀ b ∈ leftW k L, b < 256 := by
  induction k generalizing L with
  | zero => exact h
  | succ k ih => exact ih _ (wordL_by h)
theorem readW_by (k : Nat) (L : List Nat) (h : ∀ b ∈ L, b < 256) : ∀ v ∈ readW k L, v < 65536 := by
  induction k generalizing L with
  | zero => intro v hv; simp [readW] at hv
  | succ k ih =>
    intro v hv
    rw [readW, List.mem_cons] at hv
    rcases hv with rfl | hv
    · exact wordL_lt h
    · exact ih _ (wordL_by h) v hv
theorem W1_lt {L : List Nat} (h : ∀ b ∈ L, b < 256) : W1 L < 65536 := wordL_lt h
theorem W2_by {L : List Nat} (h : ∀ b ∈ L, b < 256) : ∀ b ∈ W2 L, b < 256 := wordL_by h
/-- What bytes would ask for. -/
structure Gt where
  ad : Nat
  q : Nat
  to : Nat
  V : List Nat
def getN (f : Fo) (L : List Nat) : Gt :=
  let r0 := L.drop 1
  let r1 := W2 r0
  let q := if 0 < f.q then W1 r1 else 0
  let r2 := if 0 < f.q then W2 r1 else r1
  let many := if f.to = true then W1 (W2 r2) else if f.co = true then q else f.mo
  let r3 := if f.to = true then W2 (W2 r2) else r2
  let r4 := if f.co = true then r3.drop 1 else r3
  ⟨W1 r0, q, if f.to = true then W1 r2 else 0, if f.co = true ∧ f.bi = true then unb r4 many else if f.bi = true ∧ 0 < f.mo then [min (W1 r4) 1] else readW (min many f.mo) r4⟩
def GetFP (w : World) (f : Fo) (L : List Nat) (e : Ending) (w' : World) : Prop :=
  ∃ vs vn vc, e = .returned (rv ⟨((L.getD 0 0 : Nat) : Int), ((getN f L).ad : Int), ((getN f L).q : Int), vs, vn, vc, (getN f L).V, ((getN f L).to : Int)⟩) ∧ ArgW w' vs vn vc (getN f L).V ∧ Below w.heap.size w w' ∧ ∀ b off, vs = some ⟨b, off, none⟩ → w.heap.size ≤ b
/-- The state between two steps. -/
def Gs (w W : World) (f : Fo) (L : List Nat) (qc : List Value) : Prop :=
  W.heap[w.heap.size]? = some (.cells (fcs f).toArray 81 (0, 0)) ∧ W.heap[w.heap.size + 1]? = some (.cells #[.int .i64 0, .int .i64 0, .int .i64 0, .slice none 0 0, .int .i64 0] 32 (0, 0)) ∧ Left W (w.heap.size + 2) L ∧ W.heap[w.heap.size + 3]? = some (.cells qc.toArray 32 (0, 0)) ∧ Below w.heap.size w W
theorem Gs.word {w W W' : World} {f : Fo} {L : List Nat} {qc : List Value} (h : Gs w W f L qc) (hl : Left W' (w.heap.size + 2) (wordL L).2) (hf : Fs [w.heap.size + 2] W W') : Gs w W' f (W2 L) qc := by
  obtain ⟨h1, h2, h3, h4, h5⟩ := h
  exact ⟨(hf.block _ (blk_lt h1) (by simp)).trans h1, (hf.block _ (blk_lt h2) (by simp)).trans h2, hl, (hf.block _ (blk_lt h4) (by simp)).trans h4, h5.trans (hf.below (by simp) h5.size)⟩
theorem Gs.setq {w W : World} {f : Fo} {L : List Nat} {qc : List Value} (h : Gs w W f L qc) (i : Nat) (v : Value) : Gs w (W.setCell ⟨w.heap.size + 3, i, none⟩ v) f L (qc.set i v) := by
  obtain ⟨h1, h2, h3, h4, h5⟩ := h
  refine ⟨(Below.heap_setCell _ _ _ _ (show w.heap.size ≠ w.heap.size + 3 by omega)).trans h1, (Below.heap_setCell _ _ _ _ (show w.heap.size + 1 ≠ w.heap.size + 3 by omega)).trans h2, h3.keep (by simp [World.setCell]) (fun b hb => Below.heap_setCell _ _ _ _ (show b ≠ w.heap.size + 3 by omega)), ?_, h5.setCell (by show w.heap.size ≤ w.heap.size + 3; omega) _⟩
  simp [World.setCell, Array.getElem?_modify, h4]
theorem Gs.setl {w W : World} {f : Fo} {L M : List Nat} {qc : List Value} (h : Gs w W f L qc) (v : Value) (hl : Left (W.setCell ⟨w.heap.size + 2, 0, none⟩ v) (w.heap.size + 2) M) : Gs w (W.setCell ⟨w.heap.size + 2, 0, none⟩ v) f M qc := by
  obtain ⟨h1, h2, h3, h4, h5⟩ := h
  exact ⟨(Below.heap_setCell _ _ _ _ (show w.heap.size ≠ w.heap.size + 2 by omega)).trans h1, (Below.heap_setCell _ _ _ _ (show w.heap.size + 1 ≠ w.heap.size + 2 by omega)).trans h2, hl, (Below.heap_setCell _ _ _ _ (show w.heap.size + 3 ≠ w.heap.size + 2 by omega)).trans h4, h5.setCell (by show w.heap.size ≤ w.heap.size + 2; omega) _⟩
theorem Gs.fcells {w W : World} {f : Fo} {L : List Nat} {qc : List Value} (h : Gs w W f L qc) : W.cell? ⟨w.heap.size, 0, none⟩ = some (.bool f.rd) ∧ W.cell? ⟨w.heap.size, 1, none⟩ = some (.bool f.wr) ∧ W.cell? ⟨w.heap.size, 2, none⟩ = some (.bool f.bi) ∧ W.cell? ⟨w.heap.size, 3, none⟩ = some (.int .i64 (f.q : Int)) ∧ W.cell? ⟨w.heap.size, 4, none⟩ = some (.int .i64 (f.le : Int)) ∧ W.cell? ⟨w.heap.size, 5, none⟩ = some (.int .i64 (f.mo : Int)) ∧ W.cell? ⟨w.heap.size, 6, none⟩ = some (.bool f.co) ∧ W.cell? ⟨w.heap.size, 7, none⟩ = some (.bool f.to) := cells8 (show W.heap[w.heap.size]? = some (.cells #[.bool f.rd, .bool f.wr, .bool f.bi, .int .i64 (f.q : Int), .int .i64 (f.le : Int), .int .i64 (f.mo : Int), .bool f.co, .bool f.to] 81 (0, 0)) from h.1)
theorem Gs.below {w W W' : World} {f : Fo} {L : List Nat} {qc : List Value} (h : Gs w W f L qc) (hb : Below W.heap.size W W') : Gs w W' f L qc := by
  obtain ⟨h1, h2, h3, h4, h5⟩ := h
  refine ⟨(hb.block _ (blk_lt h1)).trans h1, (hb.block _ (blk_lt h2)).trans h2, h3.keep hb.size (fun b hb' => hb.block _ (by have := blk_lt h4; omega)), (hb.block _ (blk_lt h4)).trans h4, h5.trans (hb.mono h5.size)⟩
theorem Gs.bel {w W : World} {f : Fo} {L : List Nat} {qc : List Value} (h : Gs w W f L qc) : Below w.heap.size w W := h.2.2.2.2
theorem Gs.left {w W : World} {f : Fo} {L : List Nat} {qc : List Value} (h : Gs w W f L qc) : Left W (w.heap.size + 2) L := h.2.2.1
theorem Gs.qcells {w W : World} {f : Fo} {L : List Nat} {x0 x1 x2 x3 x4 : Value} (h : Gs w W f L [x0, x1, x2, x3, x4]) : W.cell? ⟨w.heap.size + 3, 0, none⟩ = some x0 ∧ W.cell? ⟨w.heap.size + 3, 1, none⟩ = some x1 ∧ W.cell? ⟨w.heap.size + 3, 2, none⟩ = some x2 ∧ W.cell? ⟨w.heap.size + 3, 3, none⟩ = some x3 ∧ W.cell? ⟨w.heap.size + 3, 4, none⟩ = some x4 := cells5 (show W.heap[w.heap.size + 3]? = some (.cells #[x0, x1, x2, x3, x4] 32 (0, 0)) from h.2.2.2.1)
theorem frozK {w : World} {b i : Nat} {cs : Array Value} {t : TypeId} (h : w.heap[b]? = some (.cells cs t (0, 0))) : w.frozen? ⟨b, i, none⟩ = false := by simp [World.frozen?, h]
theorem Gs.qfro {w W : World} {f : Fo} {L : List Nat} {qc : List Value} (h : Gs w W f L qc) (i : Nat) : W.frozen? ⟨w.heap.size + 3, i, none⟩ = false := frozK h.2.2.2.1

theorem Gs.zero {w W : World} {f : Fo} {L : List Nat} {qc : List Value} (h : Gs w W f L qc) : ∀ i, W.frozen? ⟨w.heap.size + 1, i, none⟩ = false := fun i => frozK h.2.1
theorem Gs.zcells {w W : World} {f : Fo} {L : List Nat} {qc : List Value} (h : Gs w W f L qc) : W.cell? ⟨w.heap.size + 1, 0, none⟩ = some (.int .i64 0) ∧ W.cell? ⟨w.heap.size + 1, 1, none⟩ = some (.int .i64 0) ∧ W.cell? ⟨w.heap.size + 1, 2, none⟩ = some (.int .i64 0) ∧ W.cell? ⟨w.heap.size + 1, 3, none⟩ = some (.slice none 0 0) ∧ W.cell? ⟨w.heap.size + 1, 4, none⟩ = some (.int .i64 0) := cells5 (show W.heap[w.heap.size + 1]? = some (.cells #[.int .i64 0, .int .i64 0, .int .i64 0, .slice none 0 0, .int .i64 0] 32 (0, 0)) from h.2.1)
/-- What there is ahead of the first word. -/
def G3 (w W : World) (f : Fo) (L : List Nat) : Prop :=
  W.heap[w.heap.size]? = some (.cells (fcs f).toArray 81 (0, 0)) ∧ W.heap[w.heap.size + 1]? = some (.cells #[.int .i64 0, .int .i64 0, .int .i64 0, .slice none 0 0, .int .i64 0] 32 (0, 0)) ∧ Left W (w.heap.size + 2) L ∧ W.heap.size = w.heap.size + 3 ∧ Below w.heap.size w W
theorem G3.after {w W W' : World} {f : Fo} {L M : List Nat} {qc : List Value} (h : G3 w W f L) (hf : Fs [w.heap.size + 2] W W') (hl : Left W' (w.heap.size + 2) M) (hq : W'.heap[w.heap.size + 3]? = some (.cells qc.toArray 32 (0, 0))) : Gs w W' f M qc := by
  obtain ⟨h1, h2, h3, h4, h5⟩ := h
  exact ⟨(hf.block _ (by omega) (by simp)).trans h1, (hf.block _ (by omega) (by simp)).trans h2, hl, hq, h5.trans (hf.below (by simp) h5.size)⟩
end Go.Proofs.Ytdolgpogjnfpkaa
