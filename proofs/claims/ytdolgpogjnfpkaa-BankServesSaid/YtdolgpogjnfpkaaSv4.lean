/- get: plain data; its state; its beginning. -/
import Derived.Test.YtdolgpogjnfpkaaSv3
import Derived.Laws.Strings
namespace Go.Proofs.Ytdolgpogjnfpkaa
set_option linter.unusedVariables false
open Go.ChangeShapes Go.WideShapes Go.ChangeAt Go.RowKit

def W1 (L : List Nat) : Nat := (wordL L).1
def W2 (L : List Nat) : List Nat := (wordL L).2
def readW : Nat → List Nat → List Nat
  | 0, _ => []
  | k + 1, L => W1 L :: readW k (W2 L)
def leftW : Nat → List Nat → List Nat
  | 0, L => L
  | k + 1, L => leftW k (W2 L)
theorem readW_snoc (k : Nat) (L : List Nat) : readW (k + 1) L = readW k L ++ [W1 (leftW k L)] := by
  induction k generalizing L with
  | zero => rfl
  | succ k ih => rw [readW, ih, readW, leftW]; rfl
theorem leftW_succ (k : Nat) (L : List Nat) : leftW (k + 1) L = W2 (leftW k L) := by
  induction k generalizing L with
  | zero => rfl
  | succ k ih => rw [leftW, ih, leftW]
theorem readW_len (k : Nat) (L : List Nat) : (readW k L).length = k := by
  induction k generalizing L with
  | zero => rfl
  | succ k ih => rw [readW, List.length_cons, ih]
theorem leftW_by (k : Nat) (L : List Nat) (h : ∀ b ∈ L, b < 256) : ∀ b ∈ leftW k L, b < 256 := by
  induction k generalizing L with
  | zero => exact h
  | succ k ih => exact ih _ (wordL_by h)
theorem readW_by (k : Nat) (L : List Nat) (h : ∀ b ∈ L, b < 256) : ∀ v ∈ readW k L, v < 65536 := by
  induction k generalizing L with
  | zero => intro v hv; simp [readW] at hv
  | succ k ih =>
    intro v hv
    rw [readW, List.mem_cons] at hv
    rcases hv with rfl | hv
    · exact wordL_lt h
    · exact ih _ (wordL_by h) v hv
theorem W1_lt {L : List Nat} (h : ∀ b ∈ L, b < 256) : W1 L < 65536 := wordL_lt h
theorem W2_by {L : List Nat} (h : ∀ b ∈ L, b < 256) : ∀ b ∈ W2 L, b < 256 := wordL_by h
/-- What bytes would ask for. -/
structure Gt where
  ad : Nat
  q : Nat
  to : Nat
  V : List Nat
def getN (f : Fo) (L : List Nat) : Gt :=
  let r0 := L.drop 1
  let r1 := W2 r0
  let q := if 0 < f.q then W1 r1 else 0
  let r2 := if 0 < f.q then W2 r1 else r1
  let many := if f.to = true then W1 (W2 r2) else if f.co = true then q else f.mo
  let r3 := if f.to = true then W2 (W2 r2) else r2
  let r4 := if f.co = true then r3.drop 1 else r3
  ⟨W1 r0, q, if f.to = true then W1 r2 else 0, if f.co = true ∧ f.bi = true then unb r4 many else if f.bi = true ∧ 0 < f.mo then [min (W1 r4) 1] else readW (min many f.mo) r4⟩
def GetFP (w : World) (f : Fo) (L : List Nat) (e : Ending) (w' : World) : Prop :=
  ∃ vs vn vc, e = .returned (rv ⟨((L.getD 0 0 : Nat) : Int), ((getN f L).ad : Int), ((getN f L).q : Int), vs, vn, vc, (getN f L).V, ((getN f L).to : Int)⟩) ∧ ArgW w' vs vn vc (getN f L).V ∧ Below w.heap.size w w' ∧ ∀ b off, vs = some ⟨b, off, none⟩ → w.heap.size ≤ b
/-- The state between two steps. -/
def Gs (w W : World) (f : Fo) (L : List Nat) (qc : List Value) : Prop :=
  W.heap[w.heap.size]? = some (.cells (fcs f).toArray 81 (0, 0)) ∧ W.heap[w.heap.size + 1]? = some (.cells #[.int .i64 0, .int .i64 0, .int .i64 0, .slice none 0 0, .int .i64 0] 32 (0, 0)) ∧ Left W (w.heap.size + 2) L ∧ W.heap[w.heap.size + 3]? = some (.cells qc.toArray 32 (0, 0)) ∧ Below w.heap.size w W
theorem Gs.word {w W W' : World} {f : Fo} {L : List Nat} {qc : List Value} (h : Gs w W f L qc) (hl : Left W' (w.heap.size + 2) (wordL L).2) (hf : Fs [w.heap.size + 2] W W') : Gs w W' f (W2 L) qc := by
  obtain ⟨h1, h2, h3, h4, h5⟩ := h
  exact ⟨(hf.block _ (blk_lt h1) (by simp)).trans h1, (hf.block _ (blk_lt h2) (by simp)).trans h2, hl, (hf.block _ (blk_lt h4) (by simp)).trans h4, h5.trans (hf.below (by simp) h5.size)⟩
theorem Gs.setq {w W : World} {f : Fo} {L : List Nat} {qc : List Value} (h : Gs w W f L qc) (i : Nat) (v : Value) : Gs w (W.setCell ⟨w.heap.size + 3, i, none⟩ v) f L (qc.set i v) := by
  obtain ⟨h1, h2, h3, h4, h5⟩ := h
  refine ⟨(Below.heap_setCell _ _ _ _ (show w.heap.size ≠ w.heap.size + 3 by omega)).trans h1, (Below.heap_setCell _ _ _ _ (show w.heap.size + 1 ≠ w.heap.size + 3 by omega)).trans h2, h3.keep (by simp [World.setCell]) (fun b hb => Below.heap_setCell _ _ _ _ (show b ≠ w.heap.size + 3 by omega)), ?_, h5.setCell (by show w.heap.size ≤ w.heap.size + 3; omega) _⟩
  simp [World.setCell, Array.getElem?_modify, h4]
theorem Gs.setl {w W : World} {f : Fo} {L M : List Nat} {qc : List Value} (h : Gs w W f L qc) (v : Value) (hl : Left (W.setCell ⟨w.heap.size + 2, 0, none⟩ v) (w.heap.size + 2) M) : Gs w (W.setCell ⟨w.heap.size + 2, 0, none⟩ v) f M qc := by
  obtain ⟨h1, h2, h3, h4, h5⟩ := h
  exact ⟨(Below.heap_setCell _ _ _ _ (show w.heap.size ≠ w.heap.size + 2 by omega)).trans h1, (Below.heap_setCell _ _ _ _ (show w.heap.size + 1 ≠ w.heap.size + 2 by omega)).trans h2, hl, (Below.heap_setCell _ _ _ _ (show w.heap.size + 3 ≠ w.heap.size + 2 by omega)).trans h4, h5.setCell (by show w.heap.size ≤ w.heap.size + 2; omega) _⟩
theorem Gs.fcells {w W : World} {f : Fo} {L : List Nat} {qc : List Value} (h : Gs w W f L qc) : W.cell? ⟨w.heap.size, 0, none⟩ = some (.bool f.rd) ∧ W.cell? ⟨w.heap.size, 1, none⟩ = some (.bool f.wr) ∧ W.cell? ⟨w.heap.size, 2, none⟩ = some (.bool f.bi) ∧ W.cell? ⟨w.heap.size, 3, none⟩ = some (.int .i64 (f.q : Int)) ∧ W.cell? ⟨w.heap.size, 4, none⟩ = some (.int .i64 (f.le : Int)) ∧ W.cell? ⟨w.heap.size, 5, none⟩ = some (.int .i64 (f.mo : Int)) ∧ W.cell? ⟨w.heap.size, 6, none⟩ = some (.bool f.co) ∧ W.cell? ⟨w.heap.size, 7, none⟩ = some (.bool f.to) := cells8 (show W.heap[w.heap.size]? = some (.cells #[.bool f.rd, .bool f.wr, .bool f.bi, .int .i64 (f.q : Int), .int .i64 (f.le : Int), .int .i64 (f.mo : Int), .bool f.co, .bool f.to] 81 (0, 0)) from h.1)
theorem Gs.below {w W W' : World} {f : Fo} {L : List Nat} {qc : List Value} (h : Gs w W f L qc) (hb : Below W.heap.size W W') : Gs w W' f L qc := by
  obtain ⟨h1, h2, h3, h4, h5⟩ := h
  refine ⟨(hb.block _ (blk_lt h1)).trans h1, (hb.block _ (blk_lt h2)).trans h2, h3.keep hb.size (fun b hb' => hb.block _ (by have := blk_lt h4; omega)), (hb.block _ (blk_lt h4)).trans h4, h5.trans (hb.mono h5.size)⟩
theorem Gs.bel {w W : World} {f : Fo} {L : List Nat} {qc : List Value} (h : Gs w W f L qc) : Below w.heap.size w W := h.2.2.2.2
theorem Gs.left {w W : World} {f : Fo} {L : List Nat} {qc : List Value} (h : Gs w W f L qc) : Left W (w.heap.size + 2) L := h.2.2.1
theorem Gs.qcells {w W : World} {f : Fo} {L : List Nat} {x0 x1 x2 x3 x4 : Value} (h : Gs w W f L [x0, x1, x2, x3, x4]) : W.cell? ⟨w.heap.size + 3, 0, none⟩ = some x0 ∧ W.cell? ⟨w.heap.size + 3, 1, none⟩ = some x1 ∧ W.cell? ⟨w.heap.size + 3, 2, none⟩ = some x2 ∧ W.cell? ⟨w.heap.size + 3, 3, none⟩ = some x3 ∧ W.cell? ⟨w.heap.size + 3, 4, none⟩ = some x4 := cells5 (show W.heap[w.heap.size + 3]? = some (.cells #[x0, x1, x2, x3, x4] 32 (0, 0)) from h.2.2.2.1)
theorem frozK {w : World} {b i : Nat} {cs : Array Value} {t : TypeId} (h : w.heap[b]? = some (.cells cs t (0, 0))) : w.frozen? ⟨b, i, none⟩ = false := by simp [World.frozen?, h]
theorem Gs.qfro {w W : World} {f : Fo} {L : List Nat} {qc : List Value} (h : Gs w W f L qc) (i : Nat) : W.frozen? ⟨w.heap.size + 3, i, none⟩ = false := frozK h.2.2.2.1

theorem Gs.zero {w W : World} {f : Fo} {L : List Nat} {qc : List Value} (h : Gs w W f L qc) : ∀ i, W.frozen? ⟨w.heap.size + 1, i, none⟩ = false := fun i => frozK h.2.1
theorem Gs.zcells {w W : World} {f : Fo} {L : List Nat} {qc : List Value} (h : Gs w W f L qc) : W.cell? ⟨w.heap.size + 1, 0, none⟩ = some (.int .i64 0) ∧ W.cell? ⟨w.heap.size + 1, 1, none⟩ = some (.int .i64 0) ∧ W.cell? ⟨w.heap.size + 1, 2, none⟩ = some (.int .i64 0) ∧ W.cell? ⟨w.heap.size + 1, 3, none⟩ = some (.slice none 0 0) ∧ W.cell? ⟨w.heap.size + 1, 4, none⟩ = some (.int .i64 0) := cells5 (show W.heap[w.heap.size + 1]? = some (.cells #[.int .i64 0, .int .i64 0, .int .i64 0, .slice none 0 0, .int .i64 0] 32 (0, 0)) from h.2.1)
/-- What there is ahead of the first word. -/
def G3 (w W : World) (f : Fo) (L : List Nat) : Prop :=
  W.heap[w.heap.size]? = some (.cells (fcs f).toArray 81 (0, 0)) ∧ W.heap[w.heap.size + 1]? = some (.cells #[.int .i64 0, .int .i64 0, .int .i64 0, .slice none 0 0, .int .i64 0] 32 (0, 0)) ∧ Left W (w.heap.size + 2) L ∧ W.heap.size = w.heap.size + 3 ∧ Below w.heap.size w W
theorem G3.after {w W W' : World} {f : Fo} {L M : List Nat} {qc : List Value} (h : G3 w W f L) (hf : Fs [w.heap.size + 2] W W') (hl : Left W' (w.heap.size + 2) M) (hq : W'.heap[w.heap.size + 3]? = some (.cells qc.toArray 32 (0, 0))) : Gs w W' f M qc := by
  obtain ⟨h1, h2, h3, h4, h5⟩ := h
  exact ⟨(hf.block _ (by omega) (by simp)).trans h1, (hf.block _ (by omega) (by simp)).trans h2, hl, hq, h5.trans (hf.below (by simp) h5.size)⟩
end Go.Proofs.Ytdolgpogjnfpkaa
/- put of any kind. -/
namespace Go.Proofs.Ytdolgpogjnfpkaa
set_option linter.unusedVariables false
open Go.ChangeShapes Go.WideShapes Go.ChangeAt Go.RowKit

def putR (f : Fo) (r : Rq) : List Nat := putN f r.fc.toNat r.ad.toNat r.q.toNat r.to.toNat r.V
theorem isPl_iff (n : Int) : isPl n = true ↔ 0 ≤ n ∧ n < 65536 := by unfold isPl; simp
theorem put_of {k : Int} {f : Fo} (hk : formOf k = some f) (r : Rq) (w : World) (hr : r.ok w) (hh : has f r = true) (hf0 : 0 ≤ r.fc) (hf1 : r.fc < 256) :
    Calls Try.prog 55 #[fv f, rv r] w (PutFP w (putR f r)) := by
  obtain ⟨h1, h2, h3, h4, h5, h6, h7, h8, h9⟩ := (has_iff f r).1 hh
  rw [isPl_iff] at h1 h2
  have hsm := formOf_small hk
  have hln := hr.arg.row.ln
  have harg := hr.arg
  obtain ⟨fc, ad, q, vs, vn, vc, V, rto⟩ := r
  simp only at h1 h2 h3 h4 h5 h6 h7 h8 h9 hln harg hf0 hf1
  obtain ⟨fc, rfl⟩ : ∃ n : Nat, fc = (n : Int) := ⟨fc.toNat, by omega⟩
  obtain ⟨ad, rfl⟩ : ∃ n : Nat, ad = (n : Int) := ⟨ad.toNat, by omega⟩
  obtain ⟨q, rfl⟩ : ∃ n : Nat, q = (n : Int) := ⟨q.toNat, by omega⟩
  obtain ⟨rto, rfl⟩ : ∃ n : Nat, rto = (n : Int) := ⟨rto.toNat, by omega⟩
  have hq := hsm.q
  simp only [putR, Int.toNat_natCast]
  unfold formOf at hk
  repeat' split at hk
  all_goals first | (cases hk; done) | (injection hk with hk; subst hk; simp only at h3 h4 h6 h7 h8 h9)
  · exact put_s6 true true 125 1 121 fc ad q rto vs vn vc V w harg (by omega) (by omega) (by omega) (by omega) (by omega) (by omega) (by omega)
  · exact put_s3 false true 0 2 2 fc ad q rto vs vn vc V w harg (by omega) (by omega) (by omega) (by omega) rfl (by omega) trivial
  · exact put_s5 false true 123 1 123 fc ad q rto vs vn vc V w harg (by omega) (by omega) (by omega) (by omega) (by omega) (by omega) (by omega)
  · exact put_s4 false true 1968 1 1968 fc ad q rto vs vn vc V w harg (by omega) (by omega) (by omega) (by omega) (by omega) (by omega) (by omega)
  · exact put_s3 false true 0 1 1 fc ad q rto vs vn vc V w harg (by omega) (by omega) (by omega) (by omega) rfl (by omega) trivial
  · have hv0 : V.getD 0 0 ≤ 1 := by
      have h := h9 (by simp)
      unfold allB at h
      rw [List.all_eq_true] at h
      have hl : 0 < V.length := by omega
      have := h V[0] (List.getElem_mem hl)
      simpa [List.getD, List.getElem?_eq_getElem hl] using this
    exact put_s2 false true 0 1 1 fc ad q rto vs vn vc V w harg (by omega) (by omega) (by omega) (by omega) rfl (by omega) hv0 (by omega)
  · exact put_s1b true false 125 0 0 fc ad q rto vs vn vc V w harg (by omega) (by omega) (by omega) (by omega) (by omega) (by omega) trivial
  · exact put_s1b true false 125 0 0 fc ad q rto vs vn vc V w harg (by omega) (by omega) (by omega) (by omega) (by omega) (by omega) trivial
  · exact put_s1a true false 2000 0 0 fc ad q rto vs vn vc V w harg (by omega) (by omega) (by omega) (by omega) (by omega) (by omega) rfl
  · exact put_s1a true false 2000 0 0 fc ad q rto vs vn vc V w harg (by omega) (by omega) (by omega) (by omega) (by omega) (by omega) rfl
end Go.Proofs.Ytdolgpogjnfpkaa
/- Equal, Reads, Writes, Right. -/
namespace Go.Proofs.Ytdolgpogjnfpkaa
set_option linter.unusedVariables false
open Go.ChangeShapes Go.WideShapes Go.ChangeAt Go.RowKit

theorem str_beq {L M : List Nat} (hL : ∀ b ∈ L, b < 256) (hM : ∀ b ∈ M, b < 256) : ((strN L).toList == (strN M).toList) = decide (L = M) := by
  have := strN_inj hL hM
  by_cases e : L = M
  · subst e; simp
  · rw [decide_eq_false e]
    have hne : ¬ (strN L).toList = (strN M).toList := fun q => e (this.1 (Go.WideShapes.bytes_inj (by rw [← ByteArray.toList_eq, ← ByteArray.toList_eq]; exact q)))
    simpa using hne
theorem equal_any (a : Option Addr) (n c : Nat) (L : List Nat) (b : Option Addr) (m d : Nat) (M : List Nat) (w : World) (h : Bys w a n L) (h2 : Bys w b m M) :
    Calls Try.prog 54 #[.slice a n c, .slice b m d] w fun e w' => e = .returned (.bool (decide (L = M))) ∧ w' = w := by
  have k1 := conv_bys (cap := c) h
  have k2 := conv_bys (cap := d) h2
  have HS := Lib.hid (str_beq h.by' h2.by')
  clear h h2
  generalize strN L = S at *
  generalize strN M = T at *
  go_enter Try.func54, Try.ntmps54
  go_wp2_with fail
  go_ret
  refine ⟨?_, rfl⟩
  rw [← HS.out]
  rfl
theorem zero43 (w : World) : (zeroValue 81).run Try.prog w = .ok (fv fz) w := by kernel_rfl
def fo (n : Int) : Fo := (formOf n).getD fz
theorem getD_fv (n : Int) : ((formOf n).map fv).getD (fv fz) = fv (fo n) := by unfold fo; cases formOf n <;> rfl
theorem look_f {w : World} {m : Nat} (h : IMap Try.prog 3 w m 10 (fun i => (formOf i).map fv)) {n : Int} (hw : (Lit.int .i64 n).wf = true) :
    (Instr.lookup 83 (.map (some m)) (.int .i64 n) false).run Try.prog w = .ok (fv (fo n)) w := by
  rw [← getD_fv]; exact h.look (t := 83) (e := 81) Try.underlying83 Try.underlying3 (zero43 w) hw
theorem look_f_ok {w : World} {m : Nat} (h : IMap Try.prog 3 w m 10 (fun i => (formOf i).map fv)) {n : Int} (hw : (Lit.int .i64 n).wf = true) :
    (Instr.lookup 83 (.map (some m)) (.int .i64 n) true).run Try.prog w = .ok (.tuple #[fv (fo n), .bool (formOf n).isSome]) w := by
  have := h.look_ok (t := 83) (e := 81) Try.underlying83 Try.underlying3 (zero43 w) hw
  rw [getD_fv] at this
  rw [this]
  congr 3
  cases formOf n <;> rfl
set_option maxRecDepth 100000 in
set_option maxHeartbeats 4000000 in
theorem reads_any (n : Int) (w : World) (hw : (Lit.int .i64 n).wf = true) : Calls Try.prog 37 #[.int .i64 n] w fun e w' => e = .returned (.tuple #[.bool (fo n).rd, .bool ((fo n).rd && (fo n).bi)]) ∧ Below w.heap.size w w' := by
  have HW := Lib.hid hw
  obtain ⟨f, hf⟩ : ∃ f, f = fo n := ⟨_, rfl⟩
  rw [← hf]
  have HF := Lib.hid hf
  clear hf hw
  obtain ⟨rd, wt, bi, q, le, mo, co, tq⟩ := f
  go_enter Try.func37, Try.ntmps37
  go_wp2_with fail
  refine (forms_any _).mono ?_
  rintro e w1 ⟨m, rfl, hm, hb⟩
  have hk := look_f hm HW.out
  have hb2 := Lib.hid (fun o => hb.alloc hb.size o)
  clear hm hb
  rw [← HF.out] at hk
  simp only [fv] at hk
  clear HF
  cases rd <;> cases bi
  all_goals
    go_wp2_with fail
    go_region
    all_goals
      go_wp2_with fail
      go_ret2
      exact ⟨rfl, (hb2.out _).drew⟩
end Go.Proofs.Ytdolgpogjnfpkaa
