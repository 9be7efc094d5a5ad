/- get, of each kind of request. -/
import Derived.Test.YtdolgpogjnfpkaaSv4
import Derived.Test.YtdolgpogjnfpkaaSv7
import Derived.Deep.RegionLaw
import Derived.Deep.CutRange
import Derived.Deep.DeepCutAuto
import Derived.Deep.AppendLies
namespace Go.Proofs.Ytdolgpogjnfpkaa
set_option linter.unusedVariables false
open Go.ChangeShapes Go.WideShapes Go.ChangeAt Go.RowKit

def W3 (w : World) (f : Fo) (sl : Value) : World := ((w.alloc (.cells #[.bool f.rd, .bool f.wr, .bool f.bi, .int .i64 (f.q : Int), .int .i64 (f.le : Int), .int .i64 (f.mo : Int), .bool f.co, .bool f.to] 81 (0, 0))).alloc (.cells #[.int .i64 0, .int .i64 0, .int .i64 0, .slice none 0 0, .int .i64 0] 32 (0, 0))).alloc (.cells #[sl] 33 (0, 0))
theorem w3_bel (w : World) (f : Fo) (sl : Value) : Below w.heap.size w (W3 w f sl) := (((Below.refl _ _).alloc (Nat.le_refl _) _).alloc (by simp) _).alloc (by simp; omega) _
theorem w3_mk (w : World) (f : Fo) (a : Option Addr) (n cp : Nat) (L : List Nat) (h : Bys w a n L) (hn : n ≤ cp) (hc : cp ≤ maxLen) : G3 w (W3 w f (.slice a n cp)) f L := by
  have h0 : (W3 w f (.slice a n cp)).heap[w.heap.size]? = some (.cells (fcs f).toArray 81 (0, 0)) := (heap_alloc_old _ _ (by simp; omega)).trans ((heap_alloc_old _ _ (by simp)).trans (heap_alloc_new _ _))
  have h1 : (W3 w f (.slice a n cp)).heap[w.heap.size + 1]? = some (.cells #[.int .i64 0, .int .i64 0, .int .i64 0, .slice none 0 0, .int .i64 0] 32 (0, 0)) := by
    refine (heap_alloc_old _ _ (by simp)).trans ?_
    have := heap_alloc_new (w.alloc (.cells #[.bool f.rd, .bool f.wr, .bool f.bi, .int .i64 (f.q : Int), .int .i64 (f.le : Int), .int .i64 (f.mo : Int), .bool f.co, .bool f.to] 81 (0, 0))) (.cells #[.int .i64 0, .int .i64 0, .int .i64 0, .slice none 0 0, .int .i64 0] 32 (0, 0))
    simpa using this
  have h2 : (W3 w f (.slice a n cp)).heap[w.heap.size + 2]? = some (.cells #[.slice a n cp] 33 (0, 0)) := by
    have := heap_alloc_new ((w.alloc (.cells #[.bool f.rd, .bool f.wr, .bool f.bi, .int .i64 (f.q : Int), .int .i64 (f.le : Int), .int .i64 (f.mo : Int), .bool f.co, .bool f.to] 81 (0, 0))).alloc (.cells #[.int .i64 0, .int .i64 0, .int .i64 0, .slice none 0 0, .int .i64 0] 32 (0, 0))) (.cells #[.slice a n cp] 33 (0, 0))
    rw [World.size_alloc, World.size_alloc] at this
    exact this
  refine ⟨h0, h1, ⟨a, n, cp, h2, h.below (w3_bel _ _ _), hn, hc, fun b off e h0 => ?_⟩, by simp [W3], w3_bel _ _ _⟩
  obtain ⟨b', off', e', hb', _⟩ := h.pos h0
  rw [e] at e'; simp only [Option.some.injEq, Addr.mk.injEq, and_true] at e'; omega
structure Iz (W w' : World) : Prop where
  h : w'.heap[W.heap.size]? = some (.cells #[.int .i64 0, .int .i64 0, .int .i64 0, .slice none 0 0, .int .i64 0] 32 (0, 0))
theorem Iz.step {W w' w5 : World} {c : Nat} (hc : ¬ W.heap.size = c) (h : Iz W w') (hf : Fs [c] w' w5) : Iz W w5 := ⟨(hf.block _ (blk_lt h.h) (by simpa using hc)).trans h.h⟩
theorem iz_cells {W w5 : World} (zq : Iz W w5) :
    w5.cell? ⟨W.heap.size, 0, none⟩ = some (.int .i64 0) ∧ w5.cell? ⟨W.heap.size, 1, none⟩ = some (.int .i64 0) ∧ w5.cell? ⟨W.heap.size, 2, none⟩ = some (.int .i64 0) ∧ w5.cell? ⟨W.heap.size, 3, none⟩ = some (.slice none 0 0) ∧ w5.cell? ⟨W.heap.size, 4, none⟩ = some (.int .i64 0) ∧
    w5.frozen? ⟨W.heap.size, 0, none⟩ = false ∧ w5.frozen? ⟨W.heap.size, 1, none⟩ = false ∧ w5.frozen? ⟨W.heap.size, 2, none⟩ = false ∧ w5.frozen? ⟨W.heap.size, 3, none⟩ = false ∧ w5.frozen? ⟨W.heap.size, 4, none⟩ = false := by
  have zq : w5.heap[W.heap.size]? = some (.cells #[.int .i64 0, .int .i64 0, .int .i64 0, .slice none 0 0, .int .i64 0] 32 (0, 0)) := zq.h
  obtain ⟨z0, z1, z2, z3, z4⟩ := cells5 zq
  exact ⟨z0, z1, z2, z3, z4, froz zq, froz zq, froz zq, froz zq, froz zq⟩
def Gc (c : Nat) (W w' : World) : Prop := Fs [c] W w'
theorem Gc.al {c : Nat} {W w' : World} (o : Obj) (h : Gc c W w') : Gc c W (w'.alloc o) := Fs.trans h (Fs.of_below ((Below.refl _ _).alloc (Nat.le_refl _) _))
theorem Gc.set {c : Nat} {W w' : World} {g i : Nat} {v : Value} (h : Gc c W w') (hg : W.heap.size ≤ g) : Gc c W (w'.setCell ⟨g, i, none⟩ v) :=
  ⟨h.os, h.tape, h.output, Nat.le_trans h.size (by simp [World.setCell]), fun k hk hl => (Below.heap_setCell _ _ _ _ (show k ≠ g by omega)).trans (h.block k hk hl)⟩
theorem set5_cell {w5 : World} {r b o : Nat} (h : ¬ b = r) (v0 v1 v2 v3 v4 : Value) : (((((w5.setCell ⟨r, 0, none⟩ v0).setCell ⟨r, 1, none⟩ v1).setCell ⟨r, 2, none⟩ v2).setCell ⟨r, 3, none⟩ v3).setCell ⟨r, 4, none⟩ v4).cell? ⟨b, o, none⟩ = w5.cell? ⟨b, o, none⟩ :=
  World.cell?_of_block (a := ⟨b, o, none⟩) ((((((Below.heap_setCell _ _ _ _ h).trans (Below.heap_setCell _ _ _ _ h)).trans (Below.heap_setCell _ _ _ _ h)).trans (Below.heap_setCell _ _ _ _ h)).trans (Below.heap_setCell _ _ _ _ h)))
theorem Gc.step {c : Nat} {W w' w'' : World} (h : Gc c W w') (h2 : Fs [c] w' w'') : Gc c W w'' := Fs.trans h h2
theorem gc_cell {c : Nat} {W w' : World} {b o : Nat} {v : Value} (h : Gc c W w') (hb : b < W.heap.size) (hc : ¬ b = c) (hv : W.cell? ⟨b, o, none⟩ = some v) : w'.cell? ⟨b, o, none⟩ = some v :=
  (World.cell?_of_block (a := ⟨b, o, none⟩) (Fs.block h b hb (by simpa using hc))).trans hv
theorem gs_a {w W w5 : World} {f : Fo} {R0 M : List Nat} {v0 v1 v2 v3 v4 : Value} (h : G3 w W f R0) (hl : Left w5 (w.heap.size + 2) M) (hf : Gc (w.heap.size + 2) W w5) (hz : w5.heap.size = w.heap.size + 3) : Gs w (w5.alloc (.cells #[v0, v1, v2, v3, v4] 32 (0, 0))) f M [v0, v1, v2, v3, v4] :=
  G3.after h (Gc.al _ hf) (hl.keep (by simp) (fun b hb => heap_alloc_old _ _ (by omega))) (by rw [← hz]; exact heap_alloc_new _ _)
theorem gs_b {w W w5 : World} {f : Fo} {R0 M : List Nat} {v0 v1 v2 v3 v4 : Value} (h : G3 w W f R0) (hl : Left w5 (w.heap.size + 2) M) (hf : Gc (w.heap.size + 2) W w5) (zz : Iz W w5) : Gs w (((((w5.setCell ⟨w.heap.size + 3, 0, none⟩ v0).setCell ⟨w.heap.size + 3, 1, none⟩ v1).setCell ⟨w.heap.size + 3, 2, none⟩ v2).setCell ⟨w.heap.size + 3, 3, none⟩ v3).setCell ⟨w.heap.size + 3, 4, none⟩ v4) f M [v0, v1, v2, v3, v4] := by
  have hz := h.2.2.2.1
  have hh := zz.h
  rw [hz] at hh
  have hs : ∀ (A : World) (i : Nat) (v : Value), A.heap.size = (A.setCell ⟨w.heap.size + 3, i, none⟩ v).heap.size := by intro A i v; simp [World.setCell]
  have hst : ∀ (A : World) (i : Nat) (v : Value), Gc (w.heap.size + 2) W A → Gc (w.heap.size + 2) W (A.setCell ⟨w.heap.size + 3, i, none⟩ v) := fun A i v hA => Gc.set hA (by omega)
  have hk : ∀ (A : World) (i : Nat) (v : Value), Left A (w.heap.size + 2) M → Left (A.setCell ⟨w.heap.size + 3, i, none⟩ v) (w.heap.size + 2) M := fun A i v hA => hA.keep (by simp [World.setCell]) (fun b hb => Below.heap_setCell _ _ _ _ (show b ≠ w.heap.size + 3 by omega))
  refine G3.after h (hst _ _ _ (hst _ _ _ (hst _ _ _ (hst _ _ _ (hst _ _ _ hf))))) (hk _ _ _ (hk _ _ _ (hk _ _ _ (hk _ _ _ (hk _ _ _ hl))))) ?_
  simp [World.setCell, Array.getElem?_modify, hh]
theorem fs_alloc (l : List Nat) (w : World) (o : Obj) : Fs l w (w.alloc o) := Fs.of_below ((Below.refl _ _).alloc (Nat.le_refl _) _)

theorem Gs.fc {w W : World} {rd wr bi : Bool} {fq le mo : Nat} {co tq : Bool} {L : List Nat} {qc : List Value} (h : Gs w W ⟨rd, wr, bi, fq, le, mo, co, tq⟩ L qc) : W.cell? ⟨w.heap.size, 2, none⟩ = some (.bool bi) ∧ W.cell? ⟨w.heap.size, 3, none⟩ = some (.int .i64 (fq : Int)) ∧ W.cell? ⟨w.heap.size, 5, none⟩ = some (.int .i64 (mo : Int)) ∧ W.cell? ⟨w.heap.size, 6, none⟩ = some (.bool co) ∧ W.cell? ⟨w.heap.size, 7, none⟩ = some (.bool tq) := by
  obtain ⟨_, _, f2, f3, _, f5, f6, f7⟩ := h.fcells
  exact ⟨f2, f3, f5, f6, f7⟩
theorem gs_grow {w W W1 : World} {f : Fo} {L : List Nat} {qc : List Value} {o : Obj} {v : Value} {n : Nat} {M : List Value} (h : Gs w W f L qc) (ho : (W.alloc o).ownsRow (w.heap.size + 4) 34 1 v n M) (hg : (W.alloc o).grownBy W1 v.ownBlock) : Gs w W1 f L qc := by
  have hb : ∀ k, k < w.heap.size + 4 → W1.heap[k]? = W.heap[k]? := by
    intro k hk
    have hlt : k < W.heap.size := by have := blk_lt h.2.2.2.1; omega
    refine (hg.block k (by simp; omega) (fun e => ?_)).trans (heap_alloc_old _ _ hlt)
    have := (ho.lt k e.symm).1
    omega
  obtain ⟨h1, h2, h3, h4, h5⟩ := h
  have hs : W.heap.size ≤ W1.heap.size := Nat.le_trans (by simp) hg.size
  refine ⟨(hb _ (by omega)).trans h1, (hb _ (by omega)).trans h2, h3.keep hs (fun b hb' => hb b (by omega)), (hb _ (by omega)).trans h4, ?_⟩
  exact h5.trans ((((Below.refl w.heap.size W).alloc h5.size o)).grown hg (by have := h5.size; simp; omega) (fun q hq => by have := (ho.lt q hq).1; omega))
theorem set5_blk {w5 : World} {r b : Nat} (h : b ≠ r) (v0 v1 v2 v3 v4 : Value) : (((((w5.setCell ⟨r, 0, none⟩ v0).setCell ⟨r, 1, none⟩ v1).setCell ⟨r, 2, none⟩ v2).setCell ⟨r, 3, none⟩ v3).setCell ⟨r, 4, none⟩ v4).heap[b]? = w5.heap[b]? :=
  ((((Below.heap_setCell _ _ _ _ h).trans (Below.heap_setCell _ _ _ _ h)).trans (Below.heap_setCell _ _ _ _ h)).trans (Below.heap_setCell _ _ _ _ h)).trans (Below.heap_setCell _ _ _ _ h)
theorem set5_bel {w w5 : World} {B r : Nat} (h : Below B w w5) (hr : B ≤ r) (v0 v1 v2 v3 v4 : Value) : Below B w (((((w5.setCell ⟨r, 0, none⟩ v0).setCell ⟨r, 1, none⟩ v1).setCell ⟨r, 2, none⟩ v2).setCell ⟨r, 3, none⟩ v3).setCell ⟨r, 4, none⟩ v4) :=
  ((((h.setCell hr _).setCell hr _).setCell hr _).setCell hr _).setCell hr _
theorem step_word {ops : Array Oper} {o : Oper} {a : Act} {K : Act → World → Prop} {Q : Exit → Act → World → Prop} {E : Prop} (hgd : o.guard = none) (t : Tmp)
    (ho : o.op = .call { callee := .value (.tmp t), args := #[], argTypes := #[] }) (w : World) (p : Value) (hf : a.eval (.tmp t) = .func (.func 69) #[] #[p]) (Post : Ending → World → Prop) (hc : Calls Try.prog 69 #[p] w Post)
    (h : ∀ e w', Post e w' → ∃ v, e = .returned v ∧ K (a.put o.dst v) w') :
    if Region.wanted o (yielded ops a.tmps) = true then Oper.wp Try.prog o a w K Q else E := by
  have hw : Region.wanted o (yielded ops a.tmps) = true := by simp [Region.wanted, hgd]
  rw [if_pos hw]
  unfold Oper.wp
  simp [execOp, ho, resolve, invoke, hf]
  simp [go_sem]
  refine hc.mono (fun e w' hp => ?_)
  obtain ⟨v, rfl, hk⟩ := h e w' hp
  exact hk
theorem Left.drop1 {w : World} {c : Nat} {L : List Nat} (h : Left w c L) : (L = [] ∧ ∃ a cap, w.cell? ⟨c, 0, none⟩ = some (.slice a 0 cap)) ∨ (0 < L.length ∧ ∃ b off cap, w.cell? ⟨c, 0, none⟩ = some (.slice (some ⟨b, off, none⟩) L.length cap) ∧ L.length ≤ cap ∧ cap ≤ 9223372036854775807 ∧ (cap = 1 → Left (w.setCell ⟨c, 0, none⟩ (.slice (some ⟨b, off, none⟩) 0 0)) c (L.drop 1)) ∧ Left (w.setCell ⟨c, 0, none⟩ (.slice (some ⟨b, off + 1, none⟩) (L.length - 1) (cap - 1))) c (L.drop 1)) := by
  obtain ⟨a, n, cap, h1, h2, h3, h4, h5⟩ := h
  have hln := h2.ln
  subst hln
  have k1 : w.cell? ⟨c, 0, none⟩ = some (.slice a L.length cap) := by simp [World.cell?, h1]
  by_cases h0 : L.length = 0
  · left
    have e := List.eq_nil_of_length_eq_zero h0
    subst e
    exact ⟨rfl, a, cap, k1⟩
  · right
    obtain ⟨b, off, rfl, hlt, hc⟩ := h2.pos (by omega)
    have hbc := h5 b off rfl (by omega)
    have hne : ∀ (v : Value), (w.setCell ⟨c, 0, none⟩ v).heap[b]? = w.heap[b]? := fun v => Below.heap_setCell _ _ _ _ (show b ≠ c by omega)
    have hsz : ∀ (v : Value), w.heap.size ≤ (w.setCell ⟨c, 0, none⟩ v).heap.size := fun v => by simp [World.setCell]
    refine ⟨by omega, b, off, cap, k1, h3, by unfold maxLen at h4; omega, fun hcc => ?_, ?_⟩
    · refine ⟨some ⟨b, off, none⟩, 0, 0, set_one h1 _, ?_, Nat.le_refl _, Nat.zero_le _, fun b' off' e hp => by omega⟩
      rw [List.drop_of_length_le (by omega)]
      exact Bys.nil _ _
    · refine ⟨some ⟨b, off + 1, none⟩, L.length - 1, cap - 1, set_one h1 _, ?_, by omega, by omega, fun b' off' e hp => by simp only [Option.some.injEq, Addr.mk.injEq] at e; omega⟩
      have hs := h2.sub 1 (L.length - 1) (by omega)
      rw [List.take_of_length_le (by rw [List.length_drop]; omega)] at hs
      refine hs.hop (hsz _) (fun b' off' e hp => ?_)
      simp only [Option.some.injEq, Addr.mk.injEq] at e
      rw [← e.1]
      exact hne _
theorem own33_keep {B : Nat} {w w' : World} {v : Value} {n : Nat} {L : List Value} (h : w.ownsRow B 34 1 v n L) (hb : ∀ k, B ≤ k → k < w.heap.size → w'.heap[k]? = w.heap[k]?) : w'.ownsRow B 34 1 v n L := by
  obtain ⟨hl, q | ⟨g, cap, cur, hv, hg, hbk, r⟩⟩ := h
  · exact ⟨hl, .inl q⟩
  · exact ⟨hl, .inr ⟨g, cap, cur, hv, hg, (hb g hg (blk_lt hbk)).trans hbk, r⟩⟩
theorem own33_arg {B : Nat} {w : World} {v : Value} {L : List Nat} (h : w.ownsRow B 34 1 v L.length (wv L)) (hb : ∀ b ∈ L, b < 65536) : ∃ a c, v = .slice a L.length c ∧ ArgW w a L.length c L ∧ ∀ b off, a = some ⟨b, off, none⟩ → B ≤ b := by
  rcases h.2 with ⟨hv, h0⟩ | ⟨g, cap, cur, hv, hg, hbk, hl, hm, r⟩
  · have hl : L = [] := List.eq_nil_of_length_eq_zero h0
    subst hl
    exact ⟨none, 0, hv, ⟨Wds.nil _ _, fun _ => ⟨rfl, rfl⟩, Nat.le_refl _, Nat.zero_le _⟩, fun b off e => by cases e⟩
  · have ho : OwnW B w g cap L.length L := ⟨h.1, .inr ⟨g, cap, cur, rfl, hg, hbk, hl, hm, r⟩⟩
    exact ⟨_, cap, hv, ⟨ho.wds hb, (fun e => by cases e), hl, hm⟩, fun b off e => by simp only [Option.some.injEq, Addr.mk.injEq, and_true] at e; omega⟩
theorem W2_len (L : List Nat) : (W2 L).length ≤ L.length := by
  unfold W2 wordL
  split
  · simp
  · simp

end Go.Proofs.Ytdolgpogjnfpkaa
