/- Rows of int64; a table of bypasses; what it answers. -/
import Derived.Test.YtfloceoopjokcaaIMap
import Derived.Test.YtfloceoopjokcaaStructs
import Derived.Maps.AppendAt
import Derived.Laws.AppendOwnNone
import Derived.WalkSmall
namespace Go.Proofs.Ytfloceoopjokcaa
set_option linter.unusedVariables false
open Go.ChangeShapes Go.WideShapes Go.ChangeAt Go.RowKit

theorem wf_i64 {n : Int} (h1 : -9223372036854775808 ≤ n) (h2 : n ≤ 9223372036854775807) : (Lit.int .i64 n).wf = true := by
  simp [Lit.wf, IntKind.min, IntKind.max, IntKind.signed, IntKind.bits]; omega
theorem blk_lt {w : World} {r : Nat} {o : Obj} (h : w.heap[r]? = some o) : r < w.heap.size := by
  rcases Nat.lt_or_ge r w.heap.size with h' | h'
  · exact h'
  · simp [Array.getElem?_eq_none h'] at h
def iv (L : List Int) : List Value := L.map fun n : Int => Value.int .i64 n
theorem iv_len (L : List Int) : (iv L).length = L.length := by simp [iv]
theorem iv_one (L : List Int) : ∀ v ∈ iv L, v.oneCell' = true := by
  intro v hv; simp [iv] at hv; obtain ⟨a, _, rfl⟩ := hv; rfl
theorem iv_get (L : List Int) (i : Nat) (h : i < L.length) : (iv L)[i]? = some (.int .i64 (L.getD i 0)) := by
  simp [iv, List.getElem?_map, List.getElem?_eq_getElem h, List.getD]

/-- Numbers that came in, or that the call owns: L. -/
structure Ir (W : World) (a : Option Addr) (n : Nat) (L : List Int) : Prop where
  ln : L.length = n
  le : n ≤ maxLen
  wf : ∀ x ∈ L, (Lit.int .i64 x).wf = true
  at' : n = 0 ∨ ∃ b off, a = some ⟨b, off, none⟩ ∧ b < W.heap.size ∧ ∀ i, i < n → W.cell? ⟨b, off + i, none⟩ = some (.int .i64 (L.getD i 0))
theorem Ir.pos {W : World} {a : Option Addr} {n : Nat} {L : List Int} (h : Ir W a n L) (hp : 0 < n) : ∃ b off, a = some ⟨b, off, none⟩ ∧ b < W.heap.size ∧ ∀ i, i < n → W.cell? ⟨b, off + i, none⟩ = some (.int .i64 (L.getD i 0)) := by
  rcases h.at' with z | z
  · omega
  · exact z
theorem Ir.nil (W : World) (a : Option Addr) : Ir W a 0 [] := ⟨rfl, Nat.zero_le _, by simp, .inl rfl⟩
theorem Ir.below {W W' : World} {a : Option Addr} {n : Nat} {L : List Int} (h : Ir W a n L) (hb : Below W.heap.size W W') : Ir W' a n L := by
  refine ⟨h.ln, h.le, h.wf, ?_⟩
  rcases h.at' with z | ⟨b, off, e, hlt, hc⟩
  · exact .inl z
  · exact .inr ⟨b, off, e, Nat.lt_of_lt_of_le hlt hb.size, fun i hi => (hb.cell (p := ⟨b, off + i, none⟩) hlt).trans (hc i hi)⟩
theorem getD_wf {L : List Int} (h : ∀ x ∈ L, (Lit.int .i64 x).wf = true) (i : Nat) : (Lit.int .i64 (L.getD i 0)).wf = true := by
  simp only [List.getD]
  by_cases hi : i < L.length
  · rw [List.getElem?_eq_getElem hi]; exact h _ (List.getElem_mem hi)
  · rw [List.getElem?_eq_none (by omega)]; decide

/-- Nothing but block m has turned. -/
structure Fr (m : Nat) (w w' : World) : Prop where
  os : w'.os = w.os
  tape : w'.tape = w.tape
  output : w'.output = w.output
  size : w.heap.size ≤ w'.heap.size
  block : ∀ k, k < w.heap.size → k ≠ m → w'.heap[k]? = w.heap[k]?
theorem Fr.of_below {m : Nat} {w w' : World} (h : Below w.heap.size w w') : Fr m w w' := ⟨h.os, h.tape, h.output, h.size, fun k hk _ => h.block k hk⟩
theorem Fr.refl (m : Nat) (w : World) : Fr m w w := Fr.of_below (Below.refl _ _)
theorem Fr.below {m B : Nat} {w w' : World} (h : Fr m w w') (hB : B ≤ m) (hs : B ≤ w.heap.size) : Below B w w' := ⟨h.os, h.tape, h.output, h.size, fun k hk => h.block k (by omega) (by omega)⟩
theorem Fr.trans {m : Nat} {a b c : World} (h : Fr m a b) (h' : Fr m b c) : Fr m a c :=
  ⟨h'.os.trans h.os, h'.tape.trans h.tape, h'.output.trans h.output, Nat.le_trans h.size h'.size, fun k hk h1 => (h'.block k (Nat.lt_of_lt_of_le hk h.size) h1).trans (h.block k hk h1)⟩
theorem Fr.turned {m : Nat} {w w' : World} (h : w.mapTurned w' m) : Fr m w w' := by
  have hg := h.grown
  exact ⟨hg.os, hg.tape, hg.output, hg.size, fun i hi hne => hg.block i hi (by intro he; cases he; exact hne rfl)⟩
theorem Ir.fr {m : Nat} {W W' : World} {a : Option Addr} {n : Nat} {L : List Int} (h : Ir W a n L) (hf : Fr m W W') (hne : ∀ b off, a = some ⟨b, off, none⟩ → 0 < n → b ≠ m) : Ir W' a n L := by
  refine ⟨h.ln, h.le, h.wf, ?_⟩
  rcases h.at' with z | ⟨b, off, e, hlt, hc⟩
  · exact .inl z
  · by_cases h0 : n = 0
    · exact .inl h0
    · exact .inr ⟨b, off, e, Nat.lt_of_lt_of_le hlt hf.size, fun i hi => (World.cell?_of_block (a := ⟨b, off + i, none⟩) (hf.block b hlt (hne b off e (by omega)))).trans (hc i hi)⟩

/-- The ends as a map holds them. -/
def Fm (E : List Int) (i : Int) : Option Value := if 0 ≤ i ∧ 0 < E.getD i.toNat 0 then some (.int .i64 (E.getD i.toNat 0)) else none
/-- Until when. -/
def unt (E : List Int) (i : Int) : Int := if 0 ≤ i then E.getD i.toNat 0 else 0
theorem Fm_unt {E : List Int} (h : ∀ x ∈ E, 0 ≤ x ∧ x ≤ 2199023255552) (i : Int) : (Fm E i).getD (.int .i64 0) = .int .i64 (unt E i) ∧ (Fm E i).isSome = decide (0 < unt E i) := by
  have hg : 0 ≤ E.getD i.toNat 0 := by
    simp only [List.getD]
    by_cases hi : i.toNat < E.length
    · rw [List.getElem?_eq_getElem hi]; exact (h _ (List.getElem_mem hi)).1
    · rw [List.getElem?_eq_none (by omega)]; decide
  unfold Fm unt
  by_cases h0 : 0 ≤ i
  · by_cases h1 : 0 < E.getD i.toNat 0
    · rw [if_pos ⟨h0, h1⟩, if_pos h0]; simpa using h1
    · rw [if_neg (fun e => h1 e.2), if_pos h0]
      have : E.getD i.toNat 0 = 0 := by omega
      rw [this]; simp
  · rw [if_neg (fun e => h0 e.1), if_neg h0]; simp
theorem unt_bd {E : List Int} (h : ∀ x ∈ E, 0 ≤ x ∧ x ≤ 2199023255552) (i : Int) : 0 ≤ unt E i ∧ unt E i ≤ 2199023255552 := by
  unfold unt
  split
  · simp only [List.getD]
    by_cases hi : i.toNat < E.length
    · rw [List.getElem?_eq_getElem hi]; exact h _ (List.getElem_mem hi)
    · rw [List.getElem?_eq_none (by omega)]; decide
  · omega

/-- A table: limits Lm, ends E; its map, block m, holds cn entries at most. -/
structure Tb (B : Nat) (w : World) (t m cn : Nat) (Lm E : List Int) : Prop where
  ht : B ≤ t
  hm : B ≤ m
  ne : t ≠ m
  ln : E.length = Lm.length
  bd : ∀ x ∈ E, 0 ≤ x ∧ x ≤ 2199023255552
  blk : ∃ la lc, w.heap[t]? = some (.cells #[.slice la Lm.length lc, .map (some m)] 52 (0, 0)) ∧ Ir w la Lm.length Lm ∧ ∀ b off, la = some ⟨b, off, none⟩ → 0 < Lm.length → b ≠ m
  map : IMap Try.prog 3 w m cn (Fm E)
theorem Tb.lt {B : Nat} {w : World} {t m cn : Nat} {Lm E : List Int} (h : Tb B w t m cn Lm E) : t < w.heap.size ∧ m < w.heap.size := by
  obtain ⟨la, lc, h1, _⟩ := h.blk
  exact ⟨blk_lt h1, h.map.lt⟩
theorem Tb.below {B : Nat} {w w' : World} {t m cn : Nat} {Lm E : List Int} (h : Tb B w t m cn Lm E) (hb : Below w.heap.size w w') : Tb B w' t m cn Lm E := by
  obtain ⟨la, lc, h1, h2, h3⟩ := h.blk
  exact ⟨h.ht, h.hm, h.ne, h.ln, h.bd, ⟨la, lc, (hb.block t (blk_lt h1)).trans h1, h2.below hb, h3⟩, h.map.below hb⟩
/-- What becomes of a table whose map has turned. -/
theorem Tb.turned {B : Nat} {w w' : World} {t m cn cn' : Nat} {Lm E E' : List Int} (h : Tb B w t m cn Lm E) (hf : Fr m w w') (hm : IMap Try.prog 3 w' m cn' (Fm E')) (hl : E'.length = Lm.length) (hb : ∀ x ∈ E', 0 ≤ x ∧ x ≤ 2199023255552) : Tb B w' t m cn' Lm E' := by
  obtain ⟨la, lc, h1, h2, h3⟩ := h.blk
  exact ⟨h.ht, h.hm, h.ne, hl, hb, ⟨la, lc, (hf.block t (blk_lt h1) h.ne).trans h1, h2.fr hf h3, h3⟩, hm⟩
theorem Tb.frame {B : Nat} {w w' : World} {t m m' cn : Nat} {Lm E : List Int} (h : Tb B w t m cn Lm E) (hf : Fr m' w w') (h1 : t ≠ m') (h2 : m ≠ m') (h3 : ∀ b off la lc, w.heap[t]? = some (.cells #[.slice la Lm.length lc, .map (some m)] 52 (0, 0)) → la = some ⟨b, off, none⟩ → 0 < Lm.length → b ≠ m') : Tb B w' t m cn Lm E := by
  obtain ⟨la, lc, q1, q2, q3⟩ := h.blk
  exact ⟨h.ht, h.hm, h.ne, h.ln, h.bd, ⟨la, lc, (hf.block t (blk_lt q1) h1).trans q1, q2.fr hf (fun b off e h0 => h3 b off la lc q1 e h0), q3⟩, h.map.same (hf.block m h.map.lt h2)⟩

theorem cells2 {w : World} {b : Nat} {t : TypeId} {x y : Value} (h : w.heap[b]? = some (.cells #[x, y] t (0, 0))) :
    w.cell? ⟨b, 0, none⟩ = some x ∧ w.cell? ⟨b, 1, none⟩ = some y ∧ w.frozen? ⟨b, 0, none⟩ = false ∧ w.frozen? ⟨b, 1, none⟩ = false := by
  simp [World.cell?, World.frozen?, h]
theorem zero2 (w : World) : (zeroValue 2).run Try.prog w = .ok (.int .i64 0) w := by kernel_rfl

theorem until_any {B : Nat} {w : World} {t m cn : Nat} {Lm E : List Int} (h : Tb B w t m cn Lm E) (i : Int) (hi : (Lit.int .i64 i).wf = true) :
    Calls Try.prog 20 #[.pointer (some ⟨t, 0, none⟩), .int .i64 i] w fun e w' => e = .returned (.int .i64 (unt E i)) ∧ w = w' := by
  obtain ⟨la, lc, h1, _⟩ := h.blk
  obtain ⟨_, c1, _, _⟩ := cells2 h1
  have hk := h.map.look (t := 50) (e := 2) Try.underlying50 Try.underlying3 (zero2 w) hi
  rw [(Fm_unt h.bd i).1] at hk
  clear h h1
  go_enter Try.func20, Try.ntmps20
  go_wp2_with fail
  go_ret
  exact ⟨rfl, rfl⟩

def isB (E : List Int) (i now : Int) : Bool := decide (0 < unt E i) && decide (now < unt E i)
theorem is_any {B : Nat} {w : World} {t m cn : Nat} {Lm E : List Int} (h : Tb B w t m cn Lm E) (i now : Int) (hi : (Lit.int .i64 i).wf = true) :
    Calls Try.prog 22 #[.pointer (some ⟨t, 0, none⟩), .int .i64 i, .int .i64 now] w fun e w' => e = .returned (.bool (isB E i now)) ∧ w = w' := by
  obtain ⟨la, lc, h1, _⟩ := h.blk
  obtain ⟨_, c1, _, _⟩ := cells2 h1
  have hk := h.map.look_ok (t := 50) (e := 2) Try.underlying50 Try.underlying3 (zero2 w) hi
  rw [(Fm_unt h.bd i).1, (Fm_unt h.bd i).2] at hk
  unfold isB
  generalize unt E i = u at hk
  clear h h1
  cases hu : decide (0 < u) with
  | false =>
    rw [hu] at hk
    clear hu
    go_enter Try.func22, Try.ntmps22
    go_wp2_with fail
    go_ret
    exact ⟨rfl, rfl⟩
  | true =>
    rw [hu] at hk
    clear hu
    go_enter Try.func22, Try.ntmps22
    go_wp2_with fail
    go_ret
    exact ⟨rfl, rfl⟩
end Go.Proofs.Ytfloceoopjokcaa
