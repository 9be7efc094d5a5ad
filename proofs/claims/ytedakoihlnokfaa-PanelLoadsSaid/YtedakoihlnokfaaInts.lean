/- Rows of int; frames by lists of blocks. -/
import Derived.Test.YtedakoihlnokfaaBase
import Derived.Test.YtedakoihlnokfaaStructs
import Derived.Maps.AppendAt
import Derived.Laws.AppendOwnNone
import Derived.WalkSmall
import Derived.WalkSpells
import Derived.Lib.LazyBuf
import Derived.Deep.QuietTactic
import Derived.BigQuiet
namespace Go.Proofs.Ytedakoihlnokfaa
set_option linter.unusedVariables false
open Go.ChangeShapes Go.WideShapes Go.ChangeAt Go.RowKit

theorem wf_i64 {n : Int} (h1 : -9223372036854775808 ≤ n) (h2 : n ≤ 9223372036854775807) : (Lit.int .i64 n).wf = true := by
  simp [Lit.wf, IntKind.min, IntKind.max, IntKind.signed, IntKind.bits]; omega
theorem blk_lt {w : World} {r : Nat} {o : Obj} (h : w.heap[r]? = some o) : r < w.heap.size := by
  rcases Nat.lt_or_ge r w.heap.size with h' | h'
  · exact h'
  · simp [Array.getElem?_eq_none h'] at h
theorem alloc_b (w : World) (o : Obj) : Below w.heap.size w (w.alloc o) := (Below.refl _ _).alloc (Nat.le_refl _) _
theorem set_block {w : World} {g : Nat} {cs : Array Value} {t : TypeId} (h : w.heap[g]? = some (.cells cs t (0, 0))) (i : Nat) (u : Value) : (w.setCell ⟨g, i, none⟩ u).heap[g]? = some (.cells (cs.setIfInBounds i u) t (0, 0)) := by
  simp [World.setCell, Array.getElem?_modify, h]

def iv (L : List Int) : List Value := L.map fun n : Int => Value.int .i64 n
theorem iv_len (L : List Int) : (iv L).length = L.length := by simp [iv]
theorem iv_one (L : List Int) : ∀ v ∈ iv L, v.oneCell' = true := by
  intro v hv; simp [iv] at hv; obtain ⟨a, _, rfl⟩ := hv; rfl
theorem iv_get (L : List Int) (i : Nat) (h : i < L.length) : (iv L)[i]? = some (.int .i64 (L.getD i 0)) := by
  simp [iv, List.getElem?_map, List.getElem?_eq_getElem h, List.getD]

/-- Numbers that came in, or that the call owns: L. -/
structure Ir (W : World) (a : Option Addr) (n : Nat) (L : List Int) : Prop where
  ln : L.length = n
  le : n ≤ maxLen
  wf : ∀ x ∈ L, (Lit.int .i64 x).wf = true
  at' : n = 0 ∨ ∃ b off, a = some ⟨b, off, none⟩ ∧ b < W.heap.size ∧ ∀ i, i < n → W.cell? ⟨b, off + i, none⟩ = some (.int .i64 (L.getD i 0))
theorem Ir.pos {W : World} {a : Option Addr} {n : Nat} {L : List Int} (h : Ir W a n L) (hp : 0 < n) : ∃ b off, a = some ⟨b, off, none⟩ ∧ b < W.heap.size ∧ ∀ i, i < n → W.cell? ⟨b, off + i, none⟩ = some (.int .i64 (L.getD i 0)) := by
  rcases h.at' with z | z
  · omega
  · exact z
theorem Ir.nil (W : World) (a : Option Addr) : Ir W a 0 [] := ⟨rfl, Nat.zero_le _, by simp, .inl rfl⟩
theorem Ir.below {W W' : World} {a : Option Addr} {n : Nat} {L : List Int} (h : Ir W a n L) (hb : Below W.heap.size W W') : Ir W' a n L := by
  refine ⟨h.ln, h.le, h.wf, ?_⟩
  rcases h.at' with z | ⟨b, off, e, hlt, hc⟩
  · exact .inl z
  · exact .inr ⟨b, off, e, Nat.lt_of_lt_of_le hlt hb.size, fun i hi => (hb.cell (p := ⟨b, off + i, none⟩) hlt).trans (hc i hi)⟩
theorem getD_wf {L : List Int} (h : ∀ x ∈ L, (Lit.int .i64 x).wf = true) (i : Nat) : (Lit.int .i64 (L.getD i 0)).wf = true := by
  simp only [List.getD]
  by_cases hi : i < L.length
  · rw [List.getElem?_eq_getElem hi]; exact h _ (List.getElem_mem hi)
  · rw [List.getElem?_eq_none (by omega)]; decide

/-- Nothing but these blocks has turned. -/
structure Fs (l : List Nat) (w w' : World) : Prop where
  os : w'.os = w.os
  tape : w'.tape = w.tape
  output : w'.output = w.output
  size : w.heap.size ≤ w'.heap.size
  block : ∀ k, k < w.heap.size → k ∉ l → w'.heap[k]? = w.heap[k]?
theorem Fs.of_below {l : List Nat} {w w' : World} (h : Below w.heap.size w w') : Fs l w w' := ⟨h.os, h.tape, h.output, h.size, fun k hk _ => h.block k hk⟩
theorem Fs.refl (l : List Nat) (w : World) : Fs l w w := Fs.of_below (Below.refl _ _)
theorem Fs.below {l : List Nat} {B : Nat} {w w' : World} (h : Fs l w w') (hB : ∀ x ∈ l, B ≤ x) (hs : B ≤ w.heap.size) : Below B w w' :=
  ⟨h.os, h.tape, h.output, h.size, fun k hk => h.block k (by omega) (fun q => by have := hB k q; omega)⟩
theorem Fs.trans {l : List Nat} {a b c : World} (h : Fs l a b) (h' : Fs l b c) : Fs l a c :=
  ⟨h'.os.trans h.os, h'.tape.trans h.tape, h'.output.trans h.output, Nat.le_trans h.size h'.size, fun k hk h1 => (h'.block k (Nat.lt_of_lt_of_le hk h.size) h1).trans (h.block k hk h1)⟩
theorem Fs.mono {l l' : List Nat} {w w' : World} (h : Fs l w w') (hl : ∀ x ∈ l, x ∈ l') : Fs l' w w' := ⟨h.os, h.tape, h.output, h.size, fun k hk h1 => h.block k hk (fun q => h1 (hl k q))⟩
theorem Fs.set (w : World) (g k : Nat) (v : Value) : Fs [g] w (w.setCell ⟨g, k, none⟩ v) :=
  ⟨rfl, rfl, rfl, by simp [World.setCell], fun j _ hj => Below.heap_setCell _ _ _ _ (fun e => hj (by simp at e; simp [e]))⟩

theorem Fs.drew {l : List Nat} {w w' : World} (h : Fs l w w') : Fs l w w'.drew := ⟨h.os, h.tape, h.output, h.size, h.block⟩
theorem Ir.hop {W W' : World} {a : Option Addr} {n : Nat} {L : List Int} (h : Ir W a n L) (hs : W.heap.size ≤ W'.heap.size) (hne : ∀ b off, a = some ⟨b, off, none⟩ → 0 < n → W'.heap[b]? = W.heap[b]?) : Ir W' a n L := by
  refine ⟨h.ln, h.le, h.wf, ?_⟩
  rcases h.at' with z | ⟨b, off, e, hlt, hc⟩
  · exact .inl z
  · by_cases h0 : n = 0
    · exact .inl h0
    · exact .inr ⟨b, off, e, Nat.lt_of_lt_of_le hlt hs, fun i hi => (World.cell?_of_block (a := ⟨b, off + i, none⟩) (hne b off e (by omega))).trans (hc i hi)⟩
theorem low_of {A B : World} {k : Nat} {o : Obj} (h : Below A.heap.size A B) (hk : A.heap[k]? = some o) : B.heap[k]? = some o := (h.block k (blk_lt hk)).trans hk
theorem info3 : (Try.prog.info? 3).map (fun i => (i.zero, i.size, i.bytes)) = some (some (.int .i64 0), 1, 8) := by kernel_rfl
theorem addr_at (b off n : Nat) : (Addr.mk b off none).add n = ⟨b, off + n, none⟩ := by
  by_cases h : n = 0
  · subst h; simp [Addr.add]
  · simp [Addr.add, h]
theorem iv_app (L M : List Int) : iv (L ++ M) = iv L ++ iv M := by simp [iv]
structure ArgI (w : World) (a : Option Addr) (n c : Nat) (L : List Int) : Prop where
  row : Ir w a n L
  nil : a = none → n = 0 ∧ c = 0
  le : n ≤ c
  mx : c ≤ maxLen
theorem ArgI.below {W w : World} {a : Option Addr} {n c : Nat} {L : List Int} (h : ArgI W a n c L) (hb : Below W.heap.size W w) : ArgI w a n c L := ⟨h.row.below hb, h.nil, h.le, h.mx⟩

/-- Numbers behind a row that the call owns. -/
theorem wpList_append_ir (T e : TypeId) (hT : Try.prog.underlying T = some (.slice e)) (hinf : (Try.prog.info? e).map (fun i => (i.zero, i.size, i.bytes)) = some (some (.int .i64 0), 1, 8)) {ops : Array Oper} {rest : List Oper} {o : Oper} {ac : Act} {Q : Exit → Act → World → Prop} (hgd : o.guard = none) (s x : Operand)
    (ho : o.op = .call { callee := .builtin .append, args := #[s, x], argTypes := #[T, T] }) (B : Nat) (w : World) (hB : B ≤ w.heap.size) (v : Value) (n : Nat) (L : List Int) (hs : ac.eval s = v)
    (hown : w.ownsRow B e 1 v n (iv L)) (a : Option Addr) (len cap : Nat) (M : List Int) (hx : ac.eval x = .slice a len cap) (hb : Ir w a len M) (hnil : a = none → cap = 0) (hle : (n + len) * 8 ≤ 140737488355328)
    (h : ∀ v' w', w'.ownsRow B e 1 v' (n + len) (iv (L ++ M)) → w.grownBy w' v.ownBlock → (v' = .slice none 0 0 ↔ v = .slice none 0 0 ∧ len = 0) → (v'.ownBlock = v.ownBlock ∨ v'.ownBlock = some w.heap.size) → wpList Try.prog ops Q rest (ac.put o.dst v') w') :
    wpList Try.prog ops Q (o :: rest) ac w := by
  obtain ⟨ti, hi, hz0, hz1, hz2⟩ := info_parts hinf
  cases a with
  | none =>
    obtain rfl := hnil rfl
    have h0 : len = 0 := by
      rcases hb.at' with z | ⟨_, _, e, _⟩
      · exact z
      · cases e
    subst h0
    have hM : M = [] := List.eq_nil_of_length_eq_zero hb.ln
    subst hM
    refine wpList_append_own_none hgd s x T ho B e ti 1 hT hi _ n (iv L) hs hown hx ?_
    exact h v w (by simpa using hown) ⟨rfl, rfl, rfl, Nat.le_refl _, fun _ _ _ => rfl⟩ (by simp) (.inl rfl)
  | some ad =>
    have hc : ∀ j u, (iv M)[j]? = some u → w.cell? (ad.add j) = some u := by
      intro j u hu
      have hj : j < len := by
        have := (List.getElem?_eq_some_iff.1 hu).1
        rwa [iv_len, hb.ln] at this
      obtain ⟨b, off, ha, _, hcc⟩ := hb.pos (by omega)
      simp at ha
      subst ha
      rw [iv_get M j (by rw [hb.ln]; exact hj)] at hu
      rw [addr_at, ← hu]
      exact hcc j hj
    refine wpList_append_own_at _ hgd s x T ho B e ti (.int .i64 0) 1 8 hT hi hz0 hz1 hz2 rfl (by decide) v n (iv L) hs hown ad len cap (iv M) hx (by rw [iv_len, hb.ln]; omega) hc (iv_one _) (by unfold maxLen; omega) hle hB ?_
    intro v' w' hown' hg hnn hbk
    exact h v' w' (by rw [iv_app]; exact hown') hg hnn hbk
theorem own_ir {B : Nat} {w : World} {e : TypeId} {v : Value} {n : Nat} {L : List Int} (h : w.ownsRow B e 1 v n (iv L)) (hw : ∀ x ∈ L, (Lit.int .i64 x).wf = true) : ∃ a c, v = .slice a n c ∧ ArgI w a n c L ∧ ∀ b off, a = some ⟨b, off, none⟩ → B ≤ b := by
  obtain ⟨hl, ⟨hv, h0⟩ | ⟨g, cap, cur, hv, hg, hb, hl', hm, hs, ht⟩⟩ := h
  · subst h0
    have : L = [] := List.eq_nil_of_length_eq_zero (by simpa [iv_len] using hl)
    subst this
    exact ⟨none, 0, hv, ⟨Ir.nil _ _, fun _ => ⟨rfl, rfl⟩, Nat.le_refl _, Nat.zero_le _⟩, (fun b off e => by cases e)⟩
  · have hn : L.length = n := by simpa [iv_len] using hl
    refine ⟨_, cap, hv, ⟨⟨hn, by omega, hw, .inr ⟨g, 0, rfl, blk_lt hb, fun i hi => ?_⟩⟩, (fun e => by cases e), hl', hm⟩, fun b off e => by simp only [Option.some.injEq, Addr.mk.injEq, and_true] at e; omega⟩
    have h1 : (cur.toList.take (n * 1))[i]? = (iv L)[i]? := by rw [ht]
    rw [List.getElem?_take_of_lt (by omega), iv_get L i (by omega)] at h1
    simp only [World.cell?, hb, Nat.zero_add]
    have hc : cur[i]? = some (.int .i64 (L.getD i 0)) := by rw [← Array.getElem?_toList, h1]
    simpa using hc
theorem own_newi (e : TypeId) {B : Nat} {w : World} (hB : B ≤ w.heap.size) : (w.alloc (.cells #[] e (0, 0))).ownsRow B e 1 (.slice (some ⟨w.heap.size, 0, none⟩) 0 0) 0 (iv []) :=
  ⟨rfl, .inr ⟨w.heap.size, 0, #[], rfl, hB, heap_alloc_new w _, Nat.le_refl _, Nat.zero_le _, rfl, rfl⟩⟩

theorem iv_set (L : List Int) (k : Nat) (x : Int) : (iv L).toArray.setIfInBounds k (.int .i64 x) = (iv (L.set k x)).toArray := by
  simp [iv, List.map_set]
theorem iv_cell {w : World} {g k : Nat} {L : List Int} {t : TypeId} (h : w.heap[g]? = some (.cells (iv L).toArray t (0, 0))) (hk : k < L.length) : w.cell? ⟨g, k, none⟩ = some (.int .i64 (L.getD k 0)) ∧ w.frozen? ⟨g, k, none⟩ = false := by
  constructor
  · simp only [World.cell?, h]
    have := iv_get L k hk
    simpa using this
  · simp [World.frozen?, h]

theorem made_iv (n : Nat) : (madeCells (Value.int .i64 0).cells (n * 1)) = (iv (List.replicate n 0)).toArray := by
  apply Array.ext'
  simp [madeCells, Value.cells, iv, Nat.mod_one, List.map_const']
theorem make_ir (T e : TypeId) (hT : Try.prog.underlying T = some (.slice e)) (hinf : (Try.prog.info? e).map (fun i => (i.zero, i.size, i.bytes)) = some (some (.int .i64 0), 1, 8)) (n : Nat) (hn : n * 8 ≤ 140737488355328) (w : World) : (Instr.makeSlice T (.int .i64 (n : Int)) (.int .i64 (n : Int))).run Try.prog w = .ok (.slice (some ⟨w.heap.size, 0, none⟩) n n) (w.alloc (.cells (iv (List.replicate n 0)).toArray e (0, 0))) := by
  obtain ⟨ti, hti, hz0, hz1, hz2⟩ := info_parts hinf
  have hr := run_make (P := Try.prog) w T e ti (.int .i64 0) hT hti hz0 .i64 .i64 (n : Int) (n : Int) (by omega) (Int.le_refl _) (by rw [hz2]; omega) (by omega)
  rw [hz1, Int.toNat_natCast, made_iv n] at hr
  simpa using hr
theorem iv_row {w : World} {g : Nat} {L : List Int} {t : TypeId} (h : w.heap[g]? = some (.cells (iv L).toArray t (0, 0))) (hm : L.length ≤ maxLen) (hw : ∀ x ∈ L, (Lit.int .i64 x).wf = true) : Ir w (some ⟨g, 0, none⟩) L.length L :=
  ⟨rfl, hm, hw, .inr ⟨g, 0, rfl, blk_lt h, fun i hi => by have := (iv_cell h hi).1; simpa using this⟩⟩
theorem same_len {L M : List Int} (h : L.length ≠ M.length) : decide (L = M) = false := by
  rw [decide_eq_false_iff_not]; intro e; rw [e] at h; exact h rfl
theorem same_at {L M : List Int} {k : Nat} (h : ¬ L.getD k 0 = M.getD k 0) : decide (L = M) = false := by
  rw [decide_eq_false_iff_not]; intro e; rw [e] at h; exact h rfl
theorem same_all {L M : List Int} (h : L.length = M.length) (hh : ∀ j, j < L.length → L.getD j 0 = M.getD j 0) : decide (L = M) = true := by
  rw [decide_eq_true_iff]
  apply List.ext_getElem h
  intro i h1 h2
  have := hh i h1
  simpa [List.getD, List.getElem?_eq_getElem h1, List.getElem?_eq_getElem h2] using this
end Go.Proofs.Ytedakoihlnokfaa
