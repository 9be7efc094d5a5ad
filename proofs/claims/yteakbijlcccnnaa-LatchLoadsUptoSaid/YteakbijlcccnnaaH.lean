/- Rows of numbers; New. -/
import Derived.Test.YteakbijlcccnnaaG
import Derived.Laws.MakeOwn
namespace Go.Proofs.Yteakbijlcccnnaa
set_option linter.unusedVariables false
open Go.ChangeShapes Go.WideShapes Go.ChangeAt Go.RowKit

def iv (L : List Int) : List Value := L.map fun n : Int => Value.int .i64 n
theorem iv_len (L : List Int) : (iv L).length = L.length := by simp [iv]
theorem iv_one (L : List Int) : ∀ v ∈ iv L, v.oneCell' = true := by
  intro v hv; simp [iv] at hv; obtain ⟨a, _, rfl⟩ := hv; rfl
theorem iv_get (L : List Int) (i : Nat) (h : i < L.length) : (iv L)[i]? = some (.int .i64 (L.getD i 0)) := by
  simp [iv, List.getElem?_map, List.getElem?_eq_getElem h, List.getD]

/-- Numbers that came in, or that the call owns: L. -/
structure Ir (W : World) (a : Option Addr) (n : Nat) (L : List Int) : Prop where
  ln : L.length = n
  le : n ≤ maxLen
  wf : ∀ x ∈ L, (Lit.int .i64 x).wf = true
  at' : n = 0 ∨ ∃ b off, a = some ⟨b, off, none⟩ ∧ b < W.heap.size ∧ ∀ i, i < n → W.cell? ⟨b, off + i, none⟩ = some (.int .i64 (L.getD i 0))
theorem Ir.pos {W : World} {a : Option Addr} {n : Nat} {L : List Int} (h : Ir W a n L) (hp : 0 < n) : ∃ b off, a = some ⟨b, off, none⟩ ∧ b < W.heap.size ∧ ∀ i, i < n → W.cell? ⟨b, off + i, none⟩ = some (.int .i64 (L.getD i 0)) := by
  rcases h.at' with z | z
  · omega
  · exact z
theorem Ir.nil (W : World) (a : Option Addr) : Ir W a 0 [] := ⟨rfl, Nat.zero_le _, by simp, .inl rfl⟩
theorem Ir.below {W W' : World} {a : Option Addr} {n : Nat} {L : List Int} (h : Ir W a n L) (hb : Below W.heap.size W W') : Ir W' a n L := by
  refine ⟨h.ln, h.le, h.wf, ?_⟩
  rcases h.at' with z | ⟨b, off, e, hlt, hc⟩
  · exact .inl z
  · exact .inr ⟨b, off, e, Nat.lt_of_lt_of_le hlt hb.size, fun i hi => (hb.cell (p := ⟨b, off + i, none⟩) hlt).trans (hc i hi)⟩
theorem getD_wf {L : List Int} (h : ∀ x ∈ L, (Lit.int .i64 x).wf = true) (i : Nat) : (Lit.int .i64 (L.getD i 0)).wf = true := by
  simp only [List.getD]
  by_cases hi : i < L.length
  · rw [List.getElem?_eq_getElem hi]; exact h _ (List.getElem_mem hi)
  · rw [List.getElem?_eq_none (by omega)]; decide


theorem Ir.keep {W W' : World} {a : Option Addr} {n : Nat} {L : List Int} (h : Ir W a n L) (hs : W.heap.size ≤ W'.heap.size) (hk : ∀ b off, a = some ⟨b, off, none⟩ → 0 < n → W'.heap[b]? = W.heap[b]?) : Ir W' a n L := by
  refine ⟨h.ln, h.le, h.wf, ?_⟩
  rcases h.at' with z | ⟨b, off, e, hlt, hc⟩
  · exact .inl z
  · by_cases h0 : n = 0
    · exact .inl h0
    · exact .inr ⟨b, off, e, Nat.lt_of_lt_of_le hlt hs, fun i hi => (World.cell?_of_block (a := ⟨b, off + i, none⟩) (hk b off e (by omega))).trans (hc i hi)⟩

theorem info3 : (Try.prog.info? 3).map (fun i => (i.zero, i.size, i.bytes)) = some (some (.int .i64 0), 1, 8) := by kernel_rfl
theorem addr_at (b off n : Nat) : (Addr.mk b off none).add n = ⟨b, off + n, none⟩ := by
  by_cases h : n = 0
  · subst h; simp [Addr.add]
  · simp [Addr.add, h]
theorem iv_app (L M : List Int) : iv (L ++ M) = iv L ++ iv M := by simp [iv]
structure ArgI (w : World) (a : Option Addr) (n c : Nat) (L : List Int) : Prop where
  row : Ir w a n L
  nil : a = none → n = 0 ∧ c = 0
  le : n ≤ c
  mx : c ≤ maxLen
theorem ArgI.below {W w : World} {a : Option Addr} {n c : Nat} {L : List Int} (h : ArgI W a n c L) (hb : Below W.heap.size W w) : ArgI w a n c L := ⟨h.row.below hb, h.nil, h.le, h.mx⟩

/-- Numbers behind a row that the call owns. -/
theorem wpList_append_ir (T e : TypeId) (hT : Try.prog.underlying T = some (.slice e)) (hinf : (Try.prog.info? e).map (fun i => (i.zero, i.size, i.bytes)) = some (some (.int .i64 0), 1, 8)) {ops : Array Oper} {rest : List Oper} {o : Oper} {ac : Act} {Q : Exit → Act → World → Prop} (hgd : o.guard = none) (s x : Operand)
    (ho : o.op = .call { callee := .builtin .append, args := #[s, x], argTypes := #[T, T] }) (B : Nat) (w : World) (hB : B ≤ w.heap.size) (v : Value) (n : Nat) (L : List Int) (hs : ac.eval s = v)
    (hown : w.ownsRow B e 1 v n (iv L)) (a : Option Addr) (len cap : Nat) (M : List Int) (hx : ac.eval x = .slice a len cap) (hb : Ir w a len M) (hnil : a = none → cap = 0) (hle : (n + len) * 8 ≤ 140737488355328)
    (h : ∀ v' w', w'.ownsRow B e 1 v' (n + len) (iv (L ++ M)) → w.grownBy w' v.ownBlock → (v' = .slice none 0 0 ↔ v = .slice none 0 0 ∧ len = 0) → (v'.ownBlock = v.ownBlock ∨ v'.ownBlock = some w.heap.size) → wpList Try.prog ops Q rest (ac.put o.dst v') w') :
    wpList Try.prog ops Q (o :: rest) ac w := by
  obtain ⟨ti, hi, hz0, hz1, hz2⟩ := info_parts hinf
  cases a with
  | none =>
    obtain rfl := hnil rfl
    have h0 : len = 0 := by
      rcases hb.at' with z | ⟨_, _, e, _⟩
      · exact z
      · cases e
    subst h0
    have hM : M = [] := List.eq_nil_of_length_eq_zero hb.ln
    subst hM
    refine wpList_append_own_none hgd s x T ho B e ti 1 hT hi _ n (iv L) hs hown hx ?_
    exact h v w (by simpa using hown) ⟨rfl, rfl, rfl, Nat.le_refl _, fun _ _ _ => rfl⟩ (by simp) (.inl rfl)
  | some ad =>
    have hc : ∀ j u, (iv M)[j]? = some u → w.cell? (ad.add j) = some u := by
      intro j u hu
      have hj : j < len := by
        have := (List.getElem?_eq_some_iff.1 hu).1
        rwa [iv_len, hb.ln] at this
      obtain ⟨b, off, ha, _, hcc⟩ := hb.pos (by omega)
      simp at ha
      subst ha
      rw [iv_get M j (by rw [hb.ln]; exact hj)] at hu
      rw [addr_at, ← hu]
      exact hcc j hj
    refine wpList_append_own_at _ hgd s x T ho B e ti (.int .i64 0) 1 8 hT hi hz0 hz1 hz2 rfl (by decide) v n (iv L) hs hown ad len cap (iv M) hx (by rw [iv_len, hb.ln]; omega) hc (iv_one _) (by unfold maxLen; omega) hle hB ?_
    intro v' w' hown' hg hnn hbk
    exact h v' w' (by rw [iv_app]; exact hown') hg hnn hbk
theorem own_ir {B : Nat} {w : World} {e : TypeId} {v : Value} {n : Nat} {L : List Int} (h : w.ownsRow B e 1 v n (iv L)) (hw : ∀ x ∈ L, (Lit.int .i64 x).wf = true) : ∃ a c, v = .slice a n c ∧ ArgI w a n c L ∧ ∀ b off, a = some ⟨b, off, none⟩ → B ≤ b := by
  obtain ⟨hl, ⟨hv, h0⟩ | ⟨g, cap, cur, hv, hg, hb, hl', hm, hs, ht⟩⟩ := h
  · subst h0
    have : L = [] := List.eq_nil_of_length_eq_zero (by simpa [iv_len] using hl)
    subst this
    exact ⟨none, 0, hv, ⟨Ir.nil _ _, fun _ => ⟨rfl, rfl⟩, Nat.le_refl _, Nat.zero_le _⟩, (fun b off e => by cases e)⟩
  · have hn : L.length = n := by simpa [iv_len] using hl
    refine ⟨_, cap, hv, ⟨⟨hn, by omega, hw, .inr ⟨g, 0, rfl, blk_lt hb, fun i hi => ?_⟩⟩, (fun e => by cases e), hl', hm⟩, fun b off e => by simp only [Option.some.injEq, Addr.mk.injEq, and_true] at e; omega⟩
    have h1 : (cur.toList.take (n * 1))[i]? = (iv L)[i]? := by rw [ht]
    rw [List.getElem?_take_of_lt (by omega), iv_get L i (by omega)] at h1
    simp only [World.cell?, hb, Nat.zero_add]
    have hc : cur[i]? = some (.int .i64 (L.getD i 0)) := by rw [← Array.getElem?_toList, h1]
    simpa using hc
theorem own_newi (e : TypeId) {B : Nat} {w : World} (hB : B ≤ w.heap.size) : (w.alloc (.cells #[] e (0, 0))).ownsRow B e 1 (.slice (some ⟨w.heap.size, 0, none⟩) 0 0) 0 (iv []) :=
  ⟨rfl, .inr ⟨w.heap.size, 0, #[], rfl, hB, heap_alloc_new w _, Nat.le_refl _, Nat.zero_le _, rfl, rfl⟩⟩


theorem info50 : (Try.prog.info? 50).map (fun i => (i.zero, i.size, i.bytes)) = some (some (.agg #[.bool false, .int .i64 0, .bool false, .int .i64 0]), 4, 32) := by kernel_rfl
end Go.Proofs.Yteakbijlcccnnaa
