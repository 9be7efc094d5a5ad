/- The walk of CrcBytes. -/
import Derived.Test.YtdlcfnpnfdlahaaQN
namespace Go.Proofs.Ytdlcfnpnfdlahaa
set_option linter.unusedVariables false
open Go.ChangeShapes Go.WideShapes Go.ChangeAt Go.RowKit

theorem below_drewN (B : Nat) (w : World) (n : Nat) : Below B w (w.drewN n) := ⟨rfl, rfl, rfl, Nat.le_refl _, fun _ _ => rfl⟩

/-- A slice of bytes that came in: its length fits its capacity; nil has neither. -/
structure Arg (w : World) (a : Option Addr) (len cap : Nat) (f : Nat → Nat) : Prop where
  row : RowB w a len f
  lt : ∀ i, i < len → f i < 256
  nil : a = none → len = 0 ∧ cap = 0
  le : len ≤ cap
  mx : cap ≤ maxLen

theorem Arg.below {W w : World} {a : Option Addr} {len cap : Nat} {f : Nat → Nat} (h : Arg W a len cap f) (hb : Below W.heap.size W w) : Arg w a len cap f := ⟨h.row.below hb, h.lt, h.nil, h.le, h.mx⟩

theorem open_any (a : Option Addr) (len cap : Nat) (f : Nat → Nat) (w : World) (h : Arg w a len cap f) (hlen : len ≤ 100000) :
    Calls Try.prog 24 #[.slice a len cap] w (OpenPost w f len) := by
  by_cases h2 : len < 2
  · exact open_short a len cap f w h2
  · obtain ⟨n, rfl⟩ : ∃ n, len = n + 2 := ⟨len - 2, by omega⟩
    obtain ⟨b, off, rfl, _, _⟩ := h.row.pos (by omega)
    exact open_long b off n cap f w h.row h.lt h.le h.mx (by omega)

theorem OwnR.arg {B : Nat} {w : World} {g cap n : Nat} {L : List Nat} (h : OwnR B w g cap L) (hn : L.length = n) (hl : ∀ i, i < n → L.getD i 0 < 256) : Arg w (some ⟨g, 0, none⟩) n cap (fun i => L.getD i 0) := by
  subst hn
  obtain ⟨cur, _, _, h1, h2, _, _⟩ := h.at
  exact ⟨h.bys, hl, (fun q => by cases q), h1, h2⟩

theorem OwnR.cell {B : Nat} {w : World} {g cap : Nat} {L : List Nat} (h : OwnR B w g cap L) (i : Nat) (hi : i < L.length) : w.cell? ⟨g, i, none⟩ = some (.int .u8 ((L.getD i 0 : Nat) : Int)) ∧ w.frozen? ⟨g, i, none⟩ = false := by
  obtain ⟨b, off, ha, _, hc⟩ := h.bys.pos (by omega)
  simp at ha
  obtain ⟨rfl, rfl⟩ := ha
  obtain ⟨cur, _, hb, _, _, _, _⟩ := h.at
  exact ⟨by simpa using hc i hi, by simp [World.frozen?, hb]⟩

theorem OwnR.set {B : Nat} {w : World} {g cap : Nat} {L : List Nat} (h : OwnR B w g cap L) (k v : Nat) : OwnR B (w.setCell ⟨g, k, none⟩ (.int .u8 (v : Int))) g cap (L.set k v) := by
  obtain ⟨cur, hg, hb, hl, hm, hs, ht⟩ := h.at
  refine ⟨by rw [vals_len]; omega, .inr ⟨g, cap, cur.setIfInBounds k (.int .u8 (v : Int)), rfl, hg, ?_, by simpa using hl, hm, by simpa using hs, ?_⟩⟩
  · exact set_block hb k _
  · rw [Nat.mul_one, List.length_set, Array.toList_setIfInBounds, List.take_set, ht]
    simp [vals, List.map_set]

/-- A copy, behind the empty slice. -/
theorem wpList_copy_in {ops : Array Oper} {rest : List Oper} {o : Oper} {a : Act} {Q : Exit → Act → World → Prop} (hgd : o.guard = none) (s x : Operand)
    (ho : o.op = .call { callee := .builtin .append, args := #[s, x], argTypes := #[22, 22] }) (w0 : World) (hs : a.eval s = .slice (some ⟨w0.heap.size, 0, none⟩) 0 0)
    (g c : Nat) (B : Nat) (L : List Nat) (n : Nat) (hn : L.length = n) (hx : a.eval x = .slice (some ⟨g, 0, none⟩) n c) (hown : OwnR B w0 g c L) (hm : n ≤ 100000) (hp : 0 < n)
    (h : ∀ g' cap' w', OwnR w0.heap.size w' g' cap' L → Below w0.heap.size w0 w' → wpList Try.prog ops Q rest (a.put o.dst (.slice (some ⟨g', 0, none⟩) n cap')) w') :
    wpList Try.prog ops Q (o :: rest) a (w0.alloc (.cells #[] 5 (0, 0))) := by
  subst hn
  obtain ⟨ti, hi, hz0, hz1, hz2⟩ := info_parts info5q
  have hz : (w0.alloc (.cells #[] 5 (0, 0))).ownsRow w0.heap.size 5 1 (.slice (some ⟨w0.heap.size, 0, none⟩) 0 0) 0 [] :=
    ⟨rfl, .inr ⟨w0.heap.size, 0, #[], rfl, Nat.le_refl _, heap_at rfl, Nat.le_refl _, Nat.zero_le _, rfl, rfl⟩⟩
  have hlt : g < w0.heap.size := by
    obtain ⟨b, off, ha, h1, _⟩ := hown.bys.pos hp
    simp at ha
    obtain ⟨rfl, rfl⟩ := ha
    exact h1
  refine wpList_append_own _ hgd s x 22 ho w0.heap.size 5 ti (.int .u8 0) 1 1 Try.underlying22 hi hz0 hz1 hz2 rfl (by decide) _ 0 [] hs hz ⟨g, 0, none⟩ L.length c (vals L) hx (by rw [vals_len]; omega)
    (fun j u hu => ?_) (vals_one _) (by unfold maxLen; omega) (by omega) (by simp) ?_
  · have hj : j < L.length := by
      have := (List.getElem?_eq_some_iff.1 hu).1
      rw [vals_len] at this
      exact this
    rw [addr_add_noneq, Nat.zero_add]
    rw [(Below.alloc (Below.refl w0.heap.size w0) (Nat.le_refl _) _).cell (p := ⟨g, j, none⟩) hlt, (hown.cell j hj).1]
    rw [← hu]
    simp [vals, List.getD, hj]
  intro v' w' hown' hg _
  rw [Nat.zero_add, List.nil_append] at hown'
  have hbel : Below w0.heap.size w0 w' := (Below.alloc (Below.refl w0.heap.size w0) (Nat.le_refl _) _).grown hg (by simp) (fun k hk => by simp [Value.ownBlock] at hk; omega)
  obtain ⟨h1, ⟨_, h0⟩ | ⟨g', cap', cur, hv, hb, hh, hl, hmm, hss, ht⟩⟩ := hown'
  · omega
  · subst hv
    exact h g' cap' w' ⟨h1, .inr ⟨g', cap', cur, rfl, hb, hh, hl, hmm, hss, ht⟩⟩ hbel

end Go.Proofs.Ytdlcfnpnfdlahaa
