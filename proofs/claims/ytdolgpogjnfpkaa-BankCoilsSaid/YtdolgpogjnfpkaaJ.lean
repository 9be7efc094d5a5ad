/- The next word of what is left. -/
import Derived.Test.YtdolgpogjnfpkaaI
import Derived.Deep.RegionHeld3
namespace Go.Proofs.Ytdolgpogjnfpkaa
set_option linter.unusedVariables false
open Go.ChangeShapes Go.WideShapes Go.ChangeAt Go.RowKit

/-- Nothing but these blocks has turned. -/
structure Fs (l : List Nat) (w w' : World) : Prop where
  os : w'.os = w.os
  tape : w'.tape = w.tape
  output : w'.output = w.output
  size : w.heap.size ≤ w'.heap.size
  block : ∀ k, k < w.heap.size → k ∉ l → w'.heap[k]? = w.heap[k]?
theorem Fs.of_below {l : List Nat} {w w' : World} (h : Below w.heap.size w w') : Fs l w w' := ⟨h.os, h.tape, h.output, h.size, fun k hk _ => h.block k hk⟩
theorem Fs.refl (l : List Nat) (w : World) : Fs l w w := Fs.of_below (Below.refl _ _)
theorem Fs.below {l : List Nat} {B : Nat} {w w' : World} (h : Fs l w w') (hB : ∀ x ∈ l, B ≤ x) (hs : B ≤ w.heap.size) : Below B w w' :=
  ⟨h.os, h.tape, h.output, h.size, fun k hk => h.block k (by omega) (fun q => by have := hB k q; omega)⟩
theorem Fs.trans {l : List Nat} {a b c : World} (h : Fs l a b) (h' : Fs l b c) : Fs l a c :=
  ⟨h'.os.trans h.os, h'.tape.trans h.tape, h'.output.trans h.output, Nat.le_trans h.size h'.size, fun k hk h1 => (h'.block k (Nat.lt_of_lt_of_le hk h.size) h1).trans (h.block k hk h1)⟩
theorem Fs.mono {l l' : List Nat} {w w' : World} (h : Fs l w w') (hl : ∀ x ∈ l, x ∈ l') : Fs l' w w' := ⟨h.os, h.tape, h.output, h.size, fun k hk h1 => h.block k hk (fun q => h1 (hl k q))⟩
theorem Fs.set (w : World) (g k : Nat) (v : Value) : Fs [g] w (w.setCell ⟨g, k, none⟩ v) :=
  ⟨rfl, rfl, rfl, by simp [World.setCell], fun j _ hj => Below.heap_setCell _ _ _ _ (fun e => hj (by simp at e; simp [e]))⟩
theorem Fs.drew {l : List Nat} {w w' : World} (h : Fs l w w') : Fs l w w'.drew := ⟨h.os, h.tape, h.output, h.size, h.block⟩

def wordL (L : List Nat) : Nat × List Nat := if L.length < 2 then (0, []) else (256 * L.getD 0 0 + L.getD 1 0, L.drop 2)
theorem wordL_lt {L : List Nat} (h : ∀ b ∈ L, b < 256) : (wordL L).1 < 65536 := by
  unfold wordL
  split
  · show 0 < 65536; omega
  · have h0 := getD_lt h 0
    have h1 := getD_lt h 1
    show 256 * L.getD 0 0 + L.getD 1 0 < 65536
    omega
theorem wordL_by {L : List Nat} (h : ∀ b ∈ L, b < 256) : ∀ b ∈ (wordL L).2, b < 256 := by
  unfold wordL
  split
  · intro b hb; simp at hb
  · intro b hb; exact h b (List.mem_of_mem_drop hb)
/-- What is left, in the cell c. -/
def Left (w : World) (c : Nat) (L : List Nat) : Prop := ∃ a n cap, w.heap[c]? = some (.cells #[.slice a n cap] 33 (0, 0)) ∧ Bys w a n L ∧ n ≤ cap ∧ cap ≤ maxLen ∧ (∀ b off, a = some ⟨b, off, none⟩ → 0 < n → b < c)
theorem Left.by' {w : World} {c : Nat} {L : List Nat} (h : Left w c L) : ∀ b ∈ L, b < 256 := by obtain ⟨_, _, _, _, h2, _⟩ := h; exact h2.by'
theorem Bys.hop {W W' : World} {a : Option Addr} {n : Nat} {L : List Nat} (h : Bys W a n L) (hs : W.heap.size ≤ W'.heap.size) (hb : ∀ b off, a = some ⟨b, off, none⟩ → 0 < n → W'.heap[b]? = W.heap[b]?) : Bys W' a n L := by
  refine ⟨h.ln, h.le, h.by', ?_⟩
  rcases h.at' with z | ⟨b, off, e, hlt, hc⟩
  · exact .inl z
  · by_cases h0 : n = 0
    · exact .inl h0
    · exact .inr ⟨b, off, e, Nat.lt_of_lt_of_le hlt hs, fun i hi => (World.cell?_of_block (a := ⟨b, off + i, none⟩) (hb b off e (by omega))).trans (hc i hi)⟩
theorem Left.keep {w w' : World} {c : Nat} {L : List Nat} (h : Left w c L) (hs : w.heap.size ≤ w'.heap.size) (hb : ∀ b, b ≤ c → w'.heap[b]? = w.heap[b]?) : Left w' c L := by
  obtain ⟨a, n, cap, h1, h2, h3, h4, h5⟩ := h
  exact ⟨a, n, cap, (hb c (Nat.le_refl _)).trans h1, h2.hop hs (fun b off e h0 => hb b (Nat.le_of_lt (h5 b off e h0))), h3, h4, h5⟩
theorem Left.cell {w : World} {c : Nat} {L : List Nat} (h : Left w c L) : ∃ a n cap, w.cell? ⟨c, 0, none⟩ = some (.slice a n cap) ∧ w.frozen? ⟨c, 0, none⟩ = false ∧ Bys w a n L ∧ n ≤ cap ∧ cap ≤ maxLen ∧ (∀ b off, a = some ⟨b, off, none⟩ → 0 < n → b < c) := by
  obtain ⟨a, n, cap, h1, h2, h3, h4, h5⟩ := h
  exact ⟨a, n, cap, by simp [World.cell?, h1], by simp [World.frozen?, h1], h2, h3, h4, h5⟩
theorem set_one {w : World} {c : Nat} {t : TypeId} {x : Value} (h : w.heap[c]? = some (.cells #[x] t (0, 0))) (u : Value) : (w.setCell ⟨c, 0, none⟩ u).heap[c]? = some (.cells #[u] t (0, 0)) := by
  simp [World.setCell, Array.getElem?_modify, h]
def WordP (c : Nat) (L : List Nat) (w : World) (e : Ending) (w' : World) : Prop := e = .returned (.int .i64 ((wordL L).1 : Nat)) ∧ Left w' c (wordL L).2 ∧ Fs [c] w w' ∧ w'.heap.size = w.heap.size
theorem or_bytes (x y : Nat) (hx : x < 256) (hy : y < 256) : Go.bits .or .i64 ((x : Int) * 256) (y : Int) = ((256 * x + y : Nat) : Int) := by
  have h1 : (256 * x) ||| y = 256 * x + y := by
    have := Nat.two_pow_add_eq_or_of_lt (i := 8) (b := y) (by omega) x
    simpa using this.symm
  have e : (x : Int) * 256 = ((256 * x : Nat) : Int) := by omega
  rw [e]
  have g1 : (BitVec.ofInt 64 ((256 * x : Nat) : Int)).toNat = 256 * x := by
    rw [BitVec.ofInt_natCast, BitVec.toNat_ofNat]; exact Nat.mod_eq_of_lt (by omega)
  have g2 : (BitVec.ofInt 64 (y : Int)).toNat = y := by
    rw [BitVec.ofInt_natCast, BitVec.toNat_ofNat]; exact Nat.mod_eq_of_lt (by omega)
  show IntKind.i64.wrap ((BitVec.ofInt 64 ((256 * x : Nat) : Int) ||| BitVec.ofInt 64 (y : Int)).toNat : Int) = _
  rw [BitVec.toNat_or, g1, g2, h1]
  exact IntWalk.i64_in _ (by omega)
set_option maxRecDepth 100000 in
set_option maxHeartbeats 4000000 in
theorem word_any (c : Nat) (L : List Nat) (w : World) (h : Left w c L) : Calls Try.prog 69 #[.pointer (some ⟨c, 0, none⟩)] w (WordP c L w) := by
  obtain ⟨a, n, cap, h1, h2, h3, h4, h5⟩ := h
  have k1 : w.cell? ⟨c, 0, none⟩ = some (.slice a n cap) := by simp [World.cell?, h1]
  have k2 : w.frozen? ⟨c, 0, none⟩ = false := by simp [World.frozen?, h1]
  have hln := h2.ln
  have hle := h2.le
  unfold maxLen at hle h4
  by_cases hn : n < 2
  · have hp : WordP c L w (.returned (.int .i64 0)) (w.setCell ⟨c, 0, none⟩ (.slice none 0 0)) := by
      have e : wordL L = (0, []) := by unfold wordL; rw [if_pos (by omega)]
      unfold WordP
      rw [e]
      exact ⟨rfl, ⟨none, 0, 0, set_one h1 _, Bys.nil _ _, Nat.le_refl _, Nat.zero_le _, fun b off e => by cases e⟩, Fs.set _ _ _ _, by simp [World.setCell]⟩
    have HP := Lib.hid hp
    have d1 : decide ((n : Int) < 2) = true := by simp; omega
    clear hp h1 h2 h3 h4 h5 hn
    go_enter Try.func69, Try.ntmps69
    go_wp2_with fail
    go_ret
    exact HP.out
  · obtain ⟨b, off, rfl, hbl, hc⟩ := h2.pos (by omega)
    have hb5 := h5 b off rfl (by omega)
    have c0 : w.cell? ⟨b, off, none⟩ = some (.int .u8 ((L.getD 0 0 : Nat) : Int)) := hc 0 (by omega)
    have c1 := hc 1 (by omega)
    have l0 := getD_lt h2.by' 0
    have l1 := getD_lt h2.by' 1
    have hp : WordP c L w (.returned (.int .i64 ((256 * L.getD 0 0 + L.getD 1 0 : Nat) : Int))) ((w.setCell ⟨c, 0, none⟩ (.slice (if cap = 2 then some ⟨b, off, none⟩ else some ⟨b, off + 2, none⟩) (n - 2) (cap - 2))).drew) := by
      have e : wordL L = (256 * L.getD 0 0 + L.getD 1 0, L.drop 2) := by unfold wordL; rw [if_neg (by omega)]
      unfold WordP
      rw [e]
      refine ⟨rfl, ⟨_, n - 2, cap - 2, set_one h1 _, ?_, by omega, by unfold maxLen; omega, ?_⟩, (Fs.set _ _ _ _).drew, by simp [World.setCell]⟩
      · have hs : Bys w (if cap = 2 then some ⟨b, off, none⟩ else some ⟨b, off + 2, none⟩) (n - 2) (L.drop 2) := by
          by_cases hcc : cap = 2
          · have h0 : n - 2 = 0 := by omega
            rw [h0, List.drop_of_length_le (by omega)]
            exact Bys.nil _ _
          · rw [if_neg hcc]
            have := h2.sub 2 (n - 2) (by omega)
            rwa [List.take_of_length_le (by rw [List.length_drop]; omega)] at this
        refine hs.hop (by simp [World.setCell]) (fun b' off' e' h0 => ?_)
        have hbb : b' = b := by
          split at e' <;> simp only [Option.some.injEq, Addr.mk.injEq] at e' <;> exact e'.1.symm
        subst hbb
        exact Below.heap_setCell _ _ _ _ (show b' ≠ c by omega)
      · intro b' off' e' h0
        have hbb : b' = b := by
          split at e' <;> simp only [Option.some.injEq, Addr.mk.injEq] at e' <;> exact e'.1.symm
        omega
    have HP := Lib.hid hp
    have d1 : decide ((n : Int) < 2) = false := by simp; omega
    have hbc : ¬ c = b := by omega
    have hbc2 : ¬ b = c := by omega
    generalize L.getD 0 0 = x0 at c0 l0 HP
    generalize L.getD 1 0 = x1 at c1 l1 HP
    clear hp h1 h2 h5 hc
    have i0 : 0 < n := by omega
    have i1 : (1 : Int) < (n : Int) := by omega
    have i2 : (2 : Int) ≤ (n : Int) := by omega
    go_enter Try.func69, Try.ntmps69
    go_wp2_with fail
    go_region
    all_goals
      rw [or_bytes x0 x1 l0 l1]
      generalize hX : ((256 * x0 + x1 : Nat) : Int) = X at HP ⊢
      by_cases hcc : cap = 2
      · rw [if_pos hcc] at HP
        subst hcc
        obtain rfl : n = 2 := by omega
        go_wp2_with fail
        go_ret
        exact HP.out
      · rw [if_neg hcc] at HP
        go_wp2_with fail
        go_ret
        exact HP.out
end Go.Proofs.Ytdolgpogjnfpkaa
