/- Calls of an ear; the document's ear. -/
import Derived.Test.YtdlcfnpnfdlahaaTe
import Derived.Test.YtdlcfnpnfdlahaaStructs
namespace Go.Proofs.Ytdlcfnpnfdlahaa
set_option linter.unusedVariables false
open Go.ChangeShapes Go.WideShapes Go.ChangeAt Go.RowKit

/-- A call: what, and its bytes. -/
structure Opn where
  wh : Int
  a : Option Addr
  l : Nat
  c : Nat
  f : List Nat
instance : Inhabited Opn := ⟨⟨0, none, 0, 0, []⟩⟩
def opV (x : Opn) : List Value := [.int .i64 x.wh, .slice x.a x.l x.c]
structure Sl (w : World) (a : Option Addr) (len : Nat) (g : Nat → Opn) : Prop where
  row : RowS w a len 2 (fun i => opV (g i))
  wf : ∀ i, i < len → (Lit.int .i64 (g i).wh).wf = true ∧ ArgB w (g i).a (g i).l (g i).c (g i).f

section
variable {H : Type} {enc : TypeId × Value → H} {w : World}
theorem field_bytes {n : Nat} {l : List Value} {o : Nat} (h : ∃ y, DataW.trod enc Try.prog w 0 (fun _ => true) true n 22 ((l.drop o).take (Try.prog.cellsOf 22)) = some y) :
    ∃ (a : Option Addr) (len cap : Nat) (f : List Nat), l[o]? = some (.slice a len cap) ∧ ArgB w a len cap f := by
  obtain ⟨y, hy⟩ := h
  have hc : Try.prog.cellsOf 22 = 1 := by kernel_rfl
  rw [hc] at hy
  have key : ∃ a len cap, (l.drop o).take 1 = [.slice a len cap] := by
    rcases Go.Deep.open_slice Try.underlying22 hy with ⟨hcs, _⟩ | ⟨y, l', c, m, n, D, Pl, hcs, _⟩
    · exact ⟨none, 0, 0, hcs⟩
    · exact ⟨_, _, _, hcs⟩
  obtain ⟨a, len, cap, hk⟩ := key
  rw [hk] at hy
  obtain ⟨f, hr⟩ := arg_bytes hy
  have h0 : ((l.drop o).take 1)[0]? = some (.slice a len cap) := by rw [hk]; rfl
  exact ⟨a, len, cap, f, by simpa using h0, hr⟩

theorem rows_in {fuel : Nat} {a : Option Addr} {len cap : Nat} {x : DataW H × List MemPlace} (h : DataW.trod enc Try.prog w 0 (fun _ => true) true fuel 29 [.slice a len cap] = some x) :
    ∃ f : Nat → Opn, Sl w a len f := by
  obtain ⟨V, hV, hf⟩ := row_structs (sz := 2) Try.underlying29 Try.underlying36 (by kernel_rfl) (by omega) h
  obtain ⟨f, hff⟩ := Go.Deep.choose_lt (α := Opn) (p := fun i b => V i = opV b ∧ (Lit.int .i64 b.wh).wf = true ∧ ArgB w b.a b.l b.c b.f) (fun i hi => by
    obtain ⟨hl, n, hfi⟩ := hf i hi
    obtain ⟨b0, h0, w0⟩ := field_int (P := Try.prog) Try.underlying3 (by kernel_rfl) (hfi 0 _ rfl)
    obtain ⟨a3, l3, c3, f3, h3, r3⟩ := field_bytes (hfi 1 _ rfl)
    exact ⟨⟨b0, a3, l3, c3, f3⟩, list2 hl h0 h3, w0, r3⟩)
  exact ⟨f, hV.congr (fun i hi => (hff i hi).1), fun i hi => (hff i hi).2⟩
end

/-- How many bytes the first k calls bear, each counted as 20000 at most. -/
def tot (g : Nat → Opn) : Nat → Nat
  | 0 => 0
  | k + 1 => tot g k + (if (g k).l < 20000 then (g k).l else 20000)
theorem tot_mono (g : Nat → Opn) {a b : Nat} (h : a ≤ b) : tot g a ≤ tot g b := by
  induction b with
  | zero => have : a = 0 := by omega
            subst this; exact Nat.le_refl _
  | succ b ih =>
    by_cases e : a = b + 1
    · subst e; exact Nat.le_refl _
    · have := ih (by omega); simp only [tot]; omega
def GreatP (len : Nat) (g : Nat → Opn) (w : World) (e : Ending) (w' : World) : Prop := ∃ b : Bool, e = .returned (.bool b) ∧ (b = false → len + tot g len < 20000) ∧ w = w'

set_option maxRecDepth 100000 in
set_option maxHeartbeats 2000000 in
theorem great_any (a : Option Addr) (len cap : Nat) (g : Nat → Opn) (w : World) (h : Sl w a len g) : Calls Try.prog 16 #[.slice a len cap] w (GreatP len g w) := by
  have hl := h.row.le
  unfold maxLen at hl
  have H := Lib.hid h
  clear h
  go_enter Try.func16, Try.ntmps16
  go_wp2_with fail
  go_loop [3, 4] (fun n i => ∃ (k N : Nat), k ≤ len ∧ i = .int .i64 k ∧ n = .int .i64 N ∧ N = len + tot g k ∧ (N = len ∨ N ≤ 40000)) (fun _ i => len - (intOf i).toNat)
  case atStart => exact ⟨0, len, Nat.zero_le _, rfl, rfl, rfl, .inl rfl⟩
  case round =>
    obtain ⟨k, N, hk, rfl, rfl, hN0, hN1⟩ := hrel
    have HN0 := Lib.hid hN0
    have hNb : N ≤ 9223372036854775807 := by omega
    clear hN0
    by_cases hlt : k < len
    · obtain ⟨b, off, rfl, hlt', hcs⟩ := H.out.row.pos (by omega)
      have c1 : w.cell? ⟨b, off + k * 2 + 1, none⟩ = some (.slice (g k).a (g k).l (g k).c) := hcs k hlt 1 (by omega)
      have hlk := (H.out.wf k hlt).2.row.le
      have hts : tot g (k + 1) = tot g k + (if (g k).l < 20000 then (g k).l else 20000) := rfl
      have HTS := Lib.hid hts
      unfold maxLen at hlk
      clear hcs hts
      generalize (g k).a = ga at c1
      generalize (g k).l = gl at c1 hlk HTS
      generalize (g k).c = gc at c1
      by_cases hN : N < 20000
      · have t1 : decide ((N : Int) < 20000) = true := by simp; omega
        by_cases hgl : gl < 20000
        · have t2 : (gl : Int) ≤ 20000 := by omega
          go_wp2_with fail
          go_round
          case rel => exact ⟨k + 1, N + gl, by omega, by go_num, by go_num, by have h1 := HTS.out; have h2 := HN0.out; rw [if_pos hgl] at h1; omega, .inr (by omega)⟩
          case measure => simp [intOf]; omega
        · by_cases hge : gl = 20000
          · subst hge
            go_wp2_with fail
            go_round
            case rel => exact ⟨k + 1, N + 20000, by omega, by go_num, by go_num, by have h1 := HTS.out; have h2 := HN0.out; rw [if_neg hgl] at h1; omega, .inr (by omega)⟩
            case measure => simp [intOf]; omega
          · have t2 : ¬ (gl : Int) ≤ 20000 := by omega
            go_wp2_with fail
            go_round
            case rel => exact ⟨k + 1, N + 20000, by omega, by go_num, by go_num, by have h1 := HTS.out; have h2 := HN0.out; rw [if_neg hgl] at h1; omega, .inr (by omega)⟩
            case measure => simp [intOf]; omega
      · have t1 : decide ((N : Int) < 20000) = false := by simp; omega
        have t2 : decide (20000 ≤ (N : Int)) = true := by simp; omega
        go_wp2_with fail
        go_ret
        exact ⟨_, rfl, fun h => by simp at h, rfl⟩
    · have hk' : k = len := by omega
      subst hk'
      by_cases hN : 20000 ≤ N
      · have t2 : decide (20000 ≤ (N : Int)) = true := by simp; omega
        go_wp2_with fail
        go_ret
        exact ⟨_, rfl, fun h => by simp at h, rfl⟩
      · have t2 : decide (20000 ≤ (N : Int)) = false := by simp; omega
        go_wp2_with fail
        go_ret
        exact ⟨_, rfl, (fun _ => by have := HN0.out; omega), rfl⟩
end Go.Proofs.Ytdlcfnpnfdlahaa
