/- Calls that came in, each with its bytes; whether they are too many. -/
import Derived.Test.YtpjddinbbglgmaaT
namespace Go.Proofs.Ytpjddinbbglgmaa
set_option linter.unusedVariables false
open Go.ChangeShapes Go.WideShapes Go.ChangeAt Go.RowKit

/-- A call: what, of which sector, with which number, and its bytes. -/
structure Opn where
  wh : Int
  at' : Int
  n : Int
  a : Option Addr
  l : Nat
  c : Nat
  f : List Nat
instance : Inhabited Opn := ⟨⟨0, 0, 0, none, 0, 0, []⟩⟩
def opV (x : Opn) : List Value := [.int .i64 x.wh, .int .i64 x.at', .int .i64 x.n, .slice x.a x.l x.c]
structure Sl (w : World) (a : Option Addr) (len : Nat) (g : Nat → Opn) : Prop where
  row : RowS w a len 4 (fun i => opV (g i))
  wf : ∀ i, i < len → ((Lit.int .i64 (g i).wh).wf = true ∧ (Lit.int .i64 (g i).at').wf = true ∧ (Lit.int .i64 (g i).n).wf = true) ∧ (g i).l ≤ maxLen ∧ Bys w (g i).a (g i).l (g i).f

theorem RowS.below {W w : World} {a : Option Addr} {len sz : Nat} {V : Nat → List Value} (h : RowS W a len sz V) (hb : Below W.heap.size W w) : RowS w a len sz V := by
  refine ⟨h.le, ?_⟩
  rcases h.at' with z | ⟨b, off, ha, hlt, hc⟩
  · exact .inl z
  · exact .inr ⟨b, off, ha, Nat.lt_of_lt_of_le hlt hb.size, fun i hi j hj => (hb.cell (p := ⟨b, off + (i * sz + j), none⟩) hlt).trans (hc i hi j hj)⟩

section
variable {H : Type} {enc : TypeId × Value → H} {w : World}
theorem field_bytes {n : Nat} {l : List Value} {o : Nat} (h : ∃ y, DataW.trod enc Try.prog w 0 (fun _ => true) true n 29 ((l.drop o).take (Try.prog.cellsOf 29)) = some y) :
    ∃ (a : Option Addr) (len cap : Nat) (f : List Nat), l[o]? = some (.slice a len cap) ∧ len ≤ maxLen ∧ Bys w a len f := by
  obtain ⟨y, hy⟩ := h
  have hc : Try.prog.cellsOf 29 = 1 := by kernel_rfl
  rw [hc] at hy
  have key : ∃ a len cap, (l.drop o).take 1 = [.slice a len cap] := by
    rcases Go.Deep.open_slice Try.underlying29 hy with ⟨hcs, _⟩ | ⟨y, l', c, m, n, D, Pl, hcs, _⟩
    · exact ⟨none, 0, 0, hcs⟩
    · exact ⟨_, _, _, hcs⟩
  obtain ⟨a, len, cap, hk⟩ := key
  rw [hk] at hy
  obtain ⟨f, hr, hw⟩ := row_ints Try.underlying29 Try.underlying5 (by kernel_rfl) hy
  have h0 : ((l.drop o).take 1)[0]? = some (.slice a len cap) := by rw [hk]; rfl
  exact ⟨a, len, cap, _, by simpa using h0, hr.le, bys_row hr hw⟩

theorem rows_in {fuel : Nat} {a : Option Addr} {len cap : Nat} {x : DataW H × List MemPlace} (h : DataW.trod enc Try.prog w 0 (fun _ => true) true fuel 22 [.slice a len cap] = some x) :
    ∃ f : Nat → Opn, Sl w a len f := by
  obtain ⟨V, hV, hf⟩ := row_structs (sz := 4) Try.underlying22 Try.underlying31 (by kernel_rfl) (by omega) h
  obtain ⟨f, hff⟩ := Go.Deep.choose_lt (α := Opn) (p := fun i b => V i = opV b ∧ ((Lit.int .i64 b.wh).wf = true ∧ (Lit.int .i64 b.at').wf = true ∧ (Lit.int .i64 b.n).wf = true) ∧ b.l ≤ maxLen ∧ Bys w b.a b.l b.f) (fun i hi => by
    obtain ⟨hl, n, hfi⟩ := hf i hi
    obtain ⟨b0, h0, w0⟩ := field_int (P := Try.prog) Try.underlying3 (by kernel_rfl) (hfi 0 _ rfl)
    obtain ⟨b1, h1, w1⟩ := field_int (P := Try.prog) Try.underlying3 (by kernel_rfl) (hfi 1 _ rfl)
    obtain ⟨b2, h2, w2⟩ := field_int (P := Try.prog) Try.underlying3 (by kernel_rfl) (hfi 2 _ rfl)
    obtain ⟨a3, l3, c3, f3, h3, m3, r3⟩ := field_bytes (hfi 3 _ rfl)
    exact ⟨⟨b0, b1, b2, a3, l3, c3, f3⟩, list4 hl h0 h1 h2 h3, ⟨w0, w1, w2⟩, m3, r3⟩)
  exact ⟨f, hV.congr (fun i hi => (hff i hi).1), fun i hi => (hff i hi).2⟩
end

def GreatP (len : Nat) (w : World) (e : Ending) (w' : World) : Prop := ∃ b : Bool, e = .returned (.bool b) ∧ (b = false → len ≤ 400) ∧ w = w'

set_option maxRecDepth 100000 in
set_option maxHeartbeats 2000000 in
theorem great_any (a : Option Addr) (len cap : Nat) (g : Nat → Opn) (w : World) (h : Sl w a len g) : Calls Try.prog 11 #[.slice a len cap] w (GreatP len w) := by
  have hl := h.row.le
  unfold maxLen at hl
  have H := Lib.hid h
  clear h
  go_enter Try.func11, Try.ntmps11
  go_wp2_with fail
  go_loop [3, 4] (fun n i => ∃ (k : Nat) (N : Int), k ≤ len ∧ i = .int .i64 k ∧ n = .int .i64 N ∧ 0 ≤ N ∧ (N ≤ len ∨ N ≤ 60000)) (fun _ i => len - (intOf i).toNat)
  case atStart => exact ⟨0, len, Nat.zero_le _, rfl, rfl, by omega, .inl (Int.le_refl _)⟩
  case round =>
    obtain ⟨k, N, hk, rfl, rfl, hN0, hN1⟩ := hrel
    by_cases hlt : k < len
    · obtain ⟨b, off, rfl, hlt', hcs⟩ := H.out.row.pos (by omega)
      have c3 : w.cell? ⟨b, off + k * 4 + 3, none⟩ = some (.slice (g k).a (g k).l (g k).c) := hcs k hlt 3 (by omega)
      have hlk := (H.out.wf k hlt).2.1
      unfold maxLen at hlk
      clear hcs
      generalize (g k).a = ga at c3
      generalize (g k).l = gl at c3 hlk
      generalize (g k).c = gc at c3
      by_cases hN : N < 30000
      · have t1 : decide (N < 30000) = true := decide_eq_true hN
        go_wp2_with fail
        all_goals
          go_round
          case rel => exact ⟨k + 1, _, by omega, by go_num, rfl, by omega, .inr (by omega)⟩
          case measure => simp [intOf]; omega
      · have t1 : decide (N < 30000) = false := decide_eq_false hN
        have t2 : decide (30000 ≤ N) = true := decide_eq_true (by omega)
        go_wp2_with fail
        go_ret
        exact ⟨_, rfl, fun h => by simp at h, rfl⟩
    · have hk' : k = len := by omega
      subst hk'
      by_cases hN : 30000 ≤ N
      · have t2 : decide (30000 ≤ N) = true := decide_eq_true hN
        go_wp2_with fail
        go_ret
        exact ⟨_, rfl, fun h => by simp at h, rfl⟩
      · have t2 : decide (30000 ≤ N) = false := decide_eq_false hN
        go_wp2_with fail
        go_ret
        exact ⟨_, rfl, (fun h => by simp at h; omega), rfl⟩

end Go.Proofs.Ytpjddinbbglgmaa
