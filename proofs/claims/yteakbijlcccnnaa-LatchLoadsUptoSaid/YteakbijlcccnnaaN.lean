/- What comes in; great. -/
import Derived.Test.YteakbijlcccnnaaM
import Derived.SizedLaws
import Derived.HandedShaped
namespace Go.Proofs.Yteakbijlcccnnaa
set_option linter.unusedVariables false
open Go.ChangeShapes Go.WideShapes Go.ChangeAt Go.RowKit

def leq (a b : La) : Bool := (a.st == b.st) && ((a.tm == b.tm) && (a.fi == b.fi))
theorem leq_iff (a b : La) : leq a b = true ↔ a = b := by
  unfold leq
  constructor
  · intro h; simp at h; exact La.ext' h.1 h.2.1 h.2.2
  · rintro rfl; simp
instance : Inhabited La := ⟨La.z⟩
instance : DecidableEq La := fun a b => decidable_of_iff (leq a b = true) (leq_iff a b)
/-- Latches that came in. -/
structure ArgL (w : World) (a : Option Addr) (n c : Nat) (S : List La) : Prop where
  row : Lr w a n S
  nil : a = none → c = 0
  le : n ≤ c
  mx : c ≤ maxLen
theorem ArgL.below {W w : World} {a : Option Addr} {n c : Nat} {L : List La} (h : ArgL W a n c L) (hb : Below W.heap.size W w) : ArgL w a n c L := ⟨h.row.below hb, h.nil, h.le, h.mx⟩
theorem list_sg (n : Nat) (f : Nat → La) (i : Nat) : sg ((List.range n).map f) i = if i < n then f i else La.z := by
  simp only [sg, List.getD, List.getElem?_map]
  by_cases h : i < n
  · rw [List.getElem?_range h, if_pos h]; rfl
  · rw [if_neg h, List.getElem?_eq_none (by simpa using Nat.le_of_not_lt h)]; rfl
section
variable {H : Type} {enc : TypeId × Value → H} {w : World}
theorem latches_in {fuel : Nat} {a : Option Addr} {len cap : Nat} {x : DataW H × List MemPlace} (h : DataW.trod enc Try.prog w 0 (fun _ => true) true fuel 30 [.slice a len cap] = some x) :
    ∃ S : List La, ArgL w a len cap S := by
  have hsh : (a = none → cap = 0) ∧ len ≤ cap ∧ cap ≤ maxLen := by
    rcases Go.Deep.open_slice Try.underlying30 h with ⟨hcs, _⟩ | ⟨y, l, c, m, n, D, Pl, hcs, _, hl, hm, _⟩
    · simp at hcs
      obtain ⟨rfl, rfl, rfl⟩ := hcs
      exact ⟨fun _ => rfl, Nat.le_refl _, Nat.zero_le _⟩
    · simp at hcs
      obtain ⟨rfl, rfl, rfl⟩ := hcs
      exact ⟨(fun e => by cases e), hl, hm⟩
  obtain ⟨V, hV, hf⟩ := row_structs (sz := 3) Try.underlying30 Try.underlying37 (by kernel_rfl) (by omega) h
  obtain ⟨f, hff⟩ := Go.Deep.choose_lt (α := La) (p := fun i b => V i = [.bool b.st, .int .i64 b.tm, .bool b.fi] ∧ (Lit.int .i64 b.tm).wf = true) (fun i hi => by
    obtain ⟨hl, n, hfi⟩ := hf i hi
    obtain ⟨b0, h0⟩ := field_bool (P := Try.prog) Try.underlying4 (by kernel_rfl) (hfi 0 _ rfl)
    obtain ⟨b1, h1, w1⟩ := field_int (P := Try.prog) Try.underlying2 (by kernel_rfl) (hfi 1 _ rfl)
    obtain ⟨b2, h2⟩ := field_bool (P := Try.prog) Try.underlying4 (by kernel_rfl) (hfi 2 _ rfl)
    exact ⟨⟨b0, b1, b2⟩, list3 hl h0 h1 h2, w1⟩)
  have hV' := hV.congr (fun i hi => (hff i hi).1)
  refine ⟨(List.range len).map f, ⟨by simp, hV.le, fun i => ?_, ?_⟩, hsh.1, hsh.2.1, hsh.2.2⟩
  · rw [list_sg]
    split
    · rename_i hi; exact (hff i hi).2
    · decide
  · by_cases h0 : len = 0
    · exact .inl h0
    · obtain ⟨b, off, ha, hlt, hc⟩ := hV'.pos (by omega)
      refine .inr ⟨b, off, ha, hlt, fun i hi => ?_⟩
      rw [list_sg, if_pos hi]
      exact ⟨hc i hi 0 (by omega), hc i hi 1 (by omega), hc i hi 2 (by omega)⟩
theorem field_latches {n : Nat} {l : List Value} {o : Nat} (h : ∃ y, DataW.trod enc Try.prog w 0 (fun _ => true) true n 30 ((l.drop o).take (Try.prog.cellsOf 30)) = some y) :
    ∃ (a : Option Addr) (len cap : Nat) (f : List La), l[o]? = some (.slice a len cap) ∧ ArgL w a len cap f := by
  obtain ⟨y, hy⟩ := h
  have hc : Try.prog.cellsOf 30 = 1 := by kernel_rfl
  rw [hc] at hy
  have key : ∃ a len cap, (l.drop o).take 1 = [.slice a len cap] := by
    rcases Go.Deep.open_slice Try.underlying30 hy with ⟨hcs, _⟩ | ⟨y, l', c, m, n, D, Pl, hcs, _⟩
    · exact ⟨none, 0, 0, hcs⟩
    · exact ⟨_, _, _, hcs⟩
  obtain ⟨a, len, cap, hk⟩ := key
  rw [hk] at hy
  obtain ⟨f, hf⟩ := latches_in hy
  have h0 : ((l.drop o).take 1)[0]? = some (.slice a len cap) := by rw [hk]; rfl
  exact ⟨a, len, cap, f, by simpa using h0, hf⟩
end
/-- A call: what, of which one, its time, and latches. -/
structure Opn where
  wh : Int
  i : Int
  now : Int
  a : Option Addr
  l : Nat
  c : Nat
  f : List La
instance : Inhabited Opn := ⟨⟨0, 0, 0, none, 0, 0, []⟩⟩
def opV (x : Opn) : List Value := [.int .i64 x.wh, .int .i64 x.i, .int .i64 x.now, .slice x.a x.l x.c]
structure Sl (w : World) (a : Option Addr) (len : Nat) (g : Nat → Opn) : Prop where
  row : RowS w a len 4 (fun i => opV (g i))
  wf : ∀ i, i < len → ((Lit.int .i64 (g i).wh).wf = true ∧ (Lit.int .i64 (g i).i).wf = true ∧ (Lit.int .i64 (g i).now).wf = true) ∧ ArgL w (g i).a (g i).l (g i).c (g i).f
theorem RowS.below {W w : World} {a : Option Addr} {len sz : Nat} {V : Nat → List Value} (h : RowS W a len sz V) (hb : Below W.heap.size W w) : RowS w a len sz V := by
  refine ⟨h.le, ?_⟩
  rcases h.at' with z | ⟨b, off, ha, hlt, hc⟩
  · exact .inl z
  · exact .inr ⟨b, off, ha, Nat.lt_of_lt_of_le hlt hb.size, fun i hi j hj => (hb.cell (p := ⟨b, off + (i * sz + j), none⟩) hlt).trans (hc i hi j hj)⟩
theorem Sl.below {W w : World} {a : Option Addr} {len : Nat} {g : Nat → Opn} (h : Sl W a len g) (hb : Below W.heap.size W w) : Sl w a len g := ⟨h.row.below hb, fun i hi => ⟨(h.wf i hi).1, (h.wf i hi).2.below hb⟩⟩
theorem ops_in {H : Type} {enc : TypeId × Value → H} {w : World} {fuel : Nat} {a : Option Addr} {len cap : Nat} {x : DataW H × List MemPlace} (h : DataW.trod enc Try.prog w 0 (fun _ => true) true fuel 23 [.slice a len cap] = some x) :
    ∃ f : Nat → Opn, Sl w a len f := by
  obtain ⟨V, hV, hf⟩ := row_structs (sz := 4) Try.underlying23 Try.underlying32 (by kernel_rfl) (by omega) h
  obtain ⟨f, hff⟩ := Go.Deep.choose_lt (α := Opn) (p := fun i b => V i = opV b ∧ ((Lit.int .i64 b.wh).wf = true ∧ (Lit.int .i64 b.i).wf = true ∧ (Lit.int .i64 b.now).wf = true) ∧ ArgL w b.a b.l b.c b.f) (fun i hi => by
    obtain ⟨hl, n, hfi⟩ := hf i hi
    obtain ⟨b0, h0, w0⟩ := field_int (P := Try.prog) Try.underlying3 (by kernel_rfl) (hfi 0 _ rfl)
    obtain ⟨b1, h1, w1⟩ := field_int (P := Try.prog) Try.underlying3 (by kernel_rfl) (hfi 1 _ rfl)
    obtain ⟨b2, h2, w2⟩ := field_int (P := Try.prog) Try.underlying2 (by kernel_rfl) (hfi 2 _ rfl)
    obtain ⟨a3, l3, c3, f3, h3, r3⟩ := field_latches (hfi 3 _ rfl)
    exact ⟨⟨b0, b1, b2, a3, l3, c3, f3⟩, list4 hl h0 h1 h2 h3, ⟨w0, w1, w2⟩, r3⟩)
  exact ⟨f, hV.congr (fun i hi => (hff i hi).1), fun i hi => (hff i hi).2⟩

def GreatP (n len : Nat) (w : World) (e : Ending) (w' : World) : Prop := ∃ b : Bool, e = .returned (.bool b) ∧ (b = false → len ≤ 200 ∧ n ≤ 60) ∧ w = w'
set_option maxRecDepth 100000 in
set_option maxHeartbeats 2000000 in
theorem great_any (la : Option Addr) (n lc : Nat) (a : Option Addr) (len cap : Nat) (g : Nat → Opn) (w : World) (hn : n ≤ maxLen) (h : Sl w a len g) : Calls Try.prog 9 #[.slice la n lc, .slice a len cap] w (GreatP n len w) := by
  have hl := h.row.le
  unfold maxLen at hl hn
  have H := Lib.hid h
  clear h
  go_enter Try.func9, Try.ntmps9
  go_wp2_with fail
  go_loop [5, 6] (fun s i => ∃ (k : Nat) (N : Int), k ≤ len ∧ i = .int .i64 k ∧ s = .int .i64 N ∧ 0 ≤ N ∧ (N ≤ n ∨ N ≤ 18000)) (fun _ i => len - (intOf i).toNat)
  case atStart => exact ⟨0, n, Nat.zero_le _, rfl, rfl, by omega, .inl (Int.le_refl _)⟩
  case round =>
    obtain ⟨k, N, hk, rfl, rfl, hN0, hN1⟩ := hrel
    by_cases hlt : k < len
    · obtain ⟨b, off, rfl, hlt', hcs⟩ := H.out.row.pos (by omega)
      have c4 : w.cell? ⟨b, off + k * 4 + 3, none⟩ = some (.slice (g k).a (g k).l (g k).c) := hcs k hlt 3 (by omega)
      have hlk := (H.out.wf k hlt).2.row.le
      unfold maxLen at hlk
      clear hcs
      generalize (g k).a = ga at c4
      generalize (g k).l = gl at c4 hlk
      generalize (g k).c = gc at c4
      by_cases hN : N < 9000
      · have t1 : decide (N < 9000) = true := decide_eq_true hN
        go_wp2_with fail
        all_goals
          go_round
          case rel => exact ⟨k + 1, _, by omega, by go_num, rfl, by omega, .inr (by omega)⟩
          case measure => simp [intOf]; omega
      · have t1 : decide (N < 9000) = false := decide_eq_false hN
        have t2 : decide (9000 ≤ N) = true := decide_eq_true (by omega)
        go_wp2_with fail
        go_ret
        exact ⟨_, rfl, fun h => by simp at h, rfl⟩
    · have hk' : k = len := by omega
      subst hk'
      by_cases hN : 9000 ≤ N
      · have t2 : decide (9000 ≤ N) = true := decide_eq_true hN
        go_wp2_with fail
        go_ret
        exact ⟨_, rfl, fun h => by simp at h, rfl⟩
      · have t2 : decide (9000 ≤ N) = false := decide_eq_false hN
        by_cases hK : 200 < k
        · have t3 : decide ((200 : Int) < (k : Int)) = true := by simp; omega
          go_wp2_with fail
          go_ret
          exact ⟨_, rfl, (fun h => by simp at h), rfl⟩
        · have t3 : decide ((200 : Int) < (k : Int)) = false := by simp; omega
          by_cases hM : 60 < n
          · have t4 : decide ((60 : Int) < (n : Int)) = true := by simp; omega
            go_wp2_with fail
            go_ret
            exact ⟨_, rfl, (fun h => by simp at h), rfl⟩
          · have t4 : decide ((60 : Int) < (n : Int)) = false := by simp; omega
            go_wp2_with fail
            go_ret
            exact ⟨_, rfl, (fun _ => by omega), rfl⟩
end Go.Proofs.Yteakbijlcccnnaa
