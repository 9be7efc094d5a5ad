/- Calls that came in; whether they are too many; whether a number is one of some. -/
import Derived.Test.YtfloceoopjokcaaO
namespace Go.Proofs.Ytfloceoopjokcaa
set_option linter.unusedVariables false
open Go.ChangeShapes Go.WideShapes Go.ChangeAt Go.RowKit

/-- A call: what, of which one, its ticks, its time, and ends. -/
structure Opn where
  wh : Int
  i : Int
  n : Int
  now : Int
  a : Option Addr
  l : Nat
  c : Nat
  f : List Int
instance : Inhabited Opn := ⟨⟨0, 0, 0, 0, none, 0, 0, []⟩⟩
def opV (x : Opn) : List Value := [.int .i64 x.wh, .int .i64 x.i, .int .i64 x.n, .int .i64 x.now, .slice x.a x.l x.c]
structure Sl (w : World) (a : Option Addr) (len : Nat) (g : Nat → Opn) : Prop where
  row : RowS w a len 5 (fun i => opV (g i))
  wf : ∀ i, i < len → ((Lit.int .i64 (g i).wh).wf = true ∧ (Lit.int .i64 (g i).i).wf = true ∧ (Lit.int .i64 (g i).n).wf = true ∧ (Lit.int .i64 (g i).now).wf = true) ∧ ArgI w (g i).a (g i).l (g i).c (g i).f

theorem RowS.below {W w : World} {a : Option Addr} {len sz : Nat} {V : Nat → List Value} (h : RowS W a len sz V) (hb : Below W.heap.size W w) : RowS w a len sz V := by
  refine ⟨h.le, ?_⟩
  rcases h.at' with z | ⟨b, off, ha, hlt, hc⟩
  · exact .inl z
  · exact .inr ⟨b, off, ha, Nat.lt_of_lt_of_le hlt hb.size, fun i hi j hj => (hb.cell (p := ⟨b, off + (i * sz + j), none⟩) hlt).trans (hc i hi j hj)⟩
theorem Sl.below {W w : World} {a : Option Addr} {len : Nat} {g : Nat → Opn} (h : Sl W a len g) (hb : Below W.heap.size W w) : Sl w a len g := ⟨h.row.below hb, fun i hi => ⟨(h.wf i hi).1, (h.wf i hi).2.below hb⟩⟩

theorem list5 {l : List Value} {x y z u v : Value} (hl : l.length = 5) (h0 : l[0]? = some x) (h1 : l[1]? = some y) (h2 : l[2]? = some z) (h3 : l[3]? = some u) (h4 : l[4]? = some v) : l = [x, y, z, u, v] := by
  match l, hl with
  | [p, q, r, s, t], _ => simp at h0 h1 h2 h3 h4; rw [h0, h1, h2, h3, h4]
section
variable {H : Type} {enc : TypeId × Value → H} {w : World}
theorem field_i64s {n : Nat} {l : List Value} {o : Nat} (h : ∃ y, DataW.trod enc Try.prog w 0 (fun _ => true) true n 22 ((l.drop o).take (Try.prog.cellsOf 22)) = some y) :
    ∃ (a : Option Addr) (len cap : Nat) (f : List Int), l[o]? = some (.slice a len cap) ∧ ArgI w a len cap f := by
  obtain ⟨y, hy⟩ := h
  have hc : Try.prog.cellsOf 22 = 1 := by kernel_rfl
  rw [hc] at hy
  have key : ∃ a len cap, (l.drop o).take 1 = [.slice a len cap] := by
    rcases Go.Deep.open_slice Try.underlying22 hy with ⟨hcs, _⟩ | ⟨y, l', c, m, n, D, Pl, hcs, _⟩
    · exact ⟨none, 0, 0, hcs⟩
    · exact ⟨_, _, _, hcs⟩
  obtain ⟨a, len, cap, hk⟩ := key
  rw [hk] at hy
  obtain ⟨f, hf, _⟩ := arg_i64_z hy
  have h0 : ((l.drop o).take 1)[0]? = some (.slice a len cap) := by rw [hk]; rfl
  exact ⟨a, len, cap, f, by simpa using h0, hf⟩
theorem ops_in {fuel : Nat} {a : Option Addr} {len cap : Nat} {x : DataW H × List MemPlace} (h : DataW.trod enc Try.prog w 0 (fun _ => true) true fuel 23 [.slice a len cap] = some x) :
    ∃ f : Nat → Opn, Sl w a len f := by
  obtain ⟨V, hV, hf⟩ := row_structs (sz := 5) Try.underlying23 Try.underlying31 (by kernel_rfl) (by omega) h
  obtain ⟨f, hff⟩ := Go.Deep.choose_lt (α := Opn) (p := fun i b => V i = opV b ∧ ((Lit.int .i64 b.wh).wf = true ∧ (Lit.int .i64 b.i).wf = true ∧ (Lit.int .i64 b.n).wf = true ∧ (Lit.int .i64 b.now).wf = true) ∧ ArgI w b.a b.l b.c b.f) (fun i hi => by
    obtain ⟨hl, n, hfi⟩ := hf i hi
    obtain ⟨b0, h0, w0⟩ := field_int (P := Try.prog) Try.underlying3 (by kernel_rfl) (hfi 0 _ rfl)
    obtain ⟨b1, h1, w1⟩ := field_int (P := Try.prog) Try.underlying3 (by kernel_rfl) (hfi 1 _ rfl)
    obtain ⟨b2, h2, w2⟩ := field_int (P := Try.prog) Try.underlying2 (by kernel_rfl) (hfi 2 _ rfl)
    obtain ⟨b3, h3, w3⟩ := field_int (P := Try.prog) Try.underlying2 (by kernel_rfl) (hfi 3 _ rfl)
    obtain ⟨a4, l4, c4, f4, h4, r4⟩ := field_i64s (hfi 4 _ rfl)
    exact ⟨⟨b0, b1, b2, b3, a4, l4, c4, f4⟩, list5 hl h0 h1 h2 h3 h4, ⟨w0, w1, w2, w3⟩, r4⟩)
  exact ⟨f, hV.congr (fun i hi => (hff i hi).1), fun i hi => (hff i hi).2⟩
end

def GreatP (n len : Nat) (w : World) (e : Ending) (w' : World) : Prop := ∃ b : Bool, e = .returned (.bool b) ∧ (b = false → len ≤ 300 ∧ n ≤ 60) ∧ w = w'
set_option maxRecDepth 100000 in
set_option maxHeartbeats 2000000 in
theorem great_any (la : Option Addr) (n lc : Nat) (a : Option Addr) (len cap : Nat) (g : Nat → Opn) (w : World) (hn : n ≤ maxLen) (h : Sl w a len g) : Calls Try.prog 10 #[.slice la n lc, .slice a len cap] w (GreatP n len w) := by
  have hl := h.row.le
  unfold maxLen at hl hn
  have H := Lib.hid h
  clear h
  go_enter Try.func10, Try.ntmps10
  go_wp2_with fail
  go_loop [5, 6] (fun s i => ∃ (k : Nat) (N : Int), k ≤ len ∧ i = .int .i64 k ∧ s = .int .i64 N ∧ 0 ≤ N ∧ (N ≤ n ∨ N ≤ 18000)) (fun _ i => len - (intOf i).toNat)
  case atStart => exact ⟨0, n, Nat.zero_le _, rfl, rfl, by omega, .inl (Int.le_refl _)⟩
  case round =>
    obtain ⟨k, N, hk, rfl, rfl, hN0, hN1⟩ := hrel
    by_cases hlt : k < len
    · obtain ⟨b, off, rfl, hlt', hcs⟩ := H.out.row.pos (by omega)
      have c4 : w.cell? ⟨b, off + k * 5 + 4, none⟩ = some (.slice (g k).a (g k).l (g k).c) := hcs k hlt 4 (by omega)
      have hlk := (H.out.wf k hlt).2.row.le
      unfold maxLen at hlk
      clear hcs
      generalize (g k).a = ga at c4
      generalize (g k).l = gl at c4 hlk
      generalize (g k).c = gc at c4
      by_cases hN : N < 9000
      · have t1 : decide (N < 9000) = true := decide_eq_true hN
        go_wp2_with fail
        all_goals
          go_round
          case rel => exact ⟨k + 1, _, by omega, by go_num, rfl, by omega, .inr (by omega)⟩
          case measure => simp [intOf]; omega
      · have t1 : decide (N < 9000) = false := decide_eq_false hN
        have t2 : decide (9000 ≤ N) = true := decide_eq_true (by omega)
        go_wp2_with fail
        go_ret
        exact ⟨_, rfl, fun h => by simp at h, rfl⟩
    · have hk' : k = len := by omega
      subst hk'
      by_cases hN : 9000 ≤ N
      · have t2 : decide (9000 ≤ N) = true := decide_eq_true hN
        go_wp2_with fail
        go_ret
        exact ⟨_, rfl, fun h => by simp at h, rfl⟩
      · have t2 : decide (9000 ≤ N) = false := decide_eq_false hN
        by_cases hK : 300 < k
        · have t3 : decide ((300 : Int) < (k : Int)) = true := by simp; omega
          go_wp2_with fail
          go_ret
          exact ⟨_, rfl, (fun h => by simp at h), rfl⟩
        · have t3 : decide ((300 : Int) < (k : Int)) = false := by simp; omega
          go_wp2_with fail
          go_ret
          exact ⟨_, rfl, (fun h => by simp at h; omega), rfl⟩

def HasP (L : List Int) (x : Int) (w : World) (e : Ending) (w' : World) : Prop :=
  ∃ a c, e = .returned (.slice a (if x ∈ L then 1 else 0) c) ∧ ArgI w' a (if x ∈ L then 1 else 0) c (if x ∈ L then [x] else []) ∧ Below w.heap.size w w'
set_option maxRecDepth 100000 in
set_option maxHeartbeats 2000000 in
theorem has_any (a : Option Addr) (n c : Nat) (L : List Int) (x : Int) (w : World) (h : Ir w a n L) (hx : (Lit.int .i64 x).wf = true) : Calls Try.prog 27 #[.slice a n c, .int .i64 x] w (HasP L x w) := by
  have hle := h.le
  unfold maxLen at hle
  have H := Lib.hid h
  have HX := Lib.hid hx
  clear h hx
  go_enter Try.func27, Try.ntmps27
  go_wp2_with fail
  go_loop [5] (fun i => ∃ k : Nat, k ≤ n ∧ i = .int .i64 k ∧ ∀ j, j < k → ¬ L.getD j 0 = x) (fun i => n - (intOf i).toNat)
  case atStart => exact ⟨0, Nat.zero_le _, rfl, fun j hj => by omega⟩
  case round =>
    obtain ⟨k, hk, rfl, hb⟩ := hrel
    by_cases hkn : k < n
    · obtain ⟨b, off, ha, _, hc⟩ := H.out.pos (by omega)
      subst ha
      have hc0 := hc k hkn
      have hkl : k < L.length := by rw [H.out.ln]; exact hkn
      have hmem : L.getD k 0 ∈ L := by simp only [List.getD]; rw [List.getElem?_eq_getElem hkl]; exact List.getElem_mem hkl
      by_cases hy : L.getD k 0 = x
      · rw [hy] at hc0 hmem
        have HP : Hid (HasP L x w (.returned (.slice (some ⟨w.heap.size, 0, none⟩) 1 1)) (w.alloc (.cells #[.int .i64 x] 3 (0, 0)))) := Lib.hid (by
          unfold HasP; rw [if_pos hmem, if_pos hmem]; exact ⟨_, _, rfl, lit1 w 3 x HX.out, alloc_b w _⟩)
        clear hb hc hmem hy
        go_wp2_with fail
        go_ret
        exact HP.out
      · have HB := Lib.hid hb
        have HY := Lib.hid hy
        generalize L.getD k 0 = y at hc0 hy
        have d1 : decide (y = x) = false := by simpa using hy
        clear hb hc hmem
        go_wp2_with fail
        go_round
        case rel =>
          refine ⟨k + 1, by omega, by go_num, fun j hj => ?_⟩
          by_cases e : j = k
          · subst e; exact HY.out
          · exact HB.out j (by omega)
        case measure => simp [intOf]; omega
    · have hk' : k = n := by omega
      subst hk'
      have hno : ¬ x ∈ L := by
        intro hx
        obtain ⟨j, hj, e⟩ := List.getElem_of_mem hx
        have := hb j (by rw [H.out.ln] at hj; exact hj)
        simp only [List.getD, List.getElem?_eq_getElem hj, Option.getD_some] at this
        exact this e
      have HP : Hid (HasP L x w (.returned (.slice none 0 0)) w) := Lib.hid (by
        unfold HasP; rw [if_neg hno, if_neg hno]; exact ⟨none, 0, rfl, ⟨Ir.nil _ _, fun _ => ⟨rfl, rfl⟩, Nat.le_refl _, Nat.zero_le _⟩, Below.refl _ _⟩)
      clear hb hno
      go_wp2_with fail
      go_ret
      exact HP.out
end Go.Proofs.Ytfloceoopjokcaa
