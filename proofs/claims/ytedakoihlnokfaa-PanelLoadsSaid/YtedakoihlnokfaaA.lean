/- How lamps go: tables. -/
import Derived.Test.YtedakoihlnokfaaInts
namespace Go.Proofs.Ytedakoihlnokfaa
set_option linter.unusedVariables false
open Go.ChangeShapes Go.WideShapes Go.ChangeAt Go.RowKit

def tv (T : List Int) : Value := .agg (iv T).toArray
theorem list9 {T : List Int} (h : T.length = 9) : ∃ a b c d e f g i j, T = [a, b, c, d, e, f, g, i, j] := by
  match T, h with
  | [a, b, c, d, e, f, g, i, j], _ => exact ⟨a, b, c, d, e, f, g, i, j, rfl⟩
def z9 : List Int := [0, 0, 0, 0, 0, 0, 0, 0, 0]
/-- Nine cells. -/
structure C9 (w : World) (g : Nat) (a b c d e f h i j : Int) : Prop where
  c0 : w.cell? ⟨g, 0, none⟩ = some (.int .i64 a)
  c1 : w.cell? ⟨g, 1, none⟩ = some (.int .i64 b)
  c2 : w.cell? ⟨g, 2, none⟩ = some (.int .i64 c)
  c3 : w.cell? ⟨g, 3, none⟩ = some (.int .i64 d)
  c4 : w.cell? ⟨g, 4, none⟩ = some (.int .i64 e)
  c5 : w.cell? ⟨g, 5, none⟩ = some (.int .i64 f)
  c6 : w.cell? ⟨g, 6, none⟩ = some (.int .i64 h)
  c7 : w.cell? ⟨g, 7, none⟩ = some (.int .i64 i)
  c8 : w.cell? ⟨g, 8, none⟩ = some (.int .i64 j)
  f0 : w.frozen? ⟨g, 0, none⟩ = false
  f1 : w.frozen? ⟨g, 1, none⟩ = false
  f2 : w.frozen? ⟨g, 2, none⟩ = false
  f3 : w.frozen? ⟨g, 3, none⟩ = false
  f4 : w.frozen? ⟨g, 4, none⟩ = false
  f5 : w.frozen? ⟨g, 5, none⟩ = false
  f6 : w.frozen? ⟨g, 6, none⟩ = false
  f7 : w.frozen? ⟨g, 7, none⟩ = false
  f8 : w.frozen? ⟨g, 8, none⟩ = false
theorem c9_of {w : World} {g : Nat} {t : TypeId} {a b c d e f h i j : Int} (hb : w.heap[g]? = some (.cells (iv [a, b, c, d, e, f, h, i, j]).toArray t (0, 0))) : C9 w g a b c d e f h i j := by
  have k := fun n (hn : n < 9) => iv_cell hb (k := n) hn
  exact ⟨(k 0 (by omega)).1, (k 1 (by omega)).1, (k 2 (by omega)).1, (k 3 (by omega)).1, (k 4 (by omega)).1, (k 5 (by omega)).1, (k 6 (by omega)).1, (k 7 (by omega)).1, (k 8 (by omega)).1, (k 0 (by omega)).2, (k 1 (by omega)).2, (k 2 (by omega)).2, (k 3 (by omega)).2, (k 4 (by omega)).2, (k 5 (by omega)).2, (k 6 (by omega)).2, (k 7 (by omega)).2, (k 8 (by omega)).2⟩
/-- Nine stores. -/
def st9 (w : World) (g : Nat) (a b c d e f h i j : Int) : World := ((((((((w.setCell ⟨g, 0, none⟩ (.int .i64 a)).setCell ⟨g, 1, none⟩ (.int .i64 b)).setCell ⟨g, 2, none⟩ (.int .i64 c)).setCell ⟨g, 3, none⟩ (.int .i64 d)).setCell ⟨g, 4, none⟩ (.int .i64 e)).setCell ⟨g, 5, none⟩ (.int .i64 f)).setCell ⟨g, 6, none⟩ (.int .i64 h)).setCell ⟨g, 7, none⟩ (.int .i64 i)).setCell ⟨g, 8, none⟩ (.int .i64 j)
theorem st9_block {w : World} {g : Nat} {t : TypeId} {L : List Int} (hL : L.length = 9) (hb : w.heap[g]? = some (.cells (iv L).toArray t (0, 0))) (a b c d e f h i j : Int) : (st9 w g a b c d e f h i j).heap[g]? = some (.cells (iv [a, b, c, d, e, f, h, i, j]).toArray t (0, 0)) := by
  obtain ⟨x0, x1, x2, x3, x4, x5, x6, x7, x8, rfl⟩ := list9 hL
  have q := set_block (set_block (set_block (set_block (set_block (set_block (set_block (set_block (set_block hb 0 (.int .i64 a)) 1 (.int .i64 b)) 2 (.int .i64 c)) 3 (.int .i64 d)) 4 (.int .i64 e)) 5 (.int .i64 f)) 6 (.int .i64 h)) 7 (.int .i64 i)) 8 (.int .i64 j)
  simpa [st9, iv] using q
theorem st9_below {w0 w : World} {B g : Nat} (h : Below B w0 w) (hg : B ≤ g) (a b c d e f i j k : Int) : Below B w0 (st9 w g a b c d e f i j k) :=
  ((((((((h.setCell (p := ⟨g, 0, none⟩) hg _).setCell (p := ⟨g, 1, none⟩) hg _).setCell (p := ⟨g, 2, none⟩) hg _).setCell (p := ⟨g, 3, none⟩) hg _).setCell (p := ⟨g, 4, none⟩) hg _).setCell (p := ⟨g, 5, none⟩) hg _).setCell (p := ⟨g, 6, none⟩) hg _).setCell (p := ⟨g, 7, none⟩) hg _).setCell (p := ⟨g, 8, none⟩) hg _
def TabP (w : World) (T : List Int) (e : Ending) (w' : World) : Prop := e = .returned (tv T) ∧ Below w.heap.size w w'
def stL (k : Nat) : List Int := (List.range 9).map fun i => if i < k then (i : Int) else 0
theorem stL_len (k : Nat) : (stL k).length = 9 := by simp [stL]
theorem stL_set (k : Nat) (hk : k < 9) : (stL k).set k (k : Int) = stL (k + 1) := by
  have : ∀ k : Fin 9, (stL k).set k (k : Int) = stL (k + 1) := by decide
  exact this ⟨k, hk⟩
set_option maxRecDepth 100000 in
set_option maxHeartbeats 2000000 in
theorem still_any (w : World) : Calls Try.prog 52 #[] w (TabP w [0, 1, 2, 3, 4, 5, 6, 7, 8]) := by
  have n9 : Try.prog.arrayLen 53 = 9 := by kernel_rfl
  go_enter Try.func52, Try.ntmps52
  go_wp2_with fail
  have b0 := alloc_b w (.cells (iv z9).toArray 53 (0, 0))
  have b1 := alloc_b (w.alloc (.cells (iv z9).toArray 53 (0, 0))) (.cells (iv z9).toArray 53 (0, 0))
  have hr := (low_of b1 (heap_alloc_new w (.cells (iv z9).toArray 53 (0, 0))))
  have ht := heap_alloc_new (w.alloc (.cells (iv z9).toArray 53 (0, 0))) (.cells (iv z9).toArray 53 (0, 0))
  have hbw := b0.trans (b1.mono b0.size)
  rw [World.size_alloc] at ht
  have HR := Lib.hid hr
  have HT := Lib.hid ht
  have HB := Lib.hid hbw
  clear b0 b1 hr ht hbw
  go_loopw [3] (fun i wr => ∃ k : Nat, k ≤ 9 ∧ i = .int .i64 k ∧ wr.heap[w.heap.size]? = some (.cells (iv z9).toArray 53 (0, 0)) ∧ wr.heap[w.heap.size + 1]? = some (.cells (iv (stL k)).toArray 53 (0, 0)) ∧ Below w.heap.size w wr) (fun i _ => 9 - (intOf i).toNat)
  case atStart => exact ⟨0, Nat.zero_le _, rfl, HR.out, HT.out, HB.out⟩
  case round =>
    obtain ⟨wo, rfl⟩ : ∃ wo : World, wo = wr := ⟨_, rfl⟩
    obtain ⟨k, hk, rfl, h1, h2, hb⟩ := hrel
    by_cases hkn : k < 9
    · obtain ⟨c1, f1⟩ := iv_cell h2 (k := k) (by rw [stL_len]; exact hkn)
      have hs := set_block h2 k (.int .i64 (k : Int))
      rw [iv_set, stL_set k hkn] at hs
      have hz : (wo.setCell ⟨w.heap.size + 1, k, none⟩ (.int .i64 (k : Int))).heap[w.heap.size]? = some (.cells (iv z9).toArray 53 (0, 0)) := (Below.heap_setCell _ _ _ _ (show w.heap.size ≠ w.heap.size + 1 by omega)).trans h1
      have hb2 := Below.setCell hb (p := ⟨w.heap.size + 1, k, none⟩) (by show w.heap.size ≤ w.heap.size + 1; omega) (.int .i64 (k : Int))
      have HS := Lib.hid hs
      have HZ := Lib.hid hz
      have HB2 := Lib.hid hb2
      have d0 : (k : Int) < 9 := by omega
      have d2 : (k : Int) < (Try.prog.arrayLen 53 : Int) := by rw [n9]; omega
      clear h1 h2 hb hs hz hb2
      go_wp2_with fail
      go_roundw
      case rel => exact ⟨k + 1, by omega, by go_num, HZ.out, HS.out, HB2.out⟩
      case measure => simp [intOf]; omega
    · have hk' : k = 9 := by omega
      subst hk'
      obtain ⟨c0, c1, c2, c3, c4, c5, c6, c7, c8, _, _, _, _, _, _, _, _, _⟩ := c9_of (a := 0) (b := 1) (c := 2) (d := 3) (e := 4) (f := 5) (h := 6) (i := 7) (j := 8) (t := 53) h2
      obtain ⟨d0, d1, d2, d3, d4, d5, d6, d7, d8, f0, f1, f2, f3, f4, f5, f6, f7, f8⟩ := c9_of (a := 0) (b := 0) (c := 0) (d := 0) (e := 0) (f := 0) (h := 0) (i := 0) (j := 0) (t := 53) h1
      have hF := Lib.hid (st9_block (L := z9) rfl h1 0 1 2 3 4 5 6 7 8)
      have hB := Lib.hid (st9_below hb (Nat.le_refl _) 0 1 2 3 4 5 6 7 8)
      clear h1 h2 hb
      go_wp2_with fail
      show bodyPost Try.prog Try.f52 _ Exit.ret _ (st9 wo w.heap.size 0 1 2 3 4 5 6 7 8)
      have hF := hF.out
      have hB := hB.out
      generalize st9 wo w.heap.size 0 1 2 3 4 5 6 7 8 = wF at hF hB ⊢
      obtain ⟨g0, g1, g2, g3, g4, g5, g6, g7, g8, _, _, _, _, _, _, _, _, _⟩ := c9_of hF
      exact bodyPost_ret (v := tv [0, 1, 2, 3, 4, 5, 6, 7, 8]) (by simp [results, Try.results52, go_sem, g0, g1, g2, g3, g4, g5, g6, g7, g8, tv, iv]) rfl ⟨rfl, hB⟩
def setAll (T : List Int) (v : Int) : List Nat → List Int
  | [] => T
  | x :: S => setAll (T.set x v) v S
theorem setAll_len (T : List Int) (v : Int) (S : List Nat) : (setAll T v S).length = T.length := by
  induction S generalizing T with
  | nil => rfl
  | cons x S ih => simp [setAll, ih]
theorem setAll_snoc (T : List Int) (v : Int) (S : List Nat) (x : Nat) : setAll T v (S ++ [x]) = (setAll T v S).set x v := by
  induction S generalizing T with
  | nil => rfl
  | cons y S ih => simp [setAll, ih]
theorem take_snocN (F : List Nat) (k : Nat) (h : k < F.length) : F.take (k + 1) = F.take k ++ [F.getD k 0] := by
  rw [List.take_succ_eq_append_getElem h]
  simp [List.getD, List.getElem?_eq_getElem h]
def nl (S : List Nat) : List Int := S.map fun n : Nat => (n : Int)
theorem nl_getD (S : List Nat) (k : Nat) : (nl S).getD k 0 = ((S.getD k 0 : Nat) : Int) := by
  simp only [nl, List.getD, List.getElem?_map]
  cases S[k]? <;> rfl
theorem getD_lt9 {S : List Nat} (h : ∀ x ∈ S, x < 9) (k : Nat) : S.getD k 0 < 9 := by
  simp only [List.getD]
  by_cases hk : k < S.length
  · rw [List.getElem?_eq_getElem hk]; exact h _ (List.getElem_mem hk)
  · rw [List.getElem?_eq_none (by omega)]; simp
set_option maxRecDepth 100000 in
set_option maxHeartbeats 4000000 in
theorem to_any (T : List Int) (S : List Nat) (v : Int) (g n : Nat) (w : World) (hT : T.length = 9) (hS : ∀ x ∈ S, x < 9) (hg : w.heap[g]? = some (.cells (iv (nl S)).toArray 3 (0, 0))) (hn : n = S.length) (hn2 : n ≤ 100) :
    Calls Try.prog 45 #[tv T, .int .i64 v, .slice (some ⟨g, 0, none⟩) n n] w (TabP w (setAll T v S)) := by
  have n9 : Try.prog.arrayLen 53 = 9 := by kernel_rfl
  obtain ⟨P, hP⟩ : ∃ P, P = (TabP w (setAll T v S) : Ending → World → Prop) := ⟨_, rfl⟩
  rw [← hP]
  have HP := Lib.hid hP
  have b0 := alloc_b w (.cells (iv T).toArray 53 (0, 0))
  have b1 := alloc_b (w.alloc (.cells (iv T).toArray 53 (0, 0))) (.cells (iv z9).toArray 53 (0, 0))
  have ht := (low_of b1 (heap_alloc_new w (.cells (iv T).toArray 53 (0, 0))))
  have hr := heap_alloc_new (w.alloc (.cells (iv T).toArray 53 (0, 0))) (.cells (iv z9).toArray 53 (0, 0))
  have hbw := b0.trans (b1.mono b0.size)
  rw [World.size_alloc] at hr
  have HR := Lib.hid hr
  have HT := Lib.hid ht
  have HB := Lib.hid hbw
  have HG := Lib.hid hg
  have HN := Lib.hid hn
  have HSB := Lib.hid hS
  have HTL := Lib.hid hT
  obtain ⟨T0, hT0⟩ : ∃ T0, T0 = T := ⟨_, rfl⟩
  have HT0 := Lib.hid hT0
  obtain ⟨a0, a1, a2, a3, a4, a5, a6, a7, a8, rfl⟩ := list9 hT
  rw [← hT0] at HP HTL
  clear b0 b1 hr ht hbw hg hn hS hT hT0 hP
  simp only [tv, iv, List.map_cons, List.map_nil]
  go_enter Try.func45, Try.ntmps45
  go_wp2_with fail
  go_loopw [11] (fun i wr => ∃ k : Nat, k ≤ n ∧ i = .int .i64 k ∧ wr.heap[w.heap.size + 1]? = some (.cells (iv z9).toArray 53 (0, 0)) ∧ wr.heap[w.heap.size]? = some (.cells (iv (setAll T0 v (S.take k))).toArray 53 (0, 0)) ∧ Below w.heap.size w wr) (fun i _ => n - (intOf i).toNat)
  case atStart => exact ⟨0, Nat.zero_le _, rfl, HR.out, by rw [HT0.out]; exact HT.out, HB.out⟩
  case round =>
    obtain ⟨wo, rfl⟩ : ∃ wo : World, wo = wr := ⟨_, rfl⟩
    obtain ⟨k, hk, rfl, h1, h2, hb⟩ := hrel
    by_cases hkn : k < n
    · have hx := getD_lt9 HSB.out k
      have htk := take_snocN S k (by rw [← HN.out]; exact hkn)
      have hc := (iv_cell (low_of hb HG.out) (k := k) (by simp [nl]; rw [← HN.out]; exact hkn)).1
      rw [nl_getD] at hc
      generalize S.getD k 0 = x at hx htk hc
      obtain ⟨c1, f1⟩ := iv_cell h2 (k := x) (by rw [setAll_len, HTL.out]; exact hx)
      have hs := set_block h2 x (.int .i64 v)
      rw [iv_set, ← setAll_snoc, ← htk] at hs
      have hz : (wo.setCell ⟨w.heap.size, x, none⟩ (.int .i64 v)).heap[w.heap.size + 1]? = some (.cells (iv z9).toArray 53 (0, 0)) := (Below.heap_setCell _ _ _ _ (show w.heap.size + 1 ≠ w.heap.size by omega)).trans h1
      have hb2 := Below.setCell hb (p := ⟨w.heap.size, x, none⟩) (Nat.le_refl _) (.int .i64 v)
      have HS := Lib.hid hs
      have HZ := Lib.hid hz
      have HB2 := Lib.hid hb2
      have d0 : (k : Int) < (n : Int) := by omega
      have d2 : (x : Int) < 9 := by omega
      have d3 : (x : Int) < (Try.prog.arrayLen 53 : Int) := by rw [n9]; omega
      clear h1 h2 hb hs hz hb2 htk
      go_wp2_with fail
      go_roundw
      case rel => exact ⟨k + 1, by omega, by go_num, HZ.out, HS.out, HB2.out⟩
      case measure => simp [intOf]; omega
    · have hk' : k = n := by omega
      subst hk'
      rw [List.take_of_length_le (by rw [HN.out]; exact Nat.le_refl _)] at h2
      obtain ⟨b0, b1, b2, b3, b4, b5, b6, b7, b8, hb9⟩ := list9 ((setAll_len T0 v S).trans HTL.out)
      have HB9 := Lib.hid hb9
      rw [hb9] at h2
      obtain ⟨c0, c1, c2, c3, c4, c5, c6, c7, c8, _, _, _, _, _, _, _, _, _⟩ := c9_of h2
      obtain ⟨d0, d1, d2, d3, d4, d5, d6, d7, d8, f0, f1, f2, f3, f4, f5, f6, f7, f8⟩ := c9_of (a := 0) (b := 0) (c := 0) (d := 0) (e := 0) (f := 0) (h := 0) (i := 0) (j := 0) (t := 53) h1
      have hF := Lib.hid (st9_block (L := z9) rfl h1 b0 b1 b2 b3 b4 b5 b6 b7 b8)
      have hB := Lib.hid (st9_below hb (Nat.le_succ _) b0 b1 b2 b3 b4 b5 b6 b7 b8)
      clear h1 h2 hb hb9
      go_wp2_with fail
      rw [HP.out, HB9.out]
      show bodyPost Try.prog Try.f45 _ Exit.ret _ (st9 wo (w.heap.size + 1) b0 b1 b2 b3 b4 b5 b6 b7 b8)
      have hF := hF.out
      have hB := hB.out
      generalize st9 wo (w.heap.size + 1) b0 b1 b2 b3 b4 b5 b6 b7 b8 = wF at hF hB ⊢
      obtain ⟨g0, g1, g2, g3, g4, g5, g6, g7, g8, _, _, _, _, _, _, _, _, _⟩ := c9_of hF
      exact bodyPost_ret (v := tv [b0, b1, b2, b3, b4, b5, b6, b7, b8]) (by simp [results, Try.results45, go_sem, g0, g1, g2, g3, g4, g5, g6, g7, g8, tv, iv]) rfl ⟨rfl, hB⟩
end Go.Proofs.Ytedakoihlnokfaa
