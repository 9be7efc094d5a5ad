/- All ends. -/
import Derived.Test.YtfloceoopjokcaaC
import Derived.Laws.MakeOwn
namespace Go.Proofs.Ytfloceoopjokcaa
set_option linter.unusedVariables false
open Go.ChangeShapes Go.WideShapes Go.ChangeAt Go.RowKit

theorem set_block {w : World} {b : Nat} {cs : Array Value} {t : TypeId} (h : w.heap[b]? = some (.cells cs t (0, 0))) (i : Nat) (u : Value) :
    (w.setCell ⟨b, i, none⟩ u).heap[b]? = some (.cells (cs.setIfInBounds i u) t (0, 0)) := by
  have hlt := blk_lt h
  have h' : w.heap[b] = .cells cs t (0, 0) := by simpa [Array.getElem?_eq_getElem hlt] using h
  show (w.heap.modify b _)[b]? = _
  rw [Array.getElem?_eq_getElem (by simpa using hlt), Array.getElem_modify_self, h']
  rfl
theorem below_set {w : World} {B b : Nat} (hB : B ≤ b) (hs : B ≤ w.heap.size) (i : Nat) (u : Value) : Below B w (w.setCell ⟨b, i, none⟩ u) :=
  ⟨rfl, rfl, rfl, by simp [World.setCell], fun k hk => Below.heap_setCell _ _ _ _ (show k ≠ b by omega)⟩
/-- The first k of E, and zeros. -/
def aL (E : List Int) (n k : Nat) : List Int := (List.range n).map fun i => if i < k then E.getD i 0 else 0
theorem aL_len (E : List Int) (n k : Nat) : (aL E n k).length = n := by simp [aL]
theorem aL_get (E : List Int) (n k i : Nat) (h : i < n) : (aL E n k).getD i 0 = if i < k then E.getD i 0 else 0 := by
  simp only [aL, List.getD, List.getElem?_map]
  rw [List.getElem?_range h]; rfl
theorem aL_set (E : List Int) (n k : Nat) (h : k < n) : (aL E n k).set k (E.getD k 0) = aL E n (k + 1) := by
  apply List.ext_getElem (by simp [aL])
  intro i h1 h2
  rw [List.getElem_set]
  simp only [aL, List.getElem_map, List.getElem_range]
  by_cases e : k = i
  · subst e; simp
  · rw [if_neg e]
    by_cases q : i < k
    · rw [if_pos q, if_pos (by omega)]
    · rw [if_neg q, if_neg (by omega)]
theorem aL_full (E : List Int) (n : Nat) (h : E.length = n) : aL E n n = E := by
  subst h
  apply List.ext_getElem (by simp [aL])
  intro i h1 h2
  simp only [aL, List.getElem_map, List.getElem_range, if_pos h2, List.getD, List.getElem?_eq_getElem h2]
  rfl
theorem made_aL (E : List Int) (n : Nat) : (madeCells (Value.int .i64 0).cells (n * 1)).toList = iv (aL E n 0) := by
  simp [madeCells, Value.cells, iv, aL, Nat.mod_one, List.map_const']
theorem iv_set (L : List Int) (k : Nat) (x : Int) : (iv L).toArray.setIfInBounds k (.int .i64 x) = (iv (L.set k x)).toArray := by
  simp [iv, List.map_set]
theorem iv_cell {w : World} {g k : Nat} {L : List Int} {t : TypeId} (h : w.heap[g]? = some (.cells (iv L).toArray t (0, 0))) (hk : k < L.length) : w.cell? ⟨g, k, none⟩ = some (.int .i64 (L.getD k 0)) ∧ w.frozen? ⟨g, k, none⟩ = false := by
  constructor
  · simp only [World.cell?, h]
    have := iv_get L k hk
    simpa using this
  · simp [World.frozen?, h]

def AllP (w : World) (n : Nat) (E : List Int) (e : Ending) (w' : World) : Prop :=
  ∃ g, e = .returned (.slice (some ⟨g, 0, none⟩) n n) ∧ ArgI w' (some ⟨g, 0, none⟩) n n E ∧ w.heap.size ≤ g ∧ Below w.heap.size w w'
set_option maxRecDepth 100000 in
set_option maxHeartbeats 2000000 in
theorem all_any {B : Nat} {w : World} {t m cn : Nat} {Lm E : List Int} (h : Tb B w t m cn Lm E) (hn : Lm.length * 8 ≤ 140737488355328) :
    Calls Try.prog 25 #[.pointer (some ⟨t, 0, none⟩)] w (AllP w Lm.length E) := by
  obtain ⟨la, lc, h1, _⟩ := h.blk
  obtain ⟨c0, _, _, _⟩ := cells2 h1
  have hE := h.ln
  have hbd := h.bd
  have H := Lib.hid h
  obtain ⟨n, hnn⟩ : ∃ n, n = Lm.length := ⟨_, rfl⟩
  rw [← hnn] at c0 hn hE ⊢
  clear h h1 hnn
  obtain ⟨ti, hti, hz0, hz1, hz2⟩ := info_parts info2
  obtain ⟨w1, hmk, ho, hg⟩ := run_make_full (P := Try.prog) w w.heap.size 22 2 ti (.int .i64 0) 1 Try.underlying22 hti hz0 hz1 .i64 .i64 n (by rw [hz2]; omega) (by unfold maxLen; omega) (Nat.le_refl _)
  have b1 : Below w.heap.size w w1 := (Below.refl _ _).grown hg (Nat.le_refl _) (fun k e => by cases e)
  have hmk' : (Instr.makeSlice 22 (.int .i64 (n : Int)) (.int .i64 (n : Int))).run Try.prog w = .ok (.slice (some ⟨w.heap.size, 0, none⟩) n n) w1 := hmk
  have hb1 : w1.heap[w.heap.size]? = some (.cells (iv (aL E n 0)).toArray 2 (0, 0)) := by
    obtain ⟨hl, ⟨hv, h0⟩ | ⟨g, cap, cur, hv, hg, hb, hl', hm, hs, ht⟩⟩ := ho
    · cases hv
    · simp only [Value.slice.injEq, Option.some.injEq, Addr.mk.injEq, and_true, true_and] at hv
      obtain ⟨rfl, rfl⟩ := hv
      have hc : cur.toList = iv (aL E n 0) := by
        rw [← made_aL E n, ← ht, List.take_of_length_le (by simp [hs])]
      rw [hb, ← hc]
  have B1 := Lib.hid b1
  have HB := Lib.hid hb1
  obtain ⟨g, hgg⟩ : ∃ g, g = w.heap.size := ⟨_, rfl⟩
  have HG := Lib.hid hgg
  rw [← hgg] at hmk'
  have HE := Lib.hid hE
  have BD := Lib.hid hbd
  clear ho hg hmk b1 hb1 hti hz0 hz1 hz2 hgg hE hbd
  go_enter Try.func25, Try.ntmps25
  go_wp2_with fail
  go_loopw [13] (fun i wr => ∃ k : Nat, k ≤ n ∧ i = .int .i64 k ∧ wr.heap[g]? = some (.cells (iv (aL E n k)).toArray 2 (0, 0)) ∧ Below w.heap.size w wr) (fun i _ => n - (intOf i).toNat)
  case atStart => exact ⟨0, Nat.zero_le _, rfl, by rw [HG.out]; exact HB.out, B1.out⟩
  case round =>
    obtain ⟨wo, rfl⟩ : ∃ wo : World, wo = wr := ⟨_, rfl⟩
    obtain ⟨k, hk, rfl, hgk, hb⟩ := hrel
    by_cases hkn : k < n
    · have hkw : (Lit.int .i64 (k : Int)).wf = true := wf_i64 (by omega) (by omega)
      obtain ⟨tc, tz⟩ := iv_cell hgk (k := k) (by rw [aL_len]; exact hkn)
      have hset := set_block hgk k (.int .i64 (E.getD k 0))
      rw [iv_set, aL_set E n k hkn] at hset
      have hb2 := hb.trans (below_set (b := g) (by rw [HG.out]; exact Nat.le_refl _) hb.size k (.int .i64 (E.getD k 0)))
      have hu : unt E (k : Int) = E.getD k 0 := by unfold unt; rw [if_pos (by omega)]; simp
      have T := Lib.hid (H.out.below hb)
      have HS := Lib.hid hset
      have HB2 := Lib.hid hb2
      have HU := Lib.hid hu
      clear hgk hb hset hb2 hu
      generalize E.getD k 0 = u at *
      go_wp2_with fail
      refine (until_any T.out k hkw).mono ?_
      rintro e w2 ⟨rfl, rfl⟩
      rw [HU.out]
      go_wp2_with fail
      go_roundw
      case rel => exact ⟨k + 1, by omega, by go_num, HS.out, HB2.out⟩
      case measure => simp [intOf]; omega
    · have hk' : k = n := by omega
      subst hk'
      rw [aL_full E k HE.out] at hgk
      have HP : Hid (AllP w k E (.returned (.slice (some ⟨g, 0, none⟩) k k)) wo) := Lib.hid ⟨g, rfl, ⟨⟨HE.out, by unfold maxLen; omega, fun x hx => by have := BD.out x hx; exact wf_i64 (by omega) (by omega), .inr ⟨g, 0, rfl, blk_lt hgk, fun i hi => by have := (iv_cell hgk (k := i) (by rw [HE.out]; exact hi)).1; simpa using this⟩⟩, (fun e => by cases e), Nat.le_refl _, by unfold maxLen; omega⟩, by rw [HG.out]; exact Nat.le_refl _, hb⟩
      clear hgk hb
      go_wp2_with fail
      go_ret
      exact HP.out
end Go.Proofs.Ytfloceoopjokcaa
