/- Places: New. -/
import Derived.Test.YtdolgpogjnfpkaaKb
import Derived.Test.YtdolgpogjnfpkaaZ
namespace Go.Proofs.Ytdolgpogjnfpkaa
set_option linter.unusedVariables false
set_option linter.unusedSimpArgs false
open Go.ChangeShapes Go.WideShapes Go.ChangeAt Go.RowKit

/-- No less than none, and no more than may be. -/
def clB (n : Int) : Nat := if n < 0 then 0 else if n < 256 then n.toNat else 256
theorem clB_le (n : Int) : clB n ≤ 256 := by unfold clB; split; omega; split <;> omega
def n4 (x0 x1 x2 x3 : Int) : Nat → Int := fun k => match k with | 0 => x0 | 1 => x1 | 2 => x2 | _ => x3
/-- k rows are made. -/
structure Nw (w : World) (x0 x1 x2 x3 : Int) (p : Nat) (k : Nat) (s : Nat → Nat) (W : World) : Prop where
  hp : w.heap.size ≤ p
  blk : W.heap[p]? = some (.cells ((List.range 4).map fun j => if j < k then (.slice (some ⟨s j, 0, none⟩) (clB (n4 x0 x1 x2 x3 j)) (clB (n4 x0 x1 x2 x3 j)) : Value) else .slice none 0 0).toArray 64 (0, 0))
  hs : ∀ j, j < k → w.heap.size ≤ s j ∧ s j ≠ p ∧ s j < W.heap.size
  ne : ∀ i j, i < k → j < k → i ≠ j → s i ≠ s j
  row : ∀ j, j < k → W.heap[s j]? = some (.cells (wv (List.replicate (clB (n4 x0 x1 x2 x3 j)) 0)).toArray 34 (0, 0))
  bel : Below w.heap.size w W
theorem Nw.done {w W : World} {x0 x1 x2 x3 : Int} {p : Nat} {s : Nat → Nat} (h : Nw w x0 x1 x2 x3 p 4 s W) : Bn w.heap.size W p s (fun j => List.replicate (clB (n4 x0 x1 x2 x3 j)) 0) := by
  refine ⟨h.hp, ?_, fun k hk => ⟨(h.hs k hk).1, (h.hs k hk).2.1⟩, h.ne, h.row, fun k hk => ?_, fun k hk v hv => ?_⟩
  · rw [h.blk]
    simp [List.range, List.range.loop, slB]
  · simp; exact clB_le _
  · rw [List.mem_replicate] at hv; omega
theorem Nw.next {w W : World} {x0 x1 x2 x3 : Int} {p k : Nat} {s : Nat → Nat} (h : Nw w x0 x1 x2 x3 p k s W) (hk : k < 4) {c : Nat} (hc : c = clB (n4 x0 x1 x2 x3 k)) {W1 : World} (g1 : Below W.heap.size W W1) (g2 : W1.heap[W.heap.size]? = some (.cells (wv (List.replicate c 0)).toArray 34 (0, 0))) :
    Nw w x0 x1 x2 x3 p (k + 1) (fun j => if j = k then W.heap.size else s j) (W1.setCell ⟨p, k, none⟩ (.slice (some ⟨W.heap.size, 0, none⟩) c c)) := by
  have hpl := blk_ltB h.blk
  have hoth : ∀ q, q ≠ p → (W1.setCell ⟨p, k, none⟩ (.slice (some ⟨W.heap.size, 0, none⟩) c c)).heap[q]? = W1.heap[q]? := fun q hq => Below.heap_setCell _ _ _ _ hq
  have hs1 := g1.size
  have hlt := blk_ltB g2
  refine ⟨h.hp, ?_, fun j hj => ?_, fun i j hi hj hij => ?_, fun j hj => ?_, ?_⟩
  · have hb := (g1.block p hpl).trans h.blk
    simp only [World.setCell, Array.getElem?_modify, if_true, hb, Option.map_some]
    congr 1
    have : k = 0 ∨ k = 1 ∨ k = 2 ∨ k = 3 := by omega
    rcases this with rfl | rfl | rfl | rfl <;> simp [List.range, List.range.loop, hc]
  · by_cases e : j = k
    · subst e; simp only [if_true]; exact ⟨h.bel.size, by omega, by simp; omega⟩
    · simp only [if_neg e]
      obtain ⟨h1, h2, h3⟩ := h.hs j (by omega)
      exact ⟨h1, h2, by simp; omega⟩
  · by_cases e : i = k
    · subst e
      rw [if_pos rfl, if_neg (fun q => hij q.symm)]
      have := (h.hs j (by omega)).2.2; omega
    · rw [if_neg e]
      by_cases e2 : j = k
      · rw [if_pos e2]; have := (h.hs i (by omega)).2.2; omega
      · rw [if_neg e2]; exact h.ne i j (by omega) (by omega) hij
  · by_cases e : j = k
    · subst e
      rw [if_pos rfl, hoth _ (by omega), ← hc]; exact g2
    · rw [if_neg e]
      obtain ⟨h1, h2, h3⟩ := h.hs j (by omega)
      rw [hoth _ h2, g1.block _ h3]; exact h.row j (by omega)
  · exact (h.bel.trans (g1.mono h.bel.size)).setCell h.hp _
theorem Nw.drew {w W : World} {x0 x1 x2 x3 : Int} {p k : Nat} {s : Nat → Nat} (h : Nw w x0 x1 x2 x3 p k s W) : Nw w x0 x1 x2 x3 p k s W.drew :=
  ⟨h.hp, h.blk, h.hs, h.ne, h.row, h.bel.drew⟩
def NewBP (w : World) (x0 x1 x2 x3 : Int) (e : Ending) (w' : World) : Prop := ∃ p s, e = .returned (.pointer (some ⟨p, 0, none⟩)) ∧ Bn w.heap.size w' p s (fun j => List.replicate (clB (n4 x0 x1 x2 x3 j)) 0) ∧ Below w.heap.size w w'
set_option maxRecDepth 100000 in
set_option maxHeartbeats 4000000 in
theorem newb_any (x0 x1 x2 x3 : Int) (w : World) : Calls Try.prog 10 #[.agg #[.int .i64 x0, .int .i64 x1, .int .i64 x2, .int .i64 x3]] w (NewBP w x0 x1 x2 x3) := by
  obtain ⟨P, hP⟩ : ∃ P, P = (NewBP w x0 x1 x2 x3 : Ending → World → Prop) := ⟨_, rfl⟩
  rw [← hP]
  obtain ⟨p, hp⟩ : ∃ p, p = w.heap.size + 1 := ⟨_, rfl⟩
  have FIN : Hid (∀ W s, Nw w x0 x1 x2 x3 p 4 s W → P (.returned (.pointer (some ⟨p, 0, none⟩))) W) := Lib.hid (fun W s h => by rw [hP]; exact ⟨p, s, rfl, h.done, h.bel⟩)
  have HP := Lib.hid hp
  obtain ⟨W0, hW0⟩ : ∃ W, W = (w.alloc (.cells #[.int .i64 x0, .int .i64 x1, .int .i64 x2, .int .i64 x3] 22 (0, 0))).alloc (.cells #[.slice none 0 0, .slice none 0 0, .slice none 0 0, .slice none 0 0] 64 (0, 0)) := ⟨_, rfl⟩
  have N0 : Hid (Nw w x0 x1 x2 x3 p 0 (fun _ => 0) W0) := Lib.hid (by
    refine ⟨by omega, ?_, fun j hj => by omega, fun i j hi => by omega, fun j hj => by omega, ?_⟩
    · have := heap_alloc_new (w.alloc (.cells #[.int .i64 x0, .int .i64 x1, .int .i64 x2, .int .i64 x3] 22 (0, 0))) (.cells #[.slice none 0 0, .slice none 0 0, .slice none 0 0, .slice none 0 0] 64 (0, 0))
      rw [World.size_alloc] at this
      rw [hW0, hp, this]
      simp [List.range, List.range.loop]
    · rw [hW0]; exact ((Below.refl _ _).alloc (Nat.le_refl _) _).alloc (by simp) _)
  have HW0 := Lib.hid hW0
  clear hP hp hW0
  go_enter Try.func10, Try.ntmps10
  go_wp2_with fail
  rw [← HP.out, ← HW0.out]
  go_loopw [9] (fun iv wr => ∃ (k : Nat) (s : Nat → Nat), k ≤ 4 ∧ iv = .int .i64 k ∧ Nw w x0 x1 x2 x3 p k s wr) (fun iv _ => 4 - (intOf iv).toNat)
  case atStart => exact ⟨0, _, by omega, rfl, N0.out⟩
  case round =>
    obtain ⟨wo, rfl⟩ : ∃ wo : World, wo = wr := ⟨_, rfl⟩
    obtain ⟨k, s, hk, rfl, hN⟩ := hrel
    have HN := Lib.hid hN
    by_cases hk4 : k < 4
    · have hix : ∀ W, (Instr.index 22 (.agg #[.int .i64 x0, .int .i64 x1, .int .i64 x2, .int .i64 x3]) (.int .i64 (k : Int))).run Try.prog W = .ok (.int .i64 (n4 x0 x1 x2 x3 k)) W := by
        intro W
        rcases (show k = 0 ∨ k = 1 ∨ k = 2 ∨ k = 3 by omega) with rfl | rfl | rfl | rfl <;> rfl
      obtain ⟨x, hx⟩ : ∃ x, x = n4 x0 x1 x2 x3 k := ⟨_, rfl⟩
      rw [← hx] at hix
      obtain ⟨c, hc⟩ : ∃ c, c = clB x := ⟨_, rfl⟩
      have hcl : c ≤ 256 := by rw [hc]; exact clB_le _
      have hmk := fun W => make_w c (by omega) W
      obtain ⟨Z, hZ⟩ : ∃ Z, Z = (wv (List.replicate c 0)).toArray := ⟨_, rfl⟩
      rw [← hZ] at hmk
      have hcell : ∃ v, wo.cell? ⟨p, k, none⟩ = some v := by
        rcases (show k = 0 ∨ k = 1 ∨ k = 2 ∨ k = 3 by omega) with rfl | rfl | rfl | rfl <;> simp [World.cell?, hN.blk, List.range, List.range.loop]
      obtain ⟨v, hcell⟩ := hcell
      have hfz : wo.frozen? ⟨p, k, none⟩ = false := by simp [World.frozen?, hN.blk]
      have hpl := blk_ltB hN.blk
      have NXT : Hid (Nw w x0 x1 x2 x3 p (k + 1) (fun j => if j = k then wo.heap.size else s j) (((wo.setCell ⟨p, k, none⟩ (.slice (some ⟨wo.heap.size, 0, none⟩) c c)).alloc (.cells Z 34 (0, 0))).drew)) := Lib.hid (Nw.drew <| by rw [← World.setCell_alloc_past (w := wo) (.cells Z 34 (0, 0)) p k _ hpl]; exact hN.next hk4 (by rw [hc, hx]) ((Below.refl _ _).alloc (Nat.le_refl _) _) (by rw [hZ]; exact heap_alloc_new wo _))
      have hcase : (x < 0 ∧ c = 0) ∨ (0 ≤ x ∧ x < 256 ∧ (c : Int) = x) ∨ (256 ≤ x ∧ c = 256) := by
        rw [hc]; unfold clB; split
        · exact .inl ⟨by omega, rfl⟩
        · split
          · exact .inr (.inl ⟨by omega, by omega, by omega⟩)
          · exact .inr (.inr ⟨by omega, rfl⟩)
      have hkk : (k : Int) < 4 := by omega
      clear hN hc hx hZ
      rcases hcase with ⟨h1, rfl⟩ | ⟨h1, h2, h3⟩ | ⟨h1, rfl⟩
      · have hmk0 : ∀ W, (Instr.makeSlice 30 (.int .i64 0) (.int .i64 0)).run Try.prog W = .ok (.slice (some ⟨W.heap.size, 0, none⟩) 0 0) (W.alloc (.cells Z 34 (0, 0))) := hmk
        clear hmk
        go_wp2_with fail
        go_region
        all_goals
          go_wp2_with fail
          go_roundw
          case rel => exact ⟨k + 1, _, by omega, by go_num, NXT.out⟩
          case measure => simp [intOf]; omega
      · subst h3
        have e2 : (if 0 < c then (c : Int) else 0) = (c : Int) := by split <;> omega
        go_wp2_with fail
        go_region
        all_goals
          go_wp2_with fail
          go_roundw
          case rel => exact ⟨k + 1, _, by omega, by go_num, NXT.out⟩
          case measure => simp [intOf]; omega
      · have e3 : (if (256 : Int) < x then (256 : Int) else x) = 256 := by split <;> omega
        have hmk0 : ∀ W, (Instr.makeSlice 30 (.int .i64 256) (.int .i64 256)).run Try.prog W = .ok (.slice (some ⟨W.heap.size, 0, none⟩) 256 256) (W.alloc (.cells Z 34 (0, 0))) := hmk
        clear hmk
        go_wp2_with fail
        go_region
        all_goals
          go_wp2_with fail
          go_roundw
          case rel => exact ⟨k + 1, _, by omega, by go_num, NXT.out⟩
          case measure => simp [intOf]; omega
    · have hk' : k = 4 := by omega
      subst hk'
      clear hN
      go_wp2_with fail
      exact FIN.out _ _ HN.out
end Go.Proofs.Ytdolgpogjnfpkaa
