/- The table of nibbles. -/
import Derived.Test.YtdlcfnpnfdlahaaBase
import Derived.Test.YtdlcfnpnfdlahaaQM
namespace Go.Proofs.Ytdlcfnpnfdlahaa
set_option linter.unusedVariables false
open Go.ChangeShapes Go.WideShapes Go.ChangeAt Go.RowKit

theorem and_one_u16 (x : Nat) (h : x < 65536) : bits .and .u16 (x : Int) 1 = ((x % 2 : Nat) : Int) := by
  have := bits_and_u16_nat x 1 h (by omega)
  rw [Nat.and_one_is_mod] at this
  exact this

def tab (k : Nat) : Array Value := ((List.range 16).map fun i => Value.int .u16 ((if i < k then halves 4 i else 0 : Nat) : Int)).toArray
theorem tab_set (k : Nat) (h : k < 16) : (tab k).setIfInBounds k (.int .u16 ((halves 4 k : Nat) : Int)) = tab (k + 1) := by
  apply Array.ext
  · simp [tab]
  · intro i h1 h2
    simp [tab] at h1 h2
    rw [Array.getElem_setIfInBounds (by simpa [tab] using h1)]
    simp only [tab, List.getElem_toArray, List.getElem_map, List.getElem_range]
    by_cases e : k = i
    · subst e; simp
    · rw [if_neg e]
      by_cases q : i < k
      · rw [if_pos q, if_pos (by omega)]
      · rw [if_neg q, if_neg (by omega)]

/-- The world w' is w but for block b, which reads o. -/
structure Upd (b : Nat) (o : Obj) (w w' : World) : Prop where
  os : w'.os = w.os
  tape : w'.tape = w.tape
  output : w'.output = w.output
  size : w'.heap.size = w.heap.size
  blk : w'.heap[b]? = some o
  oth : ∀ k, k ≠ b → w'.heap[k]? = w.heap[k]?

theorem set_block {w : World} {b : Nat} {cs : Array Value} {t : TypeId} (h : w.heap[b]? = some (.cells cs t (0, 0))) (i : Nat) (u : Value) :
    (w.setCell ⟨b, i, none⟩ u).heap[b]? = some (.cells (cs.setIfInBounds i u) t (0, 0)) := by
  have hlt : b < w.heap.size := by
    rcases Nat.lt_or_ge b w.heap.size with h' | h'
    · exact h'
    · simp [Array.getElem?_eq_none h'] at h
  have h' : w.heap[b] = .cells cs t (0, 0) := by simpa [Array.getElem?_eq_getElem hlt] using h
  show (w.heap.modify b _)[b]? = _
  rw [Array.getElem?_eq_getElem (by simpa using hlt), Array.getElem_modify_self, h']
  rfl
theorem Upd.set {w w' : World} {b : Nat} {cs : Array Value} {t : TypeId} (h : Upd b (.cells cs t (0, 0)) w w') (i : Nat) (u : Value) : Upd b (.cells (cs.setIfInBounds i u) t (0, 0)) w (w'.setCell ⟨b, i, none⟩ u) :=
  ⟨h.os, h.tape, h.output, by simpa [World.setCell] using h.size, set_block h.blk i u, fun k hk => (Below.heap_setCell _ _ _ _ hk).trans (h.oth k hk)⟩
theorem Upd.below {b B : Nat} {o : Obj} {w w' : World} (h : Upd b o w w') (hB : B ≤ b) : Below B w w' :=
  ⟨h.os, h.tape, h.output, by have := h.size; omega, fun k hk => h.oth k (by omega)⟩
theorem heap_at {W : World} {o : Obj} {k : Nat} (h : k = W.heap.size) : (W.alloc o).heap[k]? = some o := by subst h; exact heap_alloc_new W o

theorem tab_cell {w : World} {b k i : Nat} (h : w.heap[b]? = some (.cells (tab k) 55 (0, 0))) (hi : i < 16) : w.cell? ⟨b, i, none⟩ = some (.int .u16 ((if i < k then halves 4 i else 0 : Nat) : Int)) ∧ w.frozen? ⟨b, i, none⟩ = false := by
  constructor
  · simp [World.cell?, h, tab, hi]
  · simp [World.frozen?, h]

def nv (i : Nat) : Int := ((if i < 16 then halves 4 i else 0 : Nat) : Int)

abbrev tabL : Array Value := #[.int .u16 (nv 0), .int .u16 (nv 1), .int .u16 (nv 2), .int .u16 (nv 3), .int .u16 (nv 4), .int .u16 (nv 5), .int .u16 (nv 6), .int .u16 (nv 7), .int .u16 (nv 8), .int .u16 (nv 9), .int .u16 (nv 10), .int .u16 (nv 11), .int .u16 (nv 12), .int .u16 (nv 13), .int .u16 (nv 14), .int .u16 (nv 15)]

set_option maxRecDepth 100000 in
set_option maxHeartbeats 2000000 in
theorem nibbles_any (w : World) :
    Calls Try.prog 29 #[] w fun e w' => e = .returned (.agg tabL) ∧ Below w.heap.size w w' := by
  go_enter Try.func29, Try.ntmps29
  go_wp2_with fail
  obtain ⟨W, hW⟩ : ∃ W, W = (w.alloc (.cells (tab 0) 55 (0, 0))).alloc (.cells (tab 0) 55 (0, 0)) := ⟨_, rfl⟩
  have h0 : Upd (w.heap.size + 1) (.cells (tab 0) 55 (0, 0)) W ((w.alloc (.cells (tab 0) 55 (0, 0))).alloc (.cells (tab 0) 55 (0, 0))) := by
    subst hW; exact ⟨rfl, rfl, rfl, rfl, heap_at (by simp), fun _ _ => rfl⟩
  have H0 := Lib.hid h0
  have HW := Lib.hid hW
  clear h0 hW
  go_loopw [5] (fun i w1 => ∃ k : Nat, k ≤ 16 ∧ i = .int .i64 k ∧ Upd (w.heap.size + 1) (.cells (tab k) 55 (0, 0)) W w1) (fun i _ => 16 - (intOf i).toNat)
  case atStart => exact ⟨0, Nat.zero_le _, rfl, H0.out⟩
  case round =>
    clear H0
    obtain ⟨w3, hw3⟩ : ∃ w3 : World, w3 = wr := ⟨_, rfl⟩
    subst hw3
    obtain ⟨k, hk, rfl, hu⟩ := hrel
    have HU := Lib.hid hu
    clear hu
    by_cases hlt : k < 16
    · go_wp2_with fail
      go_loop [3, 10] (fun v j => ∃ (m : Nat), m ≤ 4 ∧ j = .int .i64 m ∧ v = .int .u16 ((halves m k : Nat) : Int)) (fun _ j => 4 - (intOf j).toNat)
      case atStart => exact ⟨0, by omega, rfl, rfl⟩
      case round =>
        obtain ⟨m, hm, rfl, rfl⟩ := hrel
        have hb := halves_lt m k (by omega)
        have hs := halves_succ m k
        by_cases hlt2 : m < 4
        · generalize halves m k = x at hb hs ⊢
          have ha := and_one_u16 x hb
          have hs2 : halves (m + 1) k = if x % 2 = 1 then x / 2 ^^^ 40961 else x / 2 := hs
          have HS := Lib.hid hs2
          have hx : ((x : Int) / 2) = ((x / 2 : Nat) : Int) := by simp
          have HX := Lib.hid hx
          have HXO := Lib.hid (bits_xor_u16_nat (x / 2) 40961 (by omega) (by omega))
          clear hs hs2 hx
          rcases Nat.mod_two_eq_zero_or_one x with h2 | h2
          · have h2' : (((x % 2 : Nat) : Int) == 1) = false := by rw [h2]; rfl
            have H2 := Lib.hid h2
            clear h2
            have hq : (bits BinOp.and IntKind.u16 (x : Int) 1 == 1) = false := by rw [ha]; exact h2'
            clear ha h2'
            go_wp2_with fail
            go_round
            case rel => exact ⟨m + 1, by omega, by go_num, by rw [HS.out, if_neg (by have := H2.out; omega), HX.out]⟩
            case measure => simp [intOf]; omega
          · have h2' : (((x % 2 : Nat) : Int) == 1) = true := by rw [h2]; rfl
            have H2 := Lib.hid h2
            clear h2
            have hq : (bits BinOp.and IntKind.u16 (x : Int) 1 == 1) = true := by rw [ha]; exact h2'
            clear ha h2'
            go_wp2_with fail
            go_round
            case rel => exact ⟨m + 1, by omega, by go_num, by rw [HS.out, if_pos H2.out, HX.out]; rw [← HXO.out]; rfl⟩
            case measure => simp [intOf]; omega
        · have hm' : m = 4 := by omega
          subst hm'
          obtain ⟨tc, tz⟩ := tab_cell HU.out.blk hlt
          have hu' := HU.out.set k (.int .u16 ((halves 4 k : Nat) : Int))
          rw [tab_set k hlt] at hu'
          have HU' := Lib.hid hu'
          clear hu' hs
          go_wp2_with fail
          go_roundw
          case rel => exact ⟨k + 1, by omega, by go_num, HU'.out⟩
          case measure => simp [intOf]; omega
    · have hk' : k = 16 := by omega
      subst hk'
      have hr0 : w3.heap[w.heap.size]? = some (.cells (tab 0) 55 (0, 0)) := by
        rw [HU.out.oth _ (by omega), HW.out, Below.heap_alloc _ _ _ (by simp)]
        exact heap_at rfl
      have c0 : w3.cell? ⟨w.heap.size + 1, 0, none⟩ = some (.int .u16 (nv 0)) := (tab_cell HU.out.blk (i := 0) (by omega)).1
      obtain ⟨d0, e0⟩ := tab_cell hr0 (i := 0) (by omega)
      have c1 : w3.cell? ⟨w.heap.size + 1, 1, none⟩ = some (.int .u16 (nv 1)) := (tab_cell HU.out.blk (i := 1) (by omega)).1
      obtain ⟨d1, e1⟩ := tab_cell hr0 (i := 1) (by omega)
      have c2 : w3.cell? ⟨w.heap.size + 1, 2, none⟩ = some (.int .u16 (nv 2)) := (tab_cell HU.out.blk (i := 2) (by omega)).1
      obtain ⟨d2, e2⟩ := tab_cell hr0 (i := 2) (by omega)
      have c3 : w3.cell? ⟨w.heap.size + 1, 3, none⟩ = some (.int .u16 (nv 3)) := (tab_cell HU.out.blk (i := 3) (by omega)).1
      obtain ⟨d3, e3⟩ := tab_cell hr0 (i := 3) (by omega)
      have c4 : w3.cell? ⟨w.heap.size + 1, 4, none⟩ = some (.int .u16 (nv 4)) := (tab_cell HU.out.blk (i := 4) (by omega)).1
      obtain ⟨d4, e4⟩ := tab_cell hr0 (i := 4) (by omega)
      have c5 : w3.cell? ⟨w.heap.size + 1, 5, none⟩ = some (.int .u16 (nv 5)) := (tab_cell HU.out.blk (i := 5) (by omega)).1
      obtain ⟨d5, e5⟩ := tab_cell hr0 (i := 5) (by omega)
      have c6 : w3.cell? ⟨w.heap.size + 1, 6, none⟩ = some (.int .u16 (nv 6)) := (tab_cell HU.out.blk (i := 6) (by omega)).1
      obtain ⟨d6, e6⟩ := tab_cell hr0 (i := 6) (by omega)
      have c7 : w3.cell? ⟨w.heap.size + 1, 7, none⟩ = some (.int .u16 (nv 7)) := (tab_cell HU.out.blk (i := 7) (by omega)).1
      obtain ⟨d7, e7⟩ := tab_cell hr0 (i := 7) (by omega)
      have c8 : w3.cell? ⟨w.heap.size + 1, 8, none⟩ = some (.int .u16 (nv 8)) := (tab_cell HU.out.blk (i := 8) (by omega)).1
      obtain ⟨d8, e8⟩ := tab_cell hr0 (i := 8) (by omega)
      have c9 : w3.cell? ⟨w.heap.size + 1, 9, none⟩ = some (.int .u16 (nv 9)) := (tab_cell HU.out.blk (i := 9) (by omega)).1
      obtain ⟨d9, e9⟩ := tab_cell hr0 (i := 9) (by omega)
      have c10 : w3.cell? ⟨w.heap.size + 1, 10, none⟩ = some (.int .u16 (nv 10)) := (tab_cell HU.out.blk (i := 10) (by omega)).1
      obtain ⟨d10, e10⟩ := tab_cell hr0 (i := 10) (by omega)
      have c11 : w3.cell? ⟨w.heap.size + 1, 11, none⟩ = some (.int .u16 (nv 11)) := (tab_cell HU.out.blk (i := 11) (by omega)).1
      obtain ⟨d11, e11⟩ := tab_cell hr0 (i := 11) (by omega)
      have c12 : w3.cell? ⟨w.heap.size + 1, 12, none⟩ = some (.int .u16 (nv 12)) := (tab_cell HU.out.blk (i := 12) (by omega)).1
      obtain ⟨d12, e12⟩ := tab_cell hr0 (i := 12) (by omega)
      have c13 : w3.cell? ⟨w.heap.size + 1, 13, none⟩ = some (.int .u16 (nv 13)) := (tab_cell HU.out.blk (i := 13) (by omega)).1
      obtain ⟨d13, e13⟩ := tab_cell hr0 (i := 13) (by omega)
      have c14 : w3.cell? ⟨w.heap.size + 1, 14, none⟩ = some (.int .u16 (nv 14)) := (tab_cell HU.out.blk (i := 14) (by omega)).1
      obtain ⟨d14, e14⟩ := tab_cell hr0 (i := 14) (by omega)
      have c15 : w3.cell? ⟨w.heap.size + 1, 15, none⟩ = some (.int .u16 (nv 15)) := (tab_cell HU.out.blk (i := 15) (by omega)).1
      obtain ⟨d15, e15⟩ := tab_cell hr0 (i := 15) (by omega)
      have hF : ((((((((((((((((w3.setCell ⟨w.heap.size, 0, none⟩ (.int .u16 (nv 0))).setCell ⟨w.heap.size, 1, none⟩ (.int .u16 (nv 1))).setCell ⟨w.heap.size, 2, none⟩ (.int .u16 (nv 2))).setCell ⟨w.heap.size, 3, none⟩ (.int .u16 (nv 3))).setCell ⟨w.heap.size, 4, none⟩ (.int .u16 (nv 4))).setCell ⟨w.heap.size, 5, none⟩ (.int .u16 (nv 5))).setCell ⟨w.heap.size, 6, none⟩ (.int .u16 (nv 6))).setCell ⟨w.heap.size, 7, none⟩ (.int .u16 (nv 7))).setCell ⟨w.heap.size, 8, none⟩ (.int .u16 (nv 8))).setCell ⟨w.heap.size, 9, none⟩ (.int .u16 (nv 9))).setCell ⟨w.heap.size, 10, none⟩ (.int .u16 (nv 10))).setCell ⟨w.heap.size, 11, none⟩ (.int .u16 (nv 11))).setCell ⟨w.heap.size, 12, none⟩ (.int .u16 (nv 12))).setCell ⟨w.heap.size, 13, none⟩ (.int .u16 (nv 13))).setCell ⟨w.heap.size, 14, none⟩ (.int .u16 (nv 14))).setCell ⟨w.heap.size, 15, none⟩ (.int .u16 (nv 15))).heap[w.heap.size]? = some (.cells (tab 16) 55 (0, 0)) := by
        have h := (set_block (set_block (set_block (set_block (set_block (set_block (set_block (set_block (set_block (set_block (set_block (set_block (set_block (set_block (set_block (set_block hr0 0 (.int .u16 (nv 0))) 1 (.int .u16 (nv 1))) 2 (.int .u16 (nv 2))) 3 (.int .u16 (nv 3))) 4 (.int .u16 (nv 4))) 5 (.int .u16 (nv 5))) 6 (.int .u16 (nv 6))) 7 (.int .u16 (nv 7))) 8 (.int .u16 (nv 8))) 9 (.int .u16 (nv 9))) 10 (.int .u16 (nv 10))) 11 (.int .u16 (nv 11))) 12 (.int .u16 (nv 12))) 13 (.int .u16 (nv 13))) 14 (.int .u16 (nv 14))) 15 (.int .u16 (nv 15)))
        have e : (((((((((((((((((tab 0).setIfInBounds 0 (.int .u16 (nv 0))).setIfInBounds 1 (.int .u16 (nv 1))).setIfInBounds 2 (.int .u16 (nv 2))).setIfInBounds 3 (.int .u16 (nv 3))).setIfInBounds 4 (.int .u16 (nv 4))).setIfInBounds 5 (.int .u16 (nv 5))).setIfInBounds 6 (.int .u16 (nv 6))).setIfInBounds 7 (.int .u16 (nv 7))).setIfInBounds 8 (.int .u16 (nv 8))).setIfInBounds 9 (.int .u16 (nv 9))).setIfInBounds 10 (.int .u16 (nv 10))).setIfInBounds 11 (.int .u16 (nv 11))).setIfInBounds 12 (.int .u16 (nv 12))).setIfInBounds 13 (.int .u16 (nv 13))).setIfInBounds 14 (.int .u16 (nv 14))).setIfInBounds 15 (.int .u16 (nv 15))) = tab 16 := by rfl
        rw [e] at h
        exact h
      have hB : Below w.heap.size w ((((((((((((((((w3.setCell ⟨w.heap.size, 0, none⟩ (.int .u16 (nv 0))).setCell ⟨w.heap.size, 1, none⟩ (.int .u16 (nv 1))).setCell ⟨w.heap.size, 2, none⟩ (.int .u16 (nv 2))).setCell ⟨w.heap.size, 3, none⟩ (.int .u16 (nv 3))).setCell ⟨w.heap.size, 4, none⟩ (.int .u16 (nv 4))).setCell ⟨w.heap.size, 5, none⟩ (.int .u16 (nv 5))).setCell ⟨w.heap.size, 6, none⟩ (.int .u16 (nv 6))).setCell ⟨w.heap.size, 7, none⟩ (.int .u16 (nv 7))).setCell ⟨w.heap.size, 8, none⟩ (.int .u16 (nv 8))).setCell ⟨w.heap.size, 9, none⟩ (.int .u16 (nv 9))).setCell ⟨w.heap.size, 10, none⟩ (.int .u16 (nv 10))).setCell ⟨w.heap.size, 11, none⟩ (.int .u16 (nv 11))).setCell ⟨w.heap.size, 12, none⟩ (.int .u16 (nv 12))).setCell ⟨w.heap.size, 13, none⟩ (.int .u16 (nv 13))).setCell ⟨w.heap.size, 14, none⟩ (.int .u16 (nv 14))).setCell ⟨w.heap.size, 15, none⟩ (.int .u16 (nv 15))) := by
        have h0 : Below w.heap.size w w3 := by
          have h1 : Below w.heap.size w W := by rw [HW.out]; go_grown
          exact h1.trans (HU.out.below (by omega))
        exact ((((((((((((((((h0.setCell (p := ⟨w.heap.size, 0, none⟩) (Nat.le_refl _) _).setCell (p := ⟨w.heap.size, 1, none⟩) (Nat.le_refl _) _).setCell (p := ⟨w.heap.size, 2, none⟩) (Nat.le_refl _) _).setCell (p := ⟨w.heap.size, 3, none⟩) (Nat.le_refl _) _).setCell (p := ⟨w.heap.size, 4, none⟩) (Nat.le_refl _) _).setCell (p := ⟨w.heap.size, 5, none⟩) (Nat.le_refl _) _).setCell (p := ⟨w.heap.size, 6, none⟩) (Nat.le_refl _) _).setCell (p := ⟨w.heap.size, 7, none⟩) (Nat.le_refl _) _).setCell (p := ⟨w.heap.size, 8, none⟩) (Nat.le_refl _) _).setCell (p := ⟨w.heap.size, 9, none⟩) (Nat.le_refl _) _).setCell (p := ⟨w.heap.size, 10, none⟩) (Nat.le_refl _) _).setCell (p := ⟨w.heap.size, 11, none⟩) (Nat.le_refl _) _).setCell (p := ⟨w.heap.size, 12, none⟩) (Nat.le_refl _) _).setCell (p := ⟨w.heap.size, 13, none⟩) (Nat.le_refl _) _).setCell (p := ⟨w.heap.size, 14, none⟩) (Nat.le_refl _) _).setCell (p := ⟨w.heap.size, 15, none⟩) (Nat.le_refl _) _)
      have HF := Lib.hid hF
      have HB := Lib.hid hB
      clear hr0 hF hB
      go_wp2_with fail
      have hF := HF.out
      have hB := HB.out
      clear HF HB c0 d0 e0 c1 d1 e1 c2 d2 e2 c3 d3 e3 c4 d4 e4 c5 d5 e5 c6 d6 e6 c7 d7 e7 c8 d8 e8 c9 d9 e9 c10 d10 e10 c11 d11 e11 c12 d12 e12 c13 d13 e13 c14 d14 e14 c15 d15 e15
      generalize ((((((((((((((((w3.setCell ⟨w.heap.size, 0, none⟩ (.int .u16 (nv 0))).setCell ⟨w.heap.size, 1, none⟩ (.int .u16 (nv 1))).setCell ⟨w.heap.size, 2, none⟩ (.int .u16 (nv 2))).setCell ⟨w.heap.size, 3, none⟩ (.int .u16 (nv 3))).setCell ⟨w.heap.size, 4, none⟩ (.int .u16 (nv 4))).setCell ⟨w.heap.size, 5, none⟩ (.int .u16 (nv 5))).setCell ⟨w.heap.size, 6, none⟩ (.int .u16 (nv 6))).setCell ⟨w.heap.size, 7, none⟩ (.int .u16 (nv 7))).setCell ⟨w.heap.size, 8, none⟩ (.int .u16 (nv 8))).setCell ⟨w.heap.size, 9, none⟩ (.int .u16 (nv 9))).setCell ⟨w.heap.size, 10, none⟩ (.int .u16 (nv 10))).setCell ⟨w.heap.size, 11, none⟩ (.int .u16 (nv 11))).setCell ⟨w.heap.size, 12, none⟩ (.int .u16 (nv 12))).setCell ⟨w.heap.size, 13, none⟩ (.int .u16 (nv 13))).setCell ⟨w.heap.size, 14, none⟩ (.int .u16 (nv 14))).setCell ⟨w.heap.size, 15, none⟩ (.int .u16 (nv 15))) = wF at hF hB ⊢
      have g0 : wF.cell? ⟨w.heap.size, 0, none⟩ = some (.int .u16 (nv 0)) := (tab_cell hF (i := 0) (by omega)).1
      have g1 : wF.cell? ⟨w.heap.size, 1, none⟩ = some (.int .u16 (nv 1)) := (tab_cell hF (i := 1) (by omega)).1
      have g2 : wF.cell? ⟨w.heap.size, 2, none⟩ = some (.int .u16 (nv 2)) := (tab_cell hF (i := 2) (by omega)).1
      have g3 : wF.cell? ⟨w.heap.size, 3, none⟩ = some (.int .u16 (nv 3)) := (tab_cell hF (i := 3) (by omega)).1
      have g4 : wF.cell? ⟨w.heap.size, 4, none⟩ = some (.int .u16 (nv 4)) := (tab_cell hF (i := 4) (by omega)).1
      have g5 : wF.cell? ⟨w.heap.size, 5, none⟩ = some (.int .u16 (nv 5)) := (tab_cell hF (i := 5) (by omega)).1
      have g6 : wF.cell? ⟨w.heap.size, 6, none⟩ = some (.int .u16 (nv 6)) := (tab_cell hF (i := 6) (by omega)).1
      have g7 : wF.cell? ⟨w.heap.size, 7, none⟩ = some (.int .u16 (nv 7)) := (tab_cell hF (i := 7) (by omega)).1
      have g8 : wF.cell? ⟨w.heap.size, 8, none⟩ = some (.int .u16 (nv 8)) := (tab_cell hF (i := 8) (by omega)).1
      have g9 : wF.cell? ⟨w.heap.size, 9, none⟩ = some (.int .u16 (nv 9)) := (tab_cell hF (i := 9) (by omega)).1
      have g10 : wF.cell? ⟨w.heap.size, 10, none⟩ = some (.int .u16 (nv 10)) := (tab_cell hF (i := 10) (by omega)).1
      have g11 : wF.cell? ⟨w.heap.size, 11, none⟩ = some (.int .u16 (nv 11)) := (tab_cell hF (i := 11) (by omega)).1
      have g12 : wF.cell? ⟨w.heap.size, 12, none⟩ = some (.int .u16 (nv 12)) := (tab_cell hF (i := 12) (by omega)).1
      have g13 : wF.cell? ⟨w.heap.size, 13, none⟩ = some (.int .u16 (nv 13)) := (tab_cell hF (i := 13) (by omega)).1
      have g14 : wF.cell? ⟨w.heap.size, 14, none⟩ = some (.int .u16 (nv 14)) := (tab_cell hF (i := 14) (by omega)).1
      have g15 : wF.cell? ⟨w.heap.size, 15, none⟩ = some (.int .u16 (nv 15)) := (tab_cell hF (i := 15) (by omega)).1
      clear hF
      refine bodyPost_ret (v := .agg #[.int .u16 (nv 0), .int .u16 (nv 1), .int .u16 (nv 2), .int .u16 (nv 3), .int .u16 (nv 4), .int .u16 (nv 5), .int .u16 (nv 6), .int .u16 (nv 7), .int .u16 (nv 8), .int .u16 (nv 9), .int .u16 (nv 10), .int .u16 (nv 11), .int .u16 (nv 12), .int .u16 (nv 13), .int .u16 (nv 14), .int .u16 (nv 15)]) (by simp [results, Try.results29, go_sem, g0, g1, g2, g3, g4, g5, g6, g7, g8, g9, g10, g11, g12, g13, g14, g15]) rfl ⟨rfl, hB⟩
end Go.Proofs.Ytdlcfnpnfdlahaa
