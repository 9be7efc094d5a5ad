/- The document's Put. -/
import Derived.Test.YtnihgpaandodjaaRy
namespace Go.Proofs.Ytnihgpaandodjaa
set_option linter.unusedVariables false
open Go.ChangeShapes Go.WideShapes Go.ChangeAt Go.RowKit

theorem rput_no (id u : Nat) (a : Option Addr) (n cap : Nat) (P : List Nat) (w : World) (h : Bys w a n P) (hn : n = 0 ∨ 253 < n) :
    Calls Try.prog 16 #[.agg #[.int .u16 (id : Int), .int .u8 (u : Int), .slice a n cap]] w (PutP w id u P) := by
  have hp : ∀ w', Below w.heap.size w w' → PutP w id u P (.returned (.slice none 0 0)) w' := by
    intro w' hb; exact ⟨hb, by rw [if_neg (by rw [h.ln]; omega)]⟩
  have HP := Lib.hid hp
  have hl := h.le
  unfold maxLen at hl
  clear hp h
  by_cases h0 : n = 0
  · subst h0
    go_enter Try.func16, Try.ntmps16
    go_wp2_with fail
    go_ret
    exact HP.out _ (by go_grown)
  · have d1 : ((n : Int) == 0) = false := by simp; omega
    have d2 : decide (253 < (n : Int)) = true := by simp; omega
    go_enter Try.func16, Try.ntmps16
    go_wp2_with fail
    go_ret
    exact HP.out _ (by go_grown)

set_option maxRecDepth 100000 in
set_option maxHeartbeats 2000000 in
theorem rput_yes (id u : Nat) (a : Option Addr) (n cap : Nat) (P : List Nat) (w : World) (h : Bys w a n P) (h0 : 0 < n) (h1 : n ≤ 253) (hid : id < 65536) (hu : u < 256) :
    Calls Try.prog 16 #[.agg #[.int .u16 (id : Int), .int .u8 (u : Int), .slice a n cap]] w (PutP w id u P) := by
  have hp : ∀ w' g c, Below w.heap.size w w' → OwnB w.heap.size w' g c (n + 7) (putL id u P) → PutP w id u P (.returned (.slice (some ⟨g, 0, none⟩) (n + 7) c)) w' := by
    intro w' g c hb ho; refine ⟨hb, ?_⟩; rw [if_pos (by rw [h.ln]; omega), h.ln]; exact ⟨g, c, rfl, ho⟩
  have HP := Lib.hid hp
  have H := Lib.hid h
  have d1 : ((n : Int) == 0) = false := by simp; omega
  have d2 : decide (253 < (n : Int)) = false := by simp; omega
  clear hp h
  obtain ⟨ti, hi, hz0, hz1, hz2⟩ := info_parts info5
  go_enter Try.func16, Try.ntmps16
  go_wp2_with (at_builtin; refine wpList_append_bys rfl (.tmp 32) (.tmp 34) rfl w.heap.size _ ?hB _ 7 [id / 256, id % 256, 0, 0, (n + 1) / 256, n + 1, u] rfl ?own a n cap P rfl ?hby ?nil ?le ?_)
  case hB => simp; omega
  case own =>
    have ho := own_of_block (B := w.heap.size) (w := (w.alloc (.cells #[.int .u16 (id : Int), .int .u8 (u : Int), .slice a n cap] 25 (0, 0))).alloc (.cells (bv [id / 256, id % 256, 0, 0, (n + 1) / 256, n + 1, u]).toArray 5 (0, 0))) (g := w.heap.size + 1) (L := [id / 256, id % 256, 0, 0, (n + 1) / 256, n + 1, u]) (by omega) (by simp [maxLen]) (by
      have := heap_alloc_new (w.alloc (.cells #[.int .u16 (id : Int), .int .u8 (u : Int), .slice a n cap] 25 (0, 0))) (.cells (bv [id / 256, id % 256, 0, 0, (n + 1) / 256, n + 1, u]).toArray 5 (0, 0))
      simpa using this)
    exact ho
  case hby => exact (H.out.below ((Below.refl _ _).alloc (Nat.le_refl _) (.cells #[.int .u16 (id : Int), .int .u8 (u : Int), .slice a n cap] 25 (0, 0)))).below ((Below.refl _ _).alloc (Nat.le_refl _) _)
  case nil =>
    intro e
    obtain ⟨b, off, e', _⟩ := H.out.pos h0
    rw [e] at e'; cases e'
  case le => omega
  intro v4 w4 ho4 hg4 hn4 hk4
  have hb4 : Below w.heap.size w w4 := (((Below.refl _ w).alloc (Nat.le_refl _) _).alloc (by simp) _).grown hg4 (by simp; omega) (fun k hk => by simp [Value.ownBlock] at hk; omega)
  obtain ⟨g4, k4, rfl, hoo⟩ := owns_cases ho4 (by omega)
  rw [show 7 + n = n + 7 by omega] at hoo ⊢
  have hL : (id / 256 :: id % 256 :: 0 :: 0 :: (n + 1) / 256 :: (n + 1) :: u :: P) = putL id u P := by
    have := H.out.ln
    simp [putL]
    omega
  rw [hL] at hoo
  have HFIN := Lib.hid (HP.out w4 g4 k4 hb4 hoo)
  clear hb4 hoo ho4 hg4 hn4 hk4 hL
  go_wp2_with fail
  go_ret
  exact HFIN.out
theorem rput_any (id u : Nat) (a : Option Addr) (n cap : Nat) (P : List Nat) (w : World) (h : Bys w a n P) (hid : id < 65536) (hu : u < 256) :
    Calls Try.prog 16 #[.agg #[.int .u16 (id : Int), .int .u8 (u : Int), .slice a n cap]] w (PutP w id u P) := by
  by_cases h0 : n = 0 ∨ 253 < n
  · exact rput_no id u a n cap P w h h0
  · exact rput_yes id u a n cap P w h (by omega) (by omega) hid hu
end Go.Proofs.Ytnihgpaandodjaa
