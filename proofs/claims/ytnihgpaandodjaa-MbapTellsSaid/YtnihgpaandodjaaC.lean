/- Put: the bytes of a frame. -/
import Derived.Test.YtnihgpaandodjaaB
namespace Go.Proofs.Ytnihgpaandodjaa
set_option linter.unusedVariables false
open Go.ChangeShapes Go.WideShapes Go.ChangeAt Go.RowKit

def putL (id u : Nat) (P : List Nat) : List Nat := [id / 256, id % 256, 0, 0, (P.length + 1) / 256, (P.length + 1) % 256, u] ++ P
theorem putL_len (id u : Nat) (P : List Nat) : (putL id u P).length = P.length + 7 := by simp [putL]
def PutP (w : World) (id u : Nat) (P : List Nat) (e : Ending) (w' : World) : Prop :=
  Below w.heap.size w w' ∧
  (if 0 < P.length ∧ P.length ≤ 253 then ∃ g c, e = .returned (.slice (some ⟨g, 0, none⟩) (P.length + 7) c) ∧ OwnB w.heap.size w' g c (P.length + 7) (putL id u P)
   else e = .returned (.slice none 0 0))

theorem put_no (id u : Nat) (a : Option Addr) (n cap : Nat) (P : List Nat) (w : World) (h : Bys w a n P) (hn : n = 0 ∨ 253 < n) :
    Calls Try.prog 15 #[.agg #[.int .u16 (id : Int), .int .u8 (u : Int), .slice a n cap]] w (PutP w id u P) := by
  have hp : ∀ w', Below w.heap.size w w' → PutP w id u P (.returned (.slice none 0 0)) w' := by
    intro w' hb; exact ⟨hb, by rw [if_neg (by rw [h.ln]; omega)]⟩
  have HP := Lib.hid hp
  have hl := h.le
  unfold maxLen at hl
  clear hp h
  by_cases h0 : n = 0
  · subst h0
    go_enter Try.func15, Try.ntmps15
    go_wp2_with fail
    go_ret
    exact HP.out _ (by go_grown)
  · have d1 : ((n : Int) == 0) = false := by simp; omega
    have d2 : decide (253 < (n : Int)) = true := by simp; omega
    go_enter Try.func15, Try.ntmps15
    go_wp2_with fail
    go_ret
    exact HP.out _ (by go_grown)

set_option maxRecDepth 100000 in
set_option maxHeartbeats 2000000 in
theorem put_yes (id u : Nat) (a : Option Addr) (n cap : Nat) (P : List Nat) (w : World) (h : Bys w a n P) (h0 : 0 < n) (h1 : n ≤ 253) (hid : id < 65536) (hu : u < 256) :
    Calls Try.prog 15 #[.agg #[.int .u16 (id : Int), .int .u8 (u : Int), .slice a n cap]] w (PutP w id u P) := by
  have hp : ∀ w' g c, Below w.heap.size w w' → OwnB w.heap.size w' g c (n + 7) (putL id u P) → PutP w id u P (.returned (.slice (some ⟨g, 0, none⟩) (n + 7) c)) w' := by
    intro w' g c hb ho; refine ⟨hb, ?_⟩; rw [if_pos (by rw [h.ln]; omega), h.ln]; exact ⟨g, c, rfl, ho⟩
  have HP := Lib.hid hp
  have H := Lib.hid h
  have d1 : ((n : Int) == 0) = false := by simp; omega
  have d2 : decide (253 < (n : Int)) = false := by simp; omega
  clear hp h
  obtain ⟨ti, hi, hz0, hz1, hz2⟩ := info_parts info5
  go_enter Try.func15, Try.ntmps15
  go_wp2_with (at_make; refine wpList_make_own _ rfl _ (.tmp 20) 23 rfl w.heap.size 5 ti (.int .u8 0) 1 Try.underlying23 hi hz0 hz1 .i64 .i64 _ (n + 7) rfl rfl ?c1 ?c2 ?c3 (by simp) ?_)
  case c1 => omega
  case c2 => rw [hz2]; omega
  case c3 => unfold maxLen; omega
  intro w2 ho2 hg2
  obtain ⟨c0, c1, c2, f0, f1, f2⟩ := cells3 ((hg2.block w.heap.size (by simp) (by intro he; cases he)).trans (heap_alloc_new w _))
  have hb2 : Below w.heap.size w w2 := Below.trans (by go_grown) ((Below.refl _ _).grown hg2 (by simp) (fun k hk => by cases hk))
  have HO2 := Lib.hid (show w2.ownsRow w.heap.size 5 1 (Value.slice (some ⟨w.heap.size + 1, 0, none⟩) 0 (n + 7)) 0 (bv []) from ho2)
  have hlt2 : w.heap.size + 1 < w2.heap.size := (ho2.lt _ rfl).2
  have HB2 := Lib.hid hb2
  have H2 := Lib.hid (H.out.below hb2)
  clear ho2 hg2 hb2
  go_wp2_with (at_builtin; refine wpList_append_bys rfl (.tmp 22) (.tmp 37) rfl w.heap.size _ ?hB _ 0 [] rfl ?own (some ⟨w2.heap.size, 0, none⟩) 7 7 [id / 256, id % 256, 0, 0, (1 + n) / 256, 1 + n, u] rfl ?hby ?nil ?le ?_)
  case hB => simp; have := HB2.out.size; omega
  case own => exact HO2.out.alloc _
  case nil => intro e; cases e
  case le => omega
  case hby =>
    refine bys_block [id / 256, id % 256, 0, 0, (1 + n) / 256, 1 + n, u] (by simp [maxLen]) ?_ ?_ (t := 5) (m := (0, 0))
    · intro b hb
      simp at hb
      omega
    · rw [heap_alloc_new]; simp [bv]
  intro v3 w3 ho3 hg3 hn3 hk3
  have hs2 := HB2.out.size
  have hb3 : Below w.heap.size w w3 := (HB2.out.alloc hs2 _).grown hg3 (by simp; omega) (fun k hk => by simp [Value.ownBlock] at hk; omega)
  have hg3b : ∀ k, k < w2.heap.size → k ≠ w.heap.size + 1 → w3.heap[k]? = w2.heap[k]? := fun k hk hne => (hg3.block k (by simp; omega) (by simp [Value.ownBlock]; omega)).trans (heap_alloc_old w2 _ hk)
  have hcc : ∀ k, w3.cell? ⟨w.heap.size, k, none⟩ = w2.cell? ⟨w.heap.size, k, none⟩ := fun k => World.cell?_of_block (hg3b w.heap.size (by omega) (by omega))
  have e2 := (hcc 2).trans c2
  obtain ⟨g3, k3, rfl, hoo⟩ := owns_cases ho3 (by omega)
  have HO3 := Lib.hid hoo
  have HB3 := Lib.hid hb3
  have H3 := Lib.hid (H.out.below hb3)
  clear hcc hg3b hb3 hoo ho3 hg3 hn3 hk3 c0 c1 c2 f0 f1 f2 HO2
  go_wp2_with (at_builtin; refine wpList_append_bys rfl (.tmp 39) (.tmp 41) rfl w.heap.size _ ?hB2 _ (0 + 7) _ rfl HO3.out a n cap P rfl H3.out ?nil2 ?le2 ?_)
  case hB2 => exact HB3.out.size
  case nil2 =>
    intro e
    obtain ⟨b, off, e', _⟩ := H3.out.pos h0
    rw [e] at e'; cases e'
  case le2 => omega
  intro v4 w4 ho4 hg4 hn4 hk4
  have hb4 : Below w.heap.size w w4 := HB3.out.grown hg4 HB3.out.size (fun k hk => by obtain ⟨_, _, hg, _⟩ := HO3.out.at; simp [Value.ownBlock] at hk; omega)
  obtain ⟨g4, k4, rfl, hoo⟩ := owns_cases ho4 (by omega)
  rw [show 0 + 7 + n = n + 7 by omega] at hoo ⊢
  have hL : (id / 256 :: id % 256 :: 0 :: 0 :: (1 + n) / 256 :: (1 + n) :: u :: P) = putL id u P := by
    have := H.out.ln
    simp [putL]
    omega
  rw [hL] at hoo
  have HFIN := Lib.hid (HP.out w4 g4 k4 hb4 hoo)
  clear hb4 hoo ho4 hg4 hn4 hk4 hL HO3 HB3
  go_wp2_with fail
  go_ret
  exact HFIN.out

theorem put_any (id u : Nat) (a : Option Addr) (n cap : Nat) (P : List Nat) (w : World) (h : Bys w a n P) (hid : id < 65536) (hu : u < 256) :
    Calls Try.prog 15 #[.agg #[.int .u16 (id : Int), .int .u8 (u : Int), .slice a n cap]] w (PutP w id u P) := by
  by_cases h0 : n = 0 ∨ 253 < n
  · exact put_no id u a n cap P w h h0
  · exact put_yes id u a n cap P w h (by omega) (by omega) hid hu
end Go.Proofs.Ytnihgpaandodjaa
