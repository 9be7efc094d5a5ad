/- Put: a frame's bytes. -/
import Derived.Test.YtdlcfnpnfdlahaaL
namespace Go.Proofs.Ytdlcfnpnfdlahaa
set_option linter.unusedVariables false
open Go.ChangeShapes Go.WideShapes Go.ChangeAt Go.RowKit

def PutP (w : World) (u : Nat) (P : List Nat) (e : Ending) (w' : World) : Prop :=
  Below w.heap.size w w' ∧
  (if 0 < P.length ∧ P.length ≤ 253 then ∃ g c, e = .returned (.slice (some ⟨g, 0, none⟩) (P.length + 3) c) ∧ OwnB w.heap.size w' g c (P.length + 3) (sealN (u :: P))
   else e = .returned (.slice none 0 0))

theorem put_no (u : Nat) (a : Option Addr) (n cap : Nat) (P : List Nat) (w : World) (h : Bys w a n P) (hn : n = 0 ∨ 253 < n) :
    Calls Try.prog 12 #[.int .u8 (u : Int), .slice a n cap] w (PutP w u P) := by
  have hp : PutP w u P (.returned (.slice none 0 0)) w := ⟨Below.refl _ _, by rw [if_neg (by rw [h.ln]; omega)]⟩
  have HP := Lib.hid hp
  have hl := h.le
  unfold maxLen at hl
  clear hp h
  by_cases h0 : n = 0
  · subst h0
    go_enter Try.func12, Try.ntmps12
    go_wp2_with fail
    go_ret
    exact HP.out
  · have d1 : ((n : Int) == 0) = false := by simp; omega
    have d2 : decide (253 < (n : Int)) = true := by simp; omega
    go_enter Try.func12, Try.ntmps12
    go_wp2_with fail
    go_ret
    exact HP.out

theorem bys_new {w : World} {g n : Nat} (L : List Nat) (hl : L.length ≤ maxLen) (hn : n = L.length) (hb : ∀ b ∈ L, b < 256) {cs : Array Value} (hc : cs = (bv L).toArray) (hg : g = w.heap.size) : Bys (w.alloc (.cells cs 5 (0, 0))) (some ⟨g, 0, none⟩) n L := by
  subst hc hg hn
  exact bys_block L hl hb (heap_alloc_new w _)
theorem below_new {w0 w1 w2 : World} {o : Obj} (h : Below w0.heap.size w0 w1) (hb : Below (w1.alloc o).heap.size (w1.alloc o) w2) : Below w0.heap.size w0 w2 :=
  (h.alloc h.size o).trans (hb.mono (by have := h.size; simp; omega))
theorem below_new2 {w0 w1 w2 : World} {o o' : Obj} (h : Below w0.heap.size w0 w1) (hb : Below ((w1.alloc o).alloc o').heap.size ((w1.alloc o).alloc o') w2) : Below w0.heap.size w0 w2 :=
  ((h.alloc h.size o).alloc (by have := h.size; simp; omega) o').trans (hb.mono (by have := h.size; simp; omega))
theorem by_cons {u : Nat} {P : List Nat} (hu : u < 256) (h : ∀ b ∈ P, b < 256) : ∀ b ∈ u :: P, b < 256 := by
  intro b hb
  rcases List.mem_cons.1 hb with rfl | z
  · exact hu
  · exact h b z

set_option maxRecDepth 100000 in
set_option maxHeartbeats 2000000 in
theorem put_yes (u : Nat) (a : Option Addr) (n cap : Nat) (P : List Nat) (w : World) (h : Bys w a n P) (h0 : 0 < n) (h1 : n ≤ 253) (hu : u < 256) :
    Calls Try.prog 12 #[.int .u8 (u : Int), .slice a n cap] w (PutP w u P) := by
  have hp : ∀ w' g c, Below w.heap.size w w' → OwnB w.heap.size w' g c (n + 3) (sealN (u :: P)) → PutP w u P (.returned (.slice (some ⟨g, 0, none⟩) (n + 3) c)) w' := by
    intro w' g c hb ho; refine ⟨hb, ?_⟩; rw [if_pos (by rw [h.ln]; omega), h.ln]; exact ⟨g, c, rfl, ho⟩
  have HP := Lib.hid hp
  have H := Lib.hid h
  have d1 : ((n : Int) == 0) = false := by simp; omega
  have d2 : decide (253 < (n : Int)) = false := by simp; omega
  clear hp h
  obtain ⟨ti, hi, hz0, hz1, hz2⟩ := info_parts info5
  go_enter Try.func12, Try.ntmps12
  go_wp2_with (at_make; refine wpList_make_own _ rfl _ (.tmp 16) 22 rfl w.heap.size 5 ti (.int .u8 0) 1 Try.underlying22 hi hz0 hz1 .i64 .i64 _ (n + 1) rfl rfl ?c1 ?c2 ?c3 (Nat.le_refl _) ?_)
  case c1 => omega
  case c2 => rw [hz2]; omega
  case c3 => unfold maxLen; omega
  intro w2 ho2 hg2
  have hb2 : Below w.heap.size w w2 := (Below.refl _ _).grown hg2 (Nat.le_refl _) (fun k hk => by cases hk)
  have HO2 := Lib.hid (show w2.ownsRow w.heap.size 5 1 (Value.slice (some ⟨w.heap.size, 0, none⟩) 0 (n + 1)) 0 (bv []) from ho2)
  have HB2 := Lib.hid hb2
  have hs2 := hb2.size
  clear ho2 hg2 hb2
  go_wp2_with (at_builtin; refine wpList_append_bys rfl (.tmp 18) (.tmp 20) rfl w.heap.size _ ?hB (.slice (some ⟨w.heap.size, 0, none⟩) 0 (n + 1)) 0 [] rfl ?own (some ⟨w2.heap.size, 0, none⟩) 1 1 [u] rfl ?hby ?nil ?le ?_)
  case hB => simp; omega
  case own => exact HO2.out.alloc _
  case nil => intro e; cases e
  case le => omega
  case hby => exact bys_new [u] (by simp [maxLen]) rfl (by simpa using hu) (by simp [bv]) rfl
  intro v3 w3 ho3 hg3 hn3 hk3
  have hb3 : Below w.heap.size w w3 := (HB2.out.alloc hs2 _).grown hg3 (by simp; omega) (fun k hk => by simp [Value.ownBlock] at hk; omega)
  have HO3 := Lib.hid ho3
  have HB3 := Lib.hid hb3
  have hs3 := hb3.size
  have H3 := Lib.hid (H.out.below hb3)
  clear hb3 ho3 hg3 hn3 hk3 HO2
  go_wp2_with (at_builtin; refine wpList_append_bys rfl (.tmp 22) (.tmp 23) rfl w.heap.size _ ?hB2 _ (0 + 1) _ rfl HO3.out a n cap P rfl H3.out ?nil2 ?le2 ?_)
  case hB2 => exact hs3
  case nil2 =>
    intro e
    obtain ⟨b, off, e', _⟩ := H3.out.pos h0
    rw [e] at e'; cases e'
  case le2 => omega
  intro v4 w4 ho4 hg4 hn4 hk4
  have hb4 : Below w.heap.size w w4 := HB3.out.grown hg4 hs3 (fun k hk => (HO3.out.lt k hk).1)
  obtain ⟨g4, k4, rfl, hoo⟩ := owns_cases ho4 (by omega)
  have A4 := Lib.hid (hoo.arg (by simpa using by_cons hu H.out.by'))
  have HB4 := Lib.hid hb4
  have hs4 := hb4.size
  have hPl := H.out.ln
  have HPL := Lib.hid hPl
  clear hb4 hoo ho4 hg4 hn4 hk4 HO3 HB3 H3 hPl
  go_wp2_with fail
  refine (seal_q _ (0 + 1 + n) k4 _ _ A4.out (by omega)).mono ?_
  rintro e w5 ⟨g5, he, ho5, b5⟩
  have hL : (u :: P).length + 2 = n + 3 := by simp [HPL.out]
  rw [hL] at he ho5
  subst he
  have ho6 : OwnB w4.heap.size w5 g5 (n + 3) (n + 3) (sealN (u :: P)) := ho5
  obtain ⟨cur, q1, q2, q3⟩ := ho6.at
  have ho7 : OwnB w.heap.size w5 g5 (n + 3) (n + 3) (sealN (u :: P)) := ⟨ho6.1, by
    rcases ho6.2 with ⟨z, _⟩ | ⟨g', cap', cur', hv, hg, rest⟩
    · cases z
    · exact .inr ⟨g', cap', cur', hv, by omega, rest⟩⟩
  have HFIN := Lib.hid (HP.out w5 g5 (n + 3) (HB4.out.trans (b5.mono hs4)) ho7)
  clear ho5 ho6 ho7 q1 q2 q3 b5 A4
  go_wp2_with fail
  go_ret
  exact HFIN.out

theorem put_any (u : Nat) (a : Option Addr) (n cap : Nat) (P : List Nat) (w : World) (h : Bys w a n P) (hu : u < 256) :
    Calls Try.prog 12 #[.int .u8 (u : Int), .slice a n cap] w (PutP w u P) := by
  by_cases h0 : n = 0 ∨ 253 < n
  · exact put_no u a n cap P w h h0
  · exact put_yes u a n cap P w h (by omega) (by omega) hu
end Go.Proofs.Ytdlcfnpnfdlahaa
