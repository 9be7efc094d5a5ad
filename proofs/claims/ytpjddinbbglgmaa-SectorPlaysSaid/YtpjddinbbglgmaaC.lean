/- What is read of a disk. -/
import Derived.Test.YtpjddinbbglgmaaB
namespace Go.Proofs.Ytpjddinbbglgmaa
set_option linter.unusedVariables false
open Go.ChangeShapes Go.WideShapes Go.ChangeAt Go.RowKit

def sec (L : List Nat) (i : Nat) : List Nat := (L.drop (i * 64)).take 64
theorem sec_len {L : List Nat} {m i : Nat} (hl : L.length = m * 64) (hi : i < m) : (sec L i).length = 64 := by
  unfold sec
  rw [List.length_take, List.length_drop, hl]
  have : (i + 1) * 64 ≤ m * 64 := Nat.mul_le_mul_right _ hi
  omega
theorem sec_get {L : List Nat} {i j : Nat} (hj : j < 64) : (bv (sec L i))[j]? = (bv L)[i * 64 + j]? := by
  unfold sec bv
  rw [List.getElem?_map, List.getElem?_map, List.getElem?_take_of_lt hj, List.getElem?_drop]

theorem info5 : (Try.prog.info? 5).map (fun i => (i.zero, i.size, i.bytes)) = some (some (.int .u8 0), 1, 1) := by kernel_rfl

theorem read_down {B : Nat} {w : World} {d s m wr : Nat} {pc : Option Nat} {ct : Option (Nat × Nat)} {L : List Nat} (i : Int) (h : Dk B w d s pc m ct true wr L) :
    Calls Try.prog 12 #[.pointer (some ⟨d, 0, none⟩), .int .i64 i] w fun e w' => e = .returned (.tuple #[.slice none 0 0, .int .i64 101]) ∧ w = w' := by
  have c2 := h.cells.2.2.1
  clear h
  go_enter Try.func12, Try.ntmps12
  go_wp2_with fail
  go_ret2
  exact ⟨rfl, rfl⟩

theorem read_arg {B : Nat} {w : World} {d s m wr : Nat} {pc : Option Nat} {ct : Option (Nat × Nat)} {L : List Nat} (i : Int) (h : Dk B w d s pc m ct false wr L) (hi : hasB m i = false) :
    Calls Try.prog 12 #[.pointer (some ⟨d, 0, none⟩), .int .i64 i] w fun e w' => e = .returned (.tuple #[.slice none 0 0, .int .i64 1]) ∧ w = w' := by
  have c2 := h.cells.2.2.1
  have H := Lib.hid h
  have HI := Lib.hid hi
  clear h hi
  go_enter Try.func12, Try.ntmps12
  go_wp2_with fail
  refine (has_any i H.out).mono ?_
  rintro e w1 ⟨rfl, rfl⟩
  rw [HI.out]
  go_wp2_with fail
  go_ret2
  exact ⟨rfl, rfl⟩

def ReadP (w : World) (L : List Nat) (i : Nat) (e : Ending) (w' : World) : Prop :=
  ∃ g, e = .returned (.tuple #[.slice (some ⟨g, 0, none⟩) 64 64, .int .i64 0]) ∧ w.heap.size ≤ g ∧ w'.heap[g]? = some (.cells (bv (sec L i)).toArray 5 (0, 0)) ∧ Below w.heap.size w w'

set_option maxRecDepth 100000 in
set_option maxHeartbeats 2000000 in
theorem read_ok {B : Nat} {w : World} {d s m wr : Nat} {pc : Option Nat} {ct : Option (Nat × Nat)} {L : List Nat} (i : Nat) (h : Dk B w d s pc m ct false wr L) (hi : i < m) :
    Calls Try.prog 12 #[.pointer (some ⟨d, 0, none⟩), .int .i64 i] w (ReadP w L i) := by
  have hm2 := h.m2
  have hlen := h.len
  have hI : hasB m i = true := by simp [hasB, hi]
  have H := Lib.hid h
  have HI := Lib.hid hI
  have hds := blk_lt h.db
  have hss := blk_lt h.sb
  have c2 := h.cells.2.2.1
  clear h hI
  obtain ⟨ti, hti, hz0, hz1, hz2⟩ := info_parts info5
  go_enter Try.func12, Try.ntmps12
  go_wp2_with fail
  refine (has_any i H.out).mono ?_
  rintro e w1 ⟨rfl, rfl⟩
  rw [HI.out]
  go_wp2_with (at_make; refine wpList_make_full _ rfl (.const (.int .i64 64)) (.const (.int .i64 64)) 29 rfl w.heap.size 5 ti (.int .u8 0) 1 Try.underlying29 hti hz0 hz1 .i64 .i64 _ _ 64 rfl rfl ?c1 ?c2 ?c3 ?c4 (Nat.le_refl _) ?_)
  case c1 => rfl
  case c2 => rfl
  case c3 => rw [hz2]; omega
  case c4 => unfold maxLen; omega
  intro w2 ho2 hg2
  have hb2 : Below w.heap.size w w2 := (Below.refl _ _).grown hg2 (Nat.le_refl _) (fun k e => by cases e)
  obtain ⟨_, ⟨hv, _⟩ | ⟨g', cap', cur, hv, hgB, hgb, hgl, hgm, hgs, hgt⟩⟩ := ho2
  · simp at hv
  simp only [Value.slice.injEq, Option.some.injEq, Addr.mk.injEq, true_and, and_true] at hv
  obtain ⟨rfl, rfl⟩ := hv
  have hcl : cur.toList.length = 64 := by simpa using hgs
  have hgb' : w2.heap[w.heap.size]? = some (.cells cur.toList.toArray 5 (0, 0)) := by simpa using hgb
  have h2 := H.out.below hb2
  have k0 := h2.cells.1
  have hsrc : ∀ j v, (bv (sec L i))[j]? = some v → w2.cell? ((Addr.mk s (i * 64) none).add j) = some v := by
    intro j v hv
    have hj : j < 64 := by
      have := (List.getElem?_eq_some_iff.1 hv).1
      rwa [bv_len, sec_len hlen hi] at this
    rw [addr_add_none, ← hv, sec_get hj]
    simp [World.cell?, h2.sb]
  have HGB := Lib.hid hgb'
  have HB2 := Lib.hid hb2
  have HSRC := Lib.hid hsrc
  have hsl : (bv (sec L i)).length = 64 := by rw [bv_len, sec_len hlen hi]
  have HSL := Lib.hid hsl
  clear hgb hgb' hgs hgt hg2 hb2 hsrc hsl h2 c2 hgl hgm hgB
  go_wp2_with (with_reducible refine wpList_copy_splice rfl (.tmp 16) (.tmp 23) 29 29 rfl 5 Try.underlying29 (by kernel_rfl) (some ⟨w.heap.size, 0, none⟩) (some ⟨s, i * 64, none⟩) 64 64 64 64 rfl rfl w.heap.size 0 cur.toList 5 HGB.out (bv (sec L i)) ?k1 ?k2 ?k3 (bv_one _) w.heap.size w HB2.out (Nat.le_refl _) ?_)
  case k1 => rw [HSL.out]; rfl
  case k2 =>
    intro _ j u hu
    have := HSRC.out j u hu
    rwa [addr_add_none] at this
  case k3 => rw [HSL.out, hcl]; omega
  intro w3 hgb3 hb3
  have hsp : splice cur.toList 0 (bv (sec L i)) = bv (sec L i) := by
    simp only [splice, List.take_zero, List.nil_append, Nat.zero_add]
    rw [List.drop_of_length_le (by rw [hcl, HSL.out]; exact Nat.le_refl _), List.append_nil]
  have hgb4 := hgb3.out
  rw [hsp] at hgb4
  have HP : Hid (ReadP w L i (.returned (.tuple #[.slice (some ⟨w.heap.size, 0, none⟩) 64 64, .int .i64 0])) w3) := Lib.hid ⟨_, rfl, Nat.le_refl _, hgb4, hb3⟩
  clear hgb4 hgb3 hb3 hsp HSRC HGB HB2 HSL hcl k0
  go_wp2_with fail
  go_ret2
  exact HP.out

end Go.Proofs.Ytpjddinbbglgmaa
