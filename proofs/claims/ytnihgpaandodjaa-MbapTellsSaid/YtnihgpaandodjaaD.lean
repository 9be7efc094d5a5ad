/- The live question of the frames. -/
import Derived.Test.YtnihgpaandodjaaC
namespace Go.Proofs.Ytnihgpaandodjaa
set_option linter.unusedVariables false
open Go.ChangeShapes Go.WideShapes Go.ChangeAt Go.RowKit

theorem bys_new {w : World} {g n : Nat} (L : List Nat) (hl : L.length ≤ maxLen) (hn : n = L.length) (hb : ∀ b ∈ L, b < 256) {cs : Array Value} (hc : cs = (bv L).toArray) (hg : g = w.heap.size) : Bys (w.alloc (.cells cs 5 (0, 0))) (some ⟨g, 0, none⟩) n L := by
  subst hc hg hn
  exact bys_block L hl hb (heap_alloc_new w _)
theorem below_new {w0 w1 w2 : World} {o : Obj} (h : Below w0.heap.size w0 w1) (hb : Below (w1.alloc o).heap.size (w1.alloc o) w2) : Below w0.heap.size w0 w2 :=
  (h.alloc h.size o).trans (hb.mono (by have := h.size; simp; omega))
theorem below_new2 {w0 w1 w2 : World} {o o' : Obj} (h : Below w0.heap.size w0 w1) (hb : Below ((w1.alloc o).alloc o').heap.size ((w1.alloc o).alloc o') w2) : Below w0.heap.size w0 w2 :=
  ((h.alloc h.size o).alloc (by have := h.size; simp; omega) o').trans (hb.mono (by have := h.size; simp; omega))
theorem block_new {w1 w2 : World} {o : Obj} (hb : Below (w1.alloc o).heap.size (w1.alloc o) w2) : w2.heap[w1.heap.size]? = some o := (hb.block _ (by simp)).trans (heap_alloc_new w1 o)
theorem block_new2 {w1 w2 : World} {o o' : Obj} (hb : Below ((w1.alloc o).alloc o').heap.size ((w1.alloc o).alloc o') w2) : w2.heap[w1.heap.size]? = some o := (hb.block _ (by simp; omega)).trans ((heap_alloc_old _ _ (by simp)).trans (heap_alloc_new w1 o))
abbrev z25 : Value := .agg #[.int .u16 0, .int .u8 0, .slice none 0 0]

set_option maxRecDepth 100000 in
set_option maxHeartbeats 4000000 in
theorem head_any (w : World) : Calls Try.prog 9 #[] w fun e w' => e = .returned (.bool true) ∧ Below w.heap.size w w' := by
  have r2 : firstR [0, 7, 0, 0, 0, 2, 1, 3, 9] = .frame 7 1 [3] := rfl
  have r3 : firstR [0, 7, 0, 0, 0, 2, 1] = .more := rfl
  have r4 : firstR [0, 7, 1] = .bad := rfl
  have r5 : firstR [0, 7, 0, 0, 0, 1] = .bad := rfl
  have R2 := Lib.hid r2
  have R3 := Lib.hid r3
  have R4 := Lib.hid r4
  have R5 := Lib.hid r5
  clear r2 r3 r4 r5
  go_enter Try.func9, Try.ntmps9
  go_wp2_with fail
  refine (put_any 7 1 _ 1 1 [3] _ (bys_new [3] (by simp [maxLen]) (by first | rfl | simp) (by decide) (by simp [bv]) (by first | rfl | simp)) (by decide) (by decide)).mono ?_
  rintro e w1 ⟨b1, hif⟩
  rw [if_pos (by decide)] at hif
  obtain ⟨g1, k1, rfl, ho1⟩ := hif
  have hb1 : Below w.heap.size w w1 := below_new (Below.refl _ _) b1
  have hq1 : Bys w1 (some ⟨g1, 0, none⟩) 8 [0, 7, 0, 0, 0, 2, 1, 3] := ho1.bys (by decide)
  have HB1 := Lib.hid hb1
  have Q1 := Lib.hid hq1
  clear b1 ho1 hb1 hq1
  go_wp2_with fail
  refine (first_any _ 9 9 [0, 7, 0, 0, 0, 2, 1, 3, 9] _ (bys_new [0, 7, 0, 0, 0, 2, 1, 3, 9] (by simp [maxLen]) (by first | rfl | simp) (by decide) (by simp [bv]) (by first | rfl | simp)) (by decide) (by unfold maxLen; omega)).mono ?_
  rintro e w2 ⟨b2, hif⟩
  rw [R2.out] at hif
  obtain ⟨g2, rfl, hg2, hh2⟩ := hif
  have HB2 := Lib.hid (below_new HB1.out b2)
  have Q2 := Lib.hid (Q1.out.below (below_new (Below.refl _ _) b2))
  have HG2 := Lib.hid hh2
  have hgl := blk_lt hh2
  clear b2 hh2 hg2 Q1 HB1
  go_wp2_with fail
  refine (first_any _ 7 7 [0, 7, 0, 0, 0, 2, 1] _ (bys_new [0, 7, 0, 0, 0, 2, 1] (by simp [maxLen]) (by first | rfl | simp) (by decide) (by simp [bv]) (by first | rfl | simp)) (by decide) (by unfold maxLen; omega)).mono ?_
  rintro e w3 ⟨b3, hif⟩
  rw [R3.out] at hif
  subst hif
  have b3' : Below w2.heap.size w2 w3 := below_new2 (Below.refl _ _) b3
  have F3 := Lib.hid (block_new2 b3)
  have HB3 := Lib.hid (below_new2 HB2.out b3)
  have Q3 := Lib.hid (Q2.out.below b3')
  have HG3 := Lib.hid ((b3'.block g2 hgl).trans HG2.out)
  have hfl := blk_lt F3.out
  have hgl3 := blk_lt HG3.out
  clear b3 b3' HG2 Q2 HB2 hgl
  go_wp2_with fail
  refine (first_any _ 3 3 [0, 7, 1] _ (bys_new [0, 7, 1] (by simp [maxLen]) (by first | rfl | simp) (by decide) (by simp [bv]) (by first | rfl | simp)) (by decide) (by unfold maxLen; omega)).mono ?_
  rintro e w4 ⟨b4, hif⟩
  rw [R4.out] at hif
  subst hif
  have b4' : Below w3.heap.size w3 w4 := below_new2 (Below.refl _ _) b4
  have F4 := Lib.hid ((b4'.block _ hfl).trans F3.out)
  have HB4 := Lib.hid (below_new2 HB3.out b4)
  have Q4 := Lib.hid (Q3.out.below b4')
  have HG4 := Lib.hid ((b4'.block g2 hgl3).trans HG3.out)
  have hfl4 := blk_lt F4.out
  have hgl4 := blk_lt HG4.out
  clear b4 b4' F3 HG3 Q3 HB3 hgl3 hfl
  go_wp2_with fail
  refine (first_any _ 6 6 [0, 7, 0, 0, 0, 1] _ (bys_new [0, 7, 0, 0, 0, 1] (by simp [maxLen]) (by first | rfl | simp) (by decide) (by simp [bv]) (by first | rfl | simp)) (by decide) (by unfold maxLen; omega)).mono ?_
  rintro e w5 ⟨b5, hif⟩
  rw [R5.out] at hif
  subst hif
  have b50 : Below w4.heap.size w4 w5 := below_new2 (Below.refl _ _) b5
  have b5' := b50.alloc b50.size (.cells #[.int .u16 0, .int .u8 0, .slice none 0 0] 25 (0, 0))
  have q5 := Q4.out.below b5'
  obtain ⟨b, off, ea, _, hc⟩ := q5.pos (by decide)
  simp only [Option.some.injEq, Addr.mk.injEq, and_true] at ea
  obtain ⟨rfl, rfl⟩ := ea
  have e1 := hc 1 (by decide)
  have e5 := hc 5 (by decide)
  obtain ⟨c0, c1, c2, _, _, _⟩ := cells3 ((b5'.block _ hfl4).trans F4.out)
  have hcv := conv_bys (cap := 1) (bys_block [3] (by simp [maxLen]) (by decide) ((b5'.block g2 hgl4).trans HG4.out))
  have hs : strN [3] = ⟨#[3]⟩ := rfl
  rw [hs] at hcv
  have HB5 := Lib.hid ((below_new2 HB4.out b5).alloc (below_new2 HB4.out b5).size (.cells #[.int .u16 0, .int .u8 0, .slice none 0 0] 25 (0, 0)))
  simp only [List.length_singleton] at hcv
  clear b5 b50 b5' hc q5 hs F4 HG4 Q4 HB4 hfl4 hgl4
  simp at e1 e5
  go_wp2_with fail
  go_ret
  exact ⟨rfl, HB5.out⟩
end Go.Proofs.Ytnihgpaandodjaa
