/- The live question of the frames on a line. -/
import Derived.Test.YtdlcfnpnfdlahaaE
namespace Go.Proofs.Ytdlcfnpnfdlahaa
set_option linter.unusedVariables false
open Go.ChangeShapes Go.WideShapes Go.ChangeAt Go.RowKit

theorem made_own {B b n : Nat} {w : World} (h : w.ownsRow B 5 1 (.slice (some ⟨b, 0, none⟩) n n) n (madeCells (Value.int .u8 0).cells (n * 1)).toList) : OwnB B w b n n (List.replicate n 0) := by
  rw [made_zero] at h; exact h
theorem rep_by (n : Nat) : ∀ b ∈ List.replicate n 0, b < 256 := by
  intro b hb; rw [List.mem_replicate] at hb; omega

set_option maxRecDepth 100000 in
set_option maxHeartbeats 4000000 in
theorem head_any (w : World) : Calls Try.prog 9 #[] w fun e w' => e = .returned (.bool true) ∧ Below w.heap.size w w' := by
  have s1 : sealN (1 :: [3, 0, 0, 0, 1]) = [1, 3, 0, 0, 0, 1, 132, 10] := by decide +kernel
  have r1 : getR [1, 3, 0, 0, 0, 1, 132, 10] = .ok 1 [3, 0, 0, 0, 1] := by unfold getR; rw [if_neg (by decide), if_neg (by decide), if_pos (by decide +kernel)]; rfl
  have r2 : getR [1, 2, 3] = .err 21 := by unfold getR; rw [if_neg (by decide), if_pos (by decide)]
  have r3 : getR [1, 2, 3, 4] = .err 23 := by unfold getR; rw [if_neg (by decide), if_neg (by decide), if_neg (by decide +kernel)]
  have r4 : getR (List.replicate 257 0) = .err 22 := by unfold getR; rw [if_pos (by rw [List.length_replicate]; omega)]
  have S1 := Lib.hid s1
  have R1 := Lib.hid r1
  have R2 := Lib.hid r2
  have R3 := Lib.hid r3
  have R4 := Lib.hid r4
  clear s1 r1 r2 r3 r4
  go_enter Try.func9, Try.ntmps9
  go_wp2_with fail
  refine (put_any 1 _ 5 5 [3, 0, 0, 0, 1] _ (bys_new [3, 0, 0, 0, 1] (by simp [maxLen]) (by first | rfl | simp) (by decide) (by simp [bv]) (by first | rfl | simp)) (by decide)).mono ?_
  rintro e w1 ⟨b1, hif⟩
  rw [if_pos (by decide), S1.out] at hif
  obtain ⟨g1, k1, rfl, ho1⟩ := hif
  have A1 := Lib.hid (show ArgB w1 (some ⟨g1, 0, none⟩) 8 k1 [1, 3, 0, 0, 0, 1, 132, 10] from ho1.arg (by decide))
  have B1 := Lib.hid (below_new (Below.refl _ _) b1)
  clear b1 ho1
  go_wp2_with fail
  refine (get_any _ 8 k1 _ _ A1.out).mono ?_
  rintro e w2 ⟨b2, hif⟩
  rw [R1.out] at hif
  obtain ⟨g2, k2, rfl, ho2⟩ := hif
  have A2 := Lib.hid (A1.out.below b2)
  have P2 := Lib.hid (show Bys w2 (some ⟨g2, 0, none⟩) 5 [3, 0, 0, 0, 1] from ho2.bys (by decide))
  have B2 := Lib.hid (B1.out.trans (b2.mono B1.out.size))
  clear b2 ho2 A1 B1
  go_wp2_with fail
  refine (get_any _ 3 3 [1, 2, 3] _ ⟨bys_new [1, 2, 3] (by simp [maxLen]) (by first | rfl | simp) (by decide) (by simp [bv]) (by first | rfl | simp), (fun e => by cases e), Nat.le_refl _, by unfold maxLen; omega⟩).mono ?_
  rintro e w3 ⟨b3, hif⟩
  rw [R2.out] at hif
  simp only at hif
  subst hif
  have b3' : Below w2.heap.size w2 w3 := below_new (Below.refl _ _) b3
  have A3 := Lib.hid (A2.out.below b3')
  have P3 := Lib.hid (P2.out.below b3')
  have B3 := Lib.hid (below_new B2.out b3)
  clear b3 b3' A2 P2 B2
  go_wp2_with fail
  refine (get_any _ 4 4 [1, 2, 3, 4] _ ⟨bys_new [1, 2, 3, 4] (by simp [maxLen]) (by first | rfl | simp) (by decide) (by simp [bv]) (by first | rfl | simp), (fun e => by cases e), Nat.le_refl _, by unfold maxLen; omega⟩).mono ?_
  rintro e w4 ⟨b4, hif⟩
  rw [R3.out] at hif
  simp only at hif
  subst hif
  have b4' : Below w3.heap.size w3 w4 := below_new (Below.refl _ _) b4
  have A4 := Lib.hid (A3.out.below b4')
  have P4 := Lib.hid (P3.out.below b4')
  have B4 := Lib.hid (below_new B3.out b4)
  clear b4 b4' A3 P3 B3
  obtain ⟨ti, hti, hz0, hz1, hz2⟩ := info_parts info5
  obtain ⟨w5, hmk, ho5, hg5⟩ := run_make_full (P := Try.prog) w4 w4.heap.size 22 5 ti (.int .u8 0) 1 Try.underlying22 hti hz0 hz1 .i64 .i64 257 (by rw [hz2]; omega) (by unfold maxLen; omega) (Nat.le_refl _)
  have b5 : Below w4.heap.size w4 w5 := (Below.refl _ _).grown hg5 (Nat.le_refl _) (fun k e => by cases e)
  have A5 := Lib.hid (A4.out.below b5)
  have P5 := Lib.hid (P4.out.below b5)
  have B5 := Lib.hid (B4.out.trans (b5.mono B4.out.size))
  have Z5 := Lib.hid ((made_own ho5).arg (rep_by 257))
  have hmk' : (Instr.makeSlice 22 (.int .i64 257) (.int .i64 257)).run Try.prog w4 = .ok (.slice (some ⟨w4.heap.size, 0, none⟩) 257 257) w5 := hmk
  clear ho5 hg5 b5 hmk A4 P4 B4
  go_wp2_with fail
  refine (get_any _ 257 257 _ _ Z5.out).mono ?_
  rintro e w6 ⟨b6, hif⟩
  rw [R4.out] at hif
  simp only at hif
  subst hif
  have A6 := Lib.hid (A5.out.below b6)
  have P6 := Lib.hid (P5.out.below b6)
  have B6 := Lib.hid (B5.out.trans (b6.mono B5.out.size))
  clear b6 A5 P5 B5 Z5 hmk'
  go_wp2_with fail
  refine (new_any w6).mono ?_
  rintro e w7 ⟨rfl, e7, b7⟩
  have A7 := Lib.hid (A6.out.below b7)
  have P7 := Lib.hid (P6.out.below b7)
  have B7 := Lib.hid (B6.out.trans (b7.mono B6.out.size))
  have E7 := Lib.hid e7
  have hs6 := B6.out.size
  have hs7 := b7.size
  clear b7 e7
  go_wp2_with fail
  refine (hear_any E7.out _ 8 k1 _ A7.out.row (by omega)).mono ?_
  rintro e w8 ⟨rfl, e8, f8⟩
  have E8 := Lib.hid (show Er w6.heap.size w8 w6.heap.size [1, 3, 0, 0, 0, 1, 132, 10] from e8)
  have F8 := Lib.hid f8
  have hs8 := f8.size
  clear f8 e8
  go_wp2_with fail
  refine (many_any E8.out).mono ?_
  rintro e w8' ⟨rfl, rfl⟩
  go_wp2_with fail
  refine (sil_any E8.out (by omega)).mono ?_
  rintro e w9 ⟨e9, f9, hif⟩
  rw [show sil [1, 3, 0, 0, 0, 1, 132, 10] = .ok 1 [3, 0, 0, 0, 1] from (by unfold sil; rw [if_neg (by decide)]; exact R1.out)] at hif
  simp only at hif
  obtain ⟨g9, k9, rfl, _⟩ := hif
  have E9 := Lib.hid e9
  have F9 := Lib.hid (F8.out.trans f9)
  have hs9 := f9.size
  clear e9 f9
  go_wp2_with fail
  refine (sil_any E9.out (by omega)).mono ?_
  rintro e w10 ⟨e10, f10, hif⟩
  rw [show sil [] = .err 0 from rfl] at hif
  simp only at hif
  subst hif
  have ff := F9.out.trans f10
  have hb10 : Below w.heap.size w w10 := (B7.out).trans (ff.below hs6 (by omega))
  have hg1 : g1 < w6.heap.size := by obtain ⟨b, off, e, h, _⟩ := A6.out.row.pos (by decide); simp at e; omega
  have hg2 : g2 < w6.heap.size := by obtain ⟨b, off, e, h, _⟩ := P6.out.pos (by decide); simp at e; omega
  have a10 := A7.out.row.fr ff (fun b off _ e => by simp at e; omega)
  have p10 := P7.out.fr ff (fun b off _ e => by simp at e; omega)
  obtain ⟨b, off, ea, _, hc⟩ := a10.pos (by decide)
  simp only [Option.some.injEq, Addr.mk.injEq, and_true] at ea
  obtain ⟨rfl, rfl⟩ := ea
  have c6 := hc 6 (by decide)
  have c7 := hc 7 (by decide)
  obtain ⟨b', off', ea', _, hc'⟩ := p10.pos (by decide)
  simp only [Option.some.injEq, Addr.mk.injEq, and_true] at ea'
  obtain ⟨rfl, rfl⟩ := ea'
  have d0 := hc' 0 (by decide)
  simp at c6 c7 d0
  have HB := Lib.hid hb10
  clear hc hc' a10 p10 ff hb10 hg1 hg2 e10 f10 A7 P7 B7 E7 E8 E9 F8 F9 A6 P6 B6
  go_wp2_with fail
  go_ret
  exact ⟨rfl, HB.out⟩
end Go.Proofs.Ytdlcfnpnfdlahaa
