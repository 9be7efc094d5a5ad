/- The live question of disks. -/
import Derived.Test.YtpjddinbbglgmaaW
import Derived.Laws.BytesArg
import Derived.Lib.SmallJoins
namespace Go.Proofs.Ytpjddinbbglgmaa
set_option linter.unusedVariables false
open Go.ChangeShapes Go.WideShapes Go.ChangeAt Go.RowKit

def strN (l : List Nat) : ByteArray := strOfNums (l.map fun n : Nat => (n : Int))
theorem conv_any (W : World) (b off len cap : Nat) (l : List Nat) (hl : l.length = len) (hc : ∀ i, i < len → W.cell? ⟨b, off + i, none⟩ = some (.int .u8 ((l.getD i 0 : Nat) : Int))) :
    (convert 29 9 (.slice (some ⟨b, off, none⟩) len cap)).run Try.prog W = .ok (.string (strN l)) W :=
  run_convert_bytes_arg W 29 5 Try.underlying29 Try.underlying5 b off len cap (l.map fun n : Nat => (n : Int)) (by simpa using hl) (fun i hi => by
    rw [hc i hi]
    have hil : i < l.length := by omega
    simp [List.getD, List.getElem?_map, List.getElem?_eq_getElem hil]) 9 Try.underlying9

theorem bys_new {w : World} {b len : Nat} {f : List Nat} {t : TypeId} {fr : Nat × Nat} (h : w.heap[b]? = some (.cells (bv f).toArray t fr)) (hl : f.length = len) (hf : ∀ x ∈ f, x < 256) : Bys w (some ⟨b, 0, none⟩) len f := by
  refine ⟨hl, hf, .inr ⟨b, 0, rfl, blk_lt h, fun i hi => ?_⟩⟩
  rw [Nat.zero_add]
  simp only [World.cell?, h]
  simpa using bv_get f i (by omega)

theorem Dk.step {B : Nat} {w w' : World} {d s m wr : Nat} {pc : Option Nat} {ct : Option (Nat × Nat)} {dn : Bool} {L : List Nat} (h : Dk B w d s pc m ct dn wr L) (f : Fr d s pc w w') : Below B w w' :=
  f.below h.hd h.hs (fun c e => (h.hc c e).1) (by have := blk_lt h.db; have := h.hd; omega)

set_option maxRecDepth 100000 in
set_option maxHeartbeats 2000000 in
theorem head_any (w : World) : Calls Try.prog 8 #[] w fun e w' => e = .returned (.bool true) ∧ Below w.heap.size w w' := by
  go_enter Try.func8, Try.ntmps8
  go_wp2_with fail
  refine (new_any 2 w).mono ?_
  rintro e w0 ⟨d, rfl, h0, hb0⟩
  rw [show (wi 2 1 256).toNat = 2 from rfl] at h0
  have H0 := Lib.hid h0
  have B0 := Lib.hid hb0
  have hs0 := hb0.size
  clear h0 hb0
  have hcv := Go.Joins.run_convert_bytes_const_at (P := Try.prog) w0 29 5 #[.int .u8 97, .int .u8 98, .int .u8 99] 3 3 w0.heap.size rfl Try.underlying29 Try.underlying5
  go_wp2_with fail
  have g0 := H0.out.below (w' := w0.alloc (.cells (bv [97, 98, 99]).toArray 5 (3, 4))) (Below.alloc (Below.refl _ _) (Nat.le_refl _) _)
  refine (write_none 0 _ 3 _ [97, 98, 99] g0 (by decide) (bys_new (heap_alloc_new w0 _) rfl (by decide)) (by decide) (by decide)).mono ?_
  rintro e w1 ⟨rfl, h1, f1⟩
  have H1 : Hid (Dk w.heap.size w1 d w.heap.size none 2 none false 1 (splice (List.replicate 128 0) 0 (whole [97, 98, 99]))) := Lib.hid h1
  have B1 := Lib.hid ((B0.out.alloc hs0 _).trans (g0.step f1))
  have hs1 := B1.out.size
  clear h1 f1 hcv g0
  go_wp2_with fail
  refine (cut_yes H1.out hs1 0 2).mono ?_
  rintro e w2 ⟨rfl, h2, f2⟩
  have H2 : Hid (Dk w.heap.size w2 d w.heap.size (some w1.heap.size) 2 (some (0, 2)) false 1 (splice (List.replicate 128 0) 0 (whole [97, 98, 99]))) := Lib.hid h2
  have B2 := Lib.hid (B1.out.trans (H1.out.step f2))
  have hs2 := B2.out.size
  clear h2 f2
  have hcv := Go.Joins.run_convert_bytes_const_at (P := Try.prog) w2 29 5 #[.int .u8 120, .int .u8 121, .int .u8 122] 3 3 w2.heap.size rfl Try.underlying29 Try.underlying5
  go_wp2_with fail
  have g2 := H2.out.below (w' := w2.alloc (.cells (bv [120, 121, 122]).toArray 5 (3, 4))) (Below.alloc (Below.refl _ _) (Nat.le_refl _) _)
  refine (write_torn 0 _ 3 _ [120, 121, 122] g2 (by decide) (bys_new (heap_alloc_new w2 _) rfl (by decide)) (by decide) (by decide)).mono ?_
  rintro e w3 ⟨rfl, h3, f3⟩
  obtain ⟨L, hL⟩ : ∃ L, L = splice (splice (List.replicate 128 0) 0 (whole [97, 98, 99])) 0 ((whole [120, 121, 122]).take 2) := ⟨_, rfl⟩
  have H3 : Hid (Dk w.heap.size w3 d w.heap.size none 2 none true 1 L) := Lib.hid (by rw [hL]; exact h3)
  have HL := Lib.hid hL
  have B3 := Lib.hid ((B2.out.alloc hs2 _).trans (g2.step f3))
  clear h3 f3 hcv g2 hL
  go_wp2_with fail
  refine (read_down 0 H3.out).mono ?_
  rintro e w4 ⟨rfl, rfl⟩
  go_wp2_with fail
  refine (down_any H3.out).mono ?_
  rintro e w4 ⟨rfl, rfl⟩
  go_wp2_with fail
  refine (boot_any H3.out).mono ?_
  rintro e w5 ⟨rfl, h5, f5⟩
  have H5 := Lib.hid h5
  have B5 := Lib.hid (B3.out.trans (H3.out.step f5))
  clear h5 f5
  go_wp2_with fail
  refine (read_ok 0 H5.out (by decide)).mono ?_
  rintro e w6 ⟨gx, rfl, hgx, hb6, bl6⟩
  have H6 := Lib.hid (H5.out.below bl6)
  have B6 := Lib.hid (B5.out.trans (bl6.mono B5.out.size))
  have hcv := conv_any w6 gx 0 4 64 [120, 121, 99, 0] rfl (fun i hi => by
    rw [Nat.zero_add]
    simp only [World.cell?, hb6]
    have : (bv (sec L 0)).take 4 = bv [120, 121, 99, 0] := by rw [HL.out]; rfl
    have h2 : ((bv (sec L 0)).take 4)[i]? = (bv [120, 121, 99, 0])[i]? := by rw [this]
    rw [List.getElem?_take_of_lt hi, bv_get [120, 121, 99, 0] i hi] at h2
    simpa using h2)
  have hstr : strN [120, 121, 99, 0] = ⟨#[120, 121, 99, 0]⟩ := by decide
  rw [hstr] at hcv
  clear hb6 hgx bl6 hstr
  go_wp2_with fail
  refine (read_arg 2 H6.out (by decide)).mono ?_
  rintro e w7 ⟨rfl, rfl⟩
  go_wp2_with fail
  refine (many_any H6.out).mono ?_
  rintro e w7 ⟨rfl, rfl⟩
  go_wp2_with fail
  refine (writes_any H6.out).mono ?_
  rintro e w7 ⟨rfl, rfl⟩
  obtain ⟨ti, hti, hz0, hz1, hz2⟩ := info_parts info5
  obtain ⟨w8, hmk, ho8, hg8⟩ := run_make_full (P := Try.prog) w6 w6.heap.size 29 5 ti (.int .u8 0) 1 Try.underlying29 hti hz0 hz1 .i64 .i64 65 (by rw [hz2]; omega) (by unfold maxLen; omega) (Nat.le_refl _)
  have b8 : Below w6.heap.size w6 w8 := (Below.refl _ _).grown hg8 (Nat.le_refl _) (fun k e => by cases e)
  have H8 := Lib.hid (H6.out.below b8)
  have B8 := Lib.hid (B6.out.trans (b8.mono B6.out.size))
  have hmk' : (Instr.makeSlice 29 (.int .i64 65) (.int .i64 65)).run Try.prog w6 = .ok (.slice (some ⟨w6.heap.size, 0, none⟩) 65 65) w8 := hmk
  clear ho8 hg8 b8 hmk
  go_wp2_with fail
  refine (write_arg 0 _ 65 _ (by decide) H8.out (.inr (by decide))).mono ?_
  rintro e w9 ⟨rfl, rfl⟩
  go_wp2_with fail
  go_ret
  exact ⟨rfl, B8.out⟩
end Go.Proofs.Ytpjddinbbglgmaa
