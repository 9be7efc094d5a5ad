/- Digits: the library's. -/
import Derived.Test.YtogpbclfdnijpaaDoorB
import Derived.Test.YtogpbclfdnijpaaDoorShelf
namespace Go.Proofs.YtogpbclfdnijpaaDoor
set_option linter.unusedVariables false
set_option linter.unusedSimpArgs false
open Go.ChangeShapes Go.WideShapes Go.ChangeAt Go.RowKit

def hexd (n : Nat) : Nat := if n < 10 then 48 + n else 87 + n
def hexL (n : Nat) : List Nat := if h : n < 16 then [hexd n] else hexL (n / 16) ++ [hexd (n % 16)]
termination_by n
decreasing_by omega
def hexF : Nat → Nat → List Nat
  | 0, _ => []
  | k + 1, n => hexF k (n / 16) ++ [hexd (n % 16)]
theorem hexF_len (k n : Nat) : (hexF k n).length = k := by
  induction k generalizing n with
  | zero => rfl
  | succ k ih => simp [hexF, ih]
theorem hexF_zero (k : Nat) : hexF k 0 = List.replicate k 48 := by
  induction k with
  | zero => rfl
  | succ k ih => rw [hexF, Nat.zero_div, ih, List.replicate_succ']; rfl
theorem hexL_small {n : Nat} (h : n < 16) : hexL n = [hexd n] := by rw [hexL, dif_pos h]
theorem hexL_big {n : Nat} (h : ¬ n < 16) : hexL n = hexL (n / 16) ++ [hexd (n % 16)] := by rw [hexL, dif_neg h]
theorem hex_pad (k n : Nat) (hk : 1 ≤ k) (hn : n < 16 ^ k) : (hexL n).length ≤ k ∧ List.replicate (k - (hexL n).length) 48 ++ hexL n = hexF k n := by
  induction k generalizing n with
  | zero => omega
  | succ k ih =>
    by_cases h : n < 16
    · rw [hexL_small h, hexF, show n / 16 = 0 by omega, hexF_zero, show n % 16 = n by omega]
      exact ⟨by simp, by simp⟩
    · have hk1 : 1 ≤ k := by
        rcases Nat.eq_zero_or_pos k with e | e
        · subst e; simp at hn; omega
        · exact e
      have hd : n / 16 < 16 ^ k := by rw [Nat.pow_succ] at hn; omega
      obtain ⟨h1, h2⟩ := ih (n / 16) hk1 hd
      rw [hexL_big h, hexF, ← h2]
      refine ⟨by simp; omega, ?_⟩
      simp only [List.length_append, List.length_cons, List.length_nil]
      rw [show k + 1 - ((hexL (n / 16)).length + (0 + 1)) = k - (hexL (n / 16)).length by omega, List.append_assoc]
theorem hexd_by (n : Nat) (h : n < 16) : hexd n < 256 := by unfold hexd; split <;> omega
theorem hexL_by (n : Nat) : ∀ b ∈ hexL n, b < 256 := by
  induction n using Nat.strongRecOn with
  | ind n ih =>
    by_cases h : n < 16
    · rw [hexL_small h]; intro b hb; simp at hb; rw [hb]; exact hexd_by n h
    · rw [hexL_big h]
      intro b hb
      rcases List.mem_append.1 hb with q | q
      · exact ih (n / 16) (by omega) b q
      · simp at q; rw [q]; exact hexd_by _ (by omega)
/-- The library's table, at the one place that is read. -/
def TabK (W : World) : Prop := W.cell? ⟨3, 15, none⟩ = some (.int .u8 4)
theorem TabK.lt {W : World} (h : TabK W) : 3 < W.heap.size := by
  rcases Nat.lt_or_ge 3 W.heap.size with h' | h'
  · exact h'
  · unfold TabK at h; simp [World.cell?, Array.getElem?_eq_none h'] at h
theorem TabK.below {W W' : World} (h : TabK W) (hb : Below W.heap.size W W') : TabK W' := (hb.cell (p := ⟨3, 15, none⟩) h.lt).trans h
theorem tz_q : IntKind.u64.wrap (bits BinOp.and IntKind.u64 16 (IntKind.u64.wrap (-16)) * 285870213051353865) / 288230376151711744 = 15 := by decide +kernel
set_option maxRecDepth 100000 in
theorem tz64 (w : World) (h : TabK w) : Calls Tryd.prog 47 #[.int .u64 16] w fun e w' => e = .returned (.int .i64 4) ∧ w' = w := by
  unfold TabK at h
  have hq := tz_q
  go_enter Tryd.func47, Tryd.ntmps47
  go_wp2_with fail
  go_ret
  exact ⟨rfl, rfl⟩
set_option maxRecDepth 100000 in
theorem tz (w : World) (h : TabK w) : Calls Tryd.prog 43 #[.int .u64 16] w fun e w' => e = .returned (.int .i64 4) ∧ w' = w := by
  have T := Lib.hid (tz64 w h)
  clear h
  go_enter Tryd.func43, Tryd.ntmps43
  go_wp2_with fail
  refine T.out.mono ?_
  rintro e w1 ⟨rfl, rfl⟩
  go_wp2_with fail
  go_ret
  exact ⟨rfl, rfl⟩
set_option maxRecDepth 100000 in
theorem pow2 (w : World) : Calls Tryd.prog 42 #[.int .i64 16] w fun e w' => e = .returned (.bool true) ∧ w' = w := by
  go_enter Tryd.func42, Tryd.ntmps42
  go_wp2_with fail
  go_ret
  exact ⟨rfl, rfl⟩
theorem pow_step {u c : Nat} (h : u < 16 ^ (c + 1 - 49)) (h16 : 16 ≤ u) (hc : 49 ≤ c) : 50 ≤ c ∧ u / 16 < 16 ^ (c - 49) := by
  have h1 : 50 ≤ c := by
    rcases Nat.lt_or_ge c 50 with q | q
    · have : c = 49 := by omega
      subst this
      simp at h
      omega
    · exact q
  refine ⟨h1, ?_⟩
  rw [show c + 1 - 49 = (c - 49) + 1 by omega, Nat.pow_succ] at h
  omega
theorem and15 (u : Nat) (h : u < modN) : bits .and .u64 (u : Int) 15 = ((u % 16 : Nat) : Int) := by
  have := u64_and_nat u 15 h (by omega)
  rw [show (15 : Int) = ((15 : Nat) : Int) from rfl, this]
  rw [show (15 : Nat) = 2 ^ 4 - 1 from rfl, Nat.and_two_pow_sub_one_eq_mod]
/-- The digits that the library has. -/
def digS : ByteArray := ⟨#[48, 49, 50, 51, 52, 53, 54, 55, 56, 57, 97, 98, 99, 100, 101, 102, 103, 104, 105, 106, 107, 108, 109, 110, 111, 112, 113, 114, 115, 116, 117, 118, 119, 120, 121, 122]⟩
theorem dig_ix (d : Nat) (h : d < 16) (W : World) : (Instr.index 9 (.string ⟨#[48, 49, 50, 51, 52, 53, 54, 55, 56, 57, 97, 98, 99, 100, 101, 102, 103, 104, 105, 106, 107, 108, 109, 110, 111, 112, 113, 114, 115, 116, 117, 118, 119, 120, 121, 122]⟩) (.int .u64 (d : Int))).run Tryd.prog W = .ok (.int .u8 ((hexd d : Nat) : Int)) W := by
  rcases (show d = 0 ∨ d = 1 ∨ d = 2 ∨ d = 3 ∨ d = 4 ∨ d = 5 ∨ d = 6 ∨ d = 7 ∨ d = 8 ∨ d = 9 ∨ d = 10 ∨ d = 11 ∨ d = 12 ∨ d = 13 ∨ d = 14 ∨ d = 15 by omega) with rfl | rfl | rfl | rfl | rfl | rfl | rfl | rfl | rfl | rfl | rfl | rfl | rfl | rfl | rfl | rfl <;> rfl
theorem set_rep (c d : Nat) (D : List Nat) : (List.replicate (c + 1) 0 ++ D).set c d = List.replicate c 0 ++ d :: D := by
  rw [List.replicate_succ', List.append_assoc, List.set_append_right _ _ (by simp)]
  simp
theorem slice65 (g c : Nat) (hc : c < 65) (W : World) : (Instr.sliceAt 70 (.pointer (some ⟨g, 0, none⟩)) (some (.int .i64 (c : Int))) none none).run Tryd.prog W = .ok (.slice (some ⟨g, c, none⟩) (65 - c) (65 - c)) W := by
  have hl : Tryd.prog.arrayLen 70 = 65 := by kernel_rfl
  have he : Tryd.prog.elem 70 = 5 := by kernel_rfl
  have ht : Tryd.prog.underlying 70 = some (.array (Tryd.prog.arrayLen 70) (Tryd.prog.elem 70)) := by kernel_rfl
  have hs : (sizeOf (Tryd.prog.elem 70)).run Tryd.prog W = .ok 1 W := by kernel_rfl
  rw [run_sliceAt_array_l W 70 ⟨g, 0, none⟩ ht .i64 (c : Int) (by omega) (by rw [hl]; omega), hs, hl]
  have : ¬ 65 = c := by omega
  simp [slicedAt, Result.andThen, this, Addr.add]
  intro h0
  exact h0.symm
/-- The digits so far, at the end of the library's array. -/
structure DgS (w W : World) (h u c : Nat) (D : List Nat) : Prop where
  cD : c + D.length = 65
  ub : u < 16 ^ (c - 49)
  c50 : 50 ≤ c
  hx : hexL h = hexL u ++ D
  by' : ∀ b ∈ D, b < 256
  blk : W.heap[w.heap.size]? = some (.cells (bv (List.replicate c 0 ++ D)).toArray 70 (0, 0))
  bel : Below w.heap.size w W
theorem set_bv {W : World} {g : Nat} {L : List Nat} {t : TypeId} (h : W.heap[g]? = some (.cells (bv L).toArray t (0, 0))) (i x : Nat) : (W.setCell ⟨g, i, none⟩ (.int .u8 (x : Int))).heap[g]? = some (.cells (bv (L.set i x)).toArray t (0, 0)) := by
  simp [World.setCell, Array.getElem?_modify, h, bv, List.map_set]
theorem DgS.store {w W : World} {h u c : Nat} {D : List Nat} (H : DgS w W h u (c + 1) D) (d : Nat) : (W.setCell ⟨w.heap.size, c, none⟩ (.int .u8 (d : Int))).heap[w.heap.size]? = some (.cells (bv (List.replicate c 0 ++ d :: D)).toArray 70 (0, 0)) ∧ Below w.heap.size w (W.setCell ⟨w.heap.size, c, none⟩ (.int .u8 (d : Int))) := by
  have := set_bv H.blk c d
  rw [set_rep] at this
  exact ⟨this, H.bel.setCell (Nat.le_refl _) _⟩
theorem DgS.next {w W : World} {h u c : Nat} {D : List Nat} (H : DgS w W h u (c + 1) D) (hu : 16 ≤ u) : DgS w (W.setCell ⟨w.heap.size, c, none⟩ (.int .u8 ((hexd (u % 16) : Nat) : Int))) h (u / 16) c (hexd (u % 16) :: D) := by
  obtain ⟨h1, h2⟩ := H.store (hexd (u % 16))
  have hc := H.c50
  obtain ⟨h50, hub⟩ := pow_step H.ub hu (by omega)
  refine ⟨by have := H.cD; simp only [List.length_cons]; omega, hub, h50, ?_, ?_, h1, h2⟩
  · rw [H.hx, hexL_big (n := u) (by omega), List.append_assoc]; rfl
  · intro b hb
    rcases List.mem_cons.1 hb with q | q
    · rw [q]; exact hexd_by _ (by omega)
    · exact H.by' b q
theorem DgS.done {w W : World} {h u c : Nat} {D : List Nat} (H : DgS w W h u (c + 1) D) (hu : u < 16) : Bys (W.setCell ⟨w.heap.size, c, none⟩ (.int .u8 ((hexd u : Nat) : Int))) (some ⟨w.heap.size, c, none⟩) (65 - c) (hexL h) := by
  obtain ⟨h1, h2⟩ := H.store (hexd u)
  have hb : ∀ b ∈ List.replicate c 0 ++ hexd u :: D, b < 256 := by
    intro b hb
    simp only [List.mem_append, List.mem_cons] at hb
    rcases hb with q | q | q
    · rw [List.eq_of_mem_replicate q]; omega
    · rw [q]; exact hexd_by _ hu
    · exact H.by' b q
  have hl : (List.replicate c 0 ++ hexd u :: D).length = 65 := by have := H.cD; simp only [List.length_append, List.length_replicate, List.length_cons]; omega
  have hB := bys_block _ (by rw [hl]; unfold maxLen; omega) hb h1
  have hd : (List.replicate c 0 ++ hexd u :: D).drop c = hexL h := by
    rw [List.drop_append_of_le_length (by simp), List.drop_of_length_le (by simp), H.hx, hexL_small hu]
    rfl
  have := hB.sub c (65 - c) (by rw [hl]; have := H.cD; omega)
  rw [hd, List.take_of_length_le (by rw [H.hx, hexL_small hu]; have := H.cD; simp; omega), Nat.zero_add] at this
  exact this
set_option maxRecDepth 100000 in
set_option maxHeartbeats 4000000 in
theorem bits_any (h : Nat) (w : World) (hh : h < modN) (hT : TabK w) : Calls Tryd.prog 32 #[.slice none 0 0, .int .u64 (h : Int), .int .i64 16, .bool false, .bool false] w (fun e w' => e = .returned (.tuple #[.slice none 0 0, .string (strN (hexL h))]) ∧ Below w.heap.size w w') := by
  obtain ⟨P, hP⟩ : ∃ P, P = (fun (e : Ending) (w' : World) => e = .returned (.tuple #[.slice none 0 0, .string (strN (hexL h))]) ∧ Below w.heap.size w w') := ⟨_, rfl⟩
  rw [← hP]
  have FIN : Hid (∀ W, Below w.heap.size w W → P (.returned (.tuple #[.slice none 0 0, .string (strN (hexL h))])) W) := Lib.hid (fun W hb => by rw [hP]; exact ⟨rfl, hb⟩)
  have P2 := Lib.hid (fun W => pow2 W)
  have TZ := Lib.hid (fun W (hb : Below w.heap.size w W) => tz W (hT.below hb))
  obtain ⟨Z, hZ⟩ : ∃ Z, Z = (bv (List.replicate 65 0)).toArray := ⟨_, rfl⟩
  have hz : ∀ W, (zeroValue 70).run Tryd.prog W = .ok (.agg Z) W := fun _ => by rw [hZ]; kernel_rfl
  have D0 : Hid (DgS w (w.alloc (.cells Z 70 (0, 0))) h h 65 []) := Lib.hid ⟨rfl, by unfold modN at hh; exact hh, by omega, by simp, by simp, by rw [hZ]; simpa using heap_alloc_new w _, (Below.refl _ _).alloc (Nat.le_refl _) _⟩
  have HH := Lib.hid hh
  clear hT hh hZ hP
  go_enter Tryd.func32, Tryd.ntmps32
  go_wp2_with fail
  refine (P2.out _).mono ?_
  rintro e w1 ⟨rfl, e1⟩
  rw [e1]
  clear e1
  go_wp2_with fail
  refine (TZ.out _ ((Below.refl _ _).alloc (Nat.le_refl _) _)).mono ?_
  rintro e w2 ⟨rfl, e2⟩
  rw [e2]
  clear e2
  go_wp2_with fail
  go_loopw [1, 13] (fun uv iv wr => ∃ (u c : Nat) (D : List Nat), uv = .int .u64 (u : Int) ∧ iv = .int .i64 ((c + 1 : Nat) : Int) ∧ u < modN ∧ DgS w wr h u (c + 1) D) (fun uv _ _ => (intOf uv).toNat)
  case atStart => exact ⟨h, 64, [], rfl, rfl, HH.out, D0.out⟩
  case round =>
    obtain ⟨wo, rfl⟩ : ∃ wo : World, wo = wr := ⟨_, rfl⟩
    obtain ⟨u, c, D, rfl, rfl, hu, hD⟩ := hrel
    have hc50 := hD.c50
    have hcD := hD.cD
    have hcell : ∃ v, wo.cell? ⟨w.heap.size, c, none⟩ = some v := by
      have := hD.blk
      simp only [World.cell?, this]
      exact ⟨_, by simpa using bv_get (List.replicate (c + 1) 0 ++ D) c (by simp; omega)⟩
    obtain ⟨v, hcell⟩ := hcell
    have hfz : wo.frozen? ⟨w.heap.size, c, none⟩ = false := by simp [World.frozen?, hD.blk]
    have HDS := Lib.hid hD
    have HU := Lib.hid hu
    have hcI : (c : Int) < 65 := by omega
    have hcI0 : (0 : Int) ≤ (c : Int) := by omega
    have hcN : c < 65 := by omega
    by_cases h16 : 16 ≤ u
    · have ha := and15 u hu
      obtain ⟨d, hd⟩ : ∃ d, d = u % 16 := ⟨_, rfl⟩
      have hdl : d < 16 := by omega
      have hix := dig_ix d hdl
      rw [← hd] at ha
      have NX : Hid (DgS w (wo.setCell ⟨w.heap.size, c, none⟩ (.int .u8 ((hexd d : Nat) : Int))) h (u / 16) c (hexd d :: D)) := Lib.hid (by rw [hd]; exact hD.next h16)
      have hu2 : u / 16 < modN := by omega
      have HU2 := Lib.hid hu2
      have h50 := NX.out.c50
      obtain ⟨k, rfl⟩ : ∃ k, c = k + 1 := ⟨c - 1, by omega⟩
      have hg : decide ((16 : Int) ≤ (u : Int)) = true := by simp; omega
      clear hD hu hd hu2
      go_wp2_with fail
      go_roundw
      case rel => exact ⟨u / 16, k, _, by go_num, by go_num, HU2.out, NX.out⟩
      case measure => simp [intOf]; omega
    · have hix := dig_ix u (by omega)
      have DN := Lib.hid (hD.done (by omega))
      have BE := Lib.hid (hD.store (hexd u)).2
      have hg : decide ((16 : Int) ≤ (u : Int)) = false := by simp; omega
      have hm := hD.bel.size
      have hCV := conv_bys (cap := 65 - c) DN.out
      clear hD hu
      have hSA := fun W => slice65 w.heap.size c hcN W
      go_wp2_with fail
      exact FIN.out _ BE.out
end Go.Proofs.YtogpbclfdnijpaaDoor
