/- The walk of CrcZero. -/
import Derived.Test.YtkkhkcjgpefjiaaBytes
import Derived.Deep.RegionHeld
namespace Go.Proofs.Ytkkhkcjgpefjiaa
set_option linter.unusedVariables false
open Go.ChangeShapes Go.WideShapes Go.ChangeAt Go.RowKit

/-- What is sealed sums to nothing. -/
theorem seal_zero (f : Nat → Nat) (n : Nat) (h : ∀ i, i < n → f i < 256) : crcF (fun i => (sealL f n).getD i 0) (n + 2) = 0 := by
  have h1 := ok_res (sF f n) n (fun i hi => sF_lt f n h i hi)
  rw [sF_ok] at h1
  have h2 := h1.symm
  simp only [decide_eq_true_eq] at h2
  exact h2

theorem xor_zero (f g : Nat → Nat) (n : Nat) : crcF (fun i => f i ^^^ g i) n ^^^ crcF f n ^^^ crcF g n = crcF (fun _ => 0) n := by
  simp only [← crcI_F]
  rw [← crcI_xor, ← crcI_xor]
  have h1 : 65535 ^^^ 65535 ^^^ 65535 = 65535 := by decide
  rw [h1]
  congr 1
  funext i
  rw [Nat.xor_assoc, Nat.xor_comm (f i ^^^ g i), ← Nat.xor_assoc]
  simp [Nat.xor_comm, Nat.xor_self, xlc]

/-- What the loop has laid: the xor of the first k, then zeros. -/
def xL (f g : Nat → Nat) (n k : Nat) : List Nat := bl (fun i => if i < k then f i ^^^ g i else 0) n
theorem xL_len (f g : Nat → Nat) (n k : Nat) : (xL f g n k).length = n := bl_len _ _
theorem xL_set (f g : Nat → Nat) (n k : Nat) (h : k < n) : (xL f g n k).set k (f k ^^^ g k) = xL f g n (k + 1) := by
  refine List.ext_getElem? fun i => ?_
  by_cases hi : i = k
  · subst hi
    rw [List.getElem?_set_self (by rw [xL_len]; exact h)]
    simp [xL, bl, h]
  · rw [List.getElem?_set_ne (fun q => hi q.symm)]
    by_cases hn : i < n
    · simp only [xL, bl, List.getElem?_map, List.getElem?_range hn, Option.map_some]
      by_cases h1 : i < k
      · simp [h1, show i < k + 1 by omega]
      · simp [h1, show ¬ i < k + 1 by omega]
    · rw [List.getElem?_eq_none (by rw [xL_len]; omega), List.getElem?_eq_none (by rw [xL_len]; omega)]
theorem xL_zero (f g : Nat → Nat) (n : Nat) : xL f g n 0 = List.replicate n 0 := by
  refine List.ext_getElem? fun i => ?_
  by_cases hn : i < n
  · simp [xL, bl, hn]
  · simp [xL, bl, hn]
/-- What make lays: zeros. -/
theorem made_own {B b n : Nat} {w : World} (hm : n ≤ maxLen) (h : w.ownsRow B 5 1 (.slice (some ⟨b, 0, none⟩) n n) n (madeCells (Value.int .u8 0).cells (n * 1)).toList) : OwnR B w b n (List.replicate n 0) := by
  have : (madeCells (Value.int .u8 0).cells (n * 1)).toList = vals (List.replicate n 0) := by
    simp [madeCells, Value.cells, vals, Nat.mod_one, List.map_const']
  rw [this] at h
  have h' : w.ownsRow B 5 1 (.slice (some ⟨b, 0, none⟩) (List.replicate n 0).length n) (List.replicate n 0).length (vals (List.replicate n 0)) := by rw [List.length_replicate]; exact h
  exact h'

set_option maxRecDepth 100000 in
set_option maxHeartbeats 8000000 in
theorem zero_walk (a : Option Addr) (len cap : Nat) (f : Nat → Nat) (b : Option Addr) (len2 cap2 : Nat) (g : Nat → Nat) (w : World) (h : Arg w a len cap f) (h2 : Arg w b len2 cap2 g) (n : Nat) (hn : n = min len len2) (hle : n ≤ 9000) :
    Calls Try.prog 6 #[.slice a len cap, .slice b len2 cap2] w fun e w' => e = .returned (.bool true) ∧ Below w.heap.size w w' := by
  have hnl : n ≤ len := by omega
  have hnl2 : n ≤ len2 := by omega
  have hd : decide (9000 < (n : Int)) = false := by simp; omega
  have hmin : (if len2 < len then (len2 : Int) else (len : Int)) = (n : Int) := by split <;> omega
  obtain ⟨ti, hi, hz0, hz1, hz2⟩ := info_parts info5
  have H := Lib.hid h
  have G := Lib.hid h2
  clear h h2 hn
  go_enter Try.func6, Try.ntmps6
  go_wp2_with fail
  refine (head_any w).mono ?_
  rintro e w0 ⟨rfl, b0⟩
  have H0 := Lib.hid (H.out.below b0)
  have G0 := Lib.hid (G.out.below b0)
  have B0 := Lib.hid b0
  clear b0 H G
  have hmx : n ≤ maxLen := by unfold maxLen; omega
  obtain ⟨w1, hmk, ho1, hg1⟩ := run_make_full (P := Try.prog) w0 w0.heap.size 22 5 ti (.int .u8 0) 1 Try.underlying22 hi hz0 hz1 .i64 .i64 n (by rw [hz2]; omega) hmx (Nat.le_refl _)
  have q1 : Below w0.heap.size w0 w1 := (Below.refl _ _).grown hg1 (Nat.le_refl _) (fun k e => by cases e)
  have o1 := made_own hmx ho1
  have hmk' : (Instr.makeSlice 22 (.int .i64 (n : Int)) (.int .i64 (n : Int))).run Try.prog w0 = .ok (.slice (some ⟨w0.heap.size, 0, none⟩) n n) w1 := hmk
  have Q1 := Lib.hid q1
  have O1 := Lib.hid o1
  generalize hgx : w0.heap.size = gx at hmk' O1
  have hgs : w0.heap.size ≤ gx := by omega
  clear hmk ho1 hg1 q1 o1
  go_wp2_with fail
  clear hmk'
  go_loopw [8] (fun i w1 => ∃ k : Nat, k ≤ n ∧ i = .int .i64 k ∧ OwnR gx w1 gx n (xL f g n k) ∧ Below gx w0 w1) (fun i _ => n - (intOf i).toNat)
  case atStart => exact ⟨0, Nat.zero_le _, rfl, by rw [xL_zero]; exact O1.out, by rw [← hgx]; exact Q1.out⟩
  case round =>
    obtain ⟨w3, hw3⟩ : ∃ w3 : World, w3 = wr := ⟨_, rfl⟩
    subst hw3
    obtain ⟨k, hk, rfl, ho, hb⟩ := hrel
    have OX := Lib.hid ho
    have BX := Lib.hid hb
    have H3 := Lib.hid (H0.out.below (hgx ▸ hb))
    have G3 := Lib.hid (G0.out.below (hgx ▸ hb))
    clear ho hb
    by_cases hlt : k < n
    · obtain ⟨b1, of1, ha1, _, hc1⟩ := H3.out.row.pos (by omega)
      obtain ⟨b2, of2, ha2, _, hc2⟩ := G3.out.row.pos (by omega)
      have c1 := hc1 k (by omega)
      have c2 := hc2 k (by omega)
      have l1 := H3.out.lt k (by omega)
      have l2 := G3.out.lt k (by omega)
      obtain ⟨c0, f0⟩ := OX.out.cell k (by rw [xL_len]; exact hlt)
      clear hc1 hc2
      subst ha1
      subst ha2
      have hi1 : (k : Int) < (len : Int) := by omega
      have hi2 : (k : Int) < (len2 : Int) := by omega
      have hi3 : (k : Int) < (n : Int) := by omega
      have hx := bits_xor_u8_nat (f k) (g k) l1 l2
      have hs := xL_set f g n k hlt
      generalize hv : f k ^^^ g k = v at hx hs
      generalize f k = x at c1 l1 hx
      generalize g k = y at c2 l2 hx
      have HS := Lib.hid hs
      clear hs hv hmin
      go_wp2_with fail
      go_region
      go_wp2_with fail
      go_round
      case rel => exact ⟨k + 1, by omega, by go_num, by rw [← HS.out]; exact (OX.out.set k v).below (below_drewN _ _ 1), (BX.out.setCell (p := ⟨gx, k, none⟩) (Nat.le_refl _) (.int .u8 (v : Int))).drew⟩
      case measure => simp [intOf]; omega
    · have hk' : n = k := by omega
      subst hk'
      obtain ⟨hA3, hB3⟩ : Arg w3 a n cap f ∧ Arg w3 b n cap2 g :=
        ⟨⟨H3.out.row.cut hnl, fun i hi => H3.out.lt i (by omega), fun q => ⟨by have := (H3.out.nil q).1; omega, (H3.out.nil q).2⟩, by have := H3.out.le; omega, H3.out.mx⟩,
         ⟨G3.out.row.cut hnl2, fun i hi => G3.out.lt i (by omega), fun q => ⟨by have := (G3.out.nil q).1; omega, (G3.out.nil q).2⟩, by have := G3.out.le; omega, G3.out.mx⟩⟩
      have A3 := Lib.hid hA3
      have C3 := Lib.hid hB3
      have lca : (n : Int) ≤ (cap : Int) := by have := hA3.le; omega
      have lcb : (n : Int) ≤ (cap2 : Int) := by have := hB3.le; omega
      have ln0 : (0 : Int) ≤ (n : Int) := by omega
      have X3 := Lib.hid (OX.out.arg (xL_len f g n n) (fun i hi => by
        rw [xL, bl_get _ n i hi, if_pos hi]; exact Nat.xor_lt_two_pow (n := 8) (hA3.lt i hi) (hB3.lt i hi)))
      have hXF : crcF (fun i => (xL f g n n).getD i 0) n = crcF (fun i => f i ^^^ g i) n := crcF_congr _ _ _ fun i hi => by
        rw [xL, bl_get _ n i hi, if_pos hi]
      have hSZ := seal_zero f n hA3.lt
      have hZZ := xor_zero f g n
      have lx := crcF_lt (fun i => f i ^^^ g i) n (fun i hi => Nat.xor_lt_two_pow (n := 8) (hA3.lt i hi) (hB3.lt i hi))
      have la := crcF_lt f n hA3.lt
      have lb := crcF_lt g n hB3.lt
      generalize crcF (fun i => f i ^^^ g i) n = X at hXF hZZ lx
      have hAA : crcF f n = crcF f n := rfl
      generalize hA : crcF f n = A at hZZ la
      generalize hB : crcF g n = B at hZZ lb
      clear hAA
      have hx1 := bits_xor_u16_nat X A lx la
      have lxa : X ^^^ A < 65536 := Nat.xor_lt_two_pow (n := 16) lx la
      generalize X ^^^ A = XA at hx1 hZZ lxa
      have hx2 := bits_xor_u16_nat XA B lxa lb
      generalize XA ^^^ B = R at hx2 hZZ
      have HXF := Lib.hid hXF
      have HSZ := Lib.hid hSZ
      have HZZ := Lib.hid hZZ
      have HA := Lib.hid hA
      have HB := Lib.hid hB
      have hmk : ∀ W : World, (Instr.makeSlice 22 (.int .i64 (n : Int)) (.int .i64 (n : Int))).run Try.prog W = .ok (.slice (some ⟨W.heap.size, 0, none⟩) n n) (W.alloc (.cells (madeCells (Value.int .u8 0).cells (n * 1)) 5 (0, 0))) := fun W => by
        have hr := run_make (P := Try.prog) W 22 5 ti (.int .u8 0) Try.underlying22 hi hz0 .i64 .i64 n n (by omega) (Int.le_refl _) (by rw [hz2]; omega) (by omega)
        simp only [Int.toNat_natCast, hz1] at hr
        exact hr
      have MZ : ∀ W : World, Bys (W.alloc (.cells (madeCells (Value.int .u8 0).cells (n * 1)) 5 (0, 0))) (some ⟨W.heap.size, 0, none⟩) n (fun _ => 0) := fun W => by
        have h1 := (made_own hmx (World.ownsRow_lit W _ n (Nat.le_refl _) hmx (size_madeCells _ _))).bys
        rw [List.length_replicate] at h1
        have h2 : (fun i => (List.replicate n 0).getD i 0) = (fun _ => 0 : Nat → Nat) := by
          funext i; simp only [List.getD, List.getElem?_replicate]; split <;> rfl
        rw [h2] at h1
        exact h1
      generalize (madeCells (Value.int .u8 0).cells (n * 1)) = mc at hmk MZ
      have BF : ∀ W, Below w3.heap.size w3 W → Below w.heap.size w W := fun W hW => by
        have h1 : Below w0.heap.size w0 w3 := by rw [hgx]; exact BX.out
        exact B0.out.trans ((h1.trans (hW.mono h1.size)).mono B0.out.size)
      have HBF := Lib.hid BF
      have HMZ := Lib.hid MZ
      have S3 := Lib.hid (below_drewN w3.heap.size w3 1)
      have hsz : w3.drew.heap.size = w3.heap.size := rfl
      clear hXF hSZ hZZ hA hB MZ BF hA3 hB3 hmin hd lx la lb lxa hsz
      go_wp2_with fail
      go_region_held (fun w' => Below w3.heap.size w3 w') (first | exact S3.out | assumption | exact Below.trans (by assumption) (Below.mono (by assumption) (Below.size (by assumption))) | exact Below.alloc (by assumption) (Below.size (by assumption)) _) (first
        | (go_at_call 14; refine (seal_any a n cap f _ (A3.out.below S3.out).row A3.out.lt A3.out.nil (by omega)).mono ?_; rintro e w4 ⟨g4, he, ho4, q4⟩; subst he; rw [sealL_len]; have hq4 := S3.out.trans q4; have SB := Lib.hid (ho4.arg (sealL_len f n) (sF_lt f n A3.out.lt)); clear ho4)
        | (go_at_call_of 12 g4; refine (sum_any _ (n + 2) (n + 2) _ _ SB.out.row SB.out.lt).mono ?_; rintro e w5 ⟨rfl, q5⟩; rw [HSZ.out]; have hq5 := hq4.trans (q5.mono hq4.size))
        | (go_at_call_of 12 gx; refine (sum_any _ n n _ _ (X3.out.below (by assumption)).row X3.out.lt).mono ?_; rintro e w6 ⟨rfl, q6⟩; rw [HXF.out]; have Q6 := Lib.hid q6)
        | (go_at_call_of 12 a; refine (sum_any _ n cap _ _ (A3.out.below (by assumption)).row A3.out.lt).mono ?_; rintro e w7 ⟨rfl, q7⟩; rw [HA.out]; have Q7 := Lib.hid q7)
        | (go_at_call_of 12 b; refine (sum_any _ n cap2 _ _ (C3.out.below (by assumption)).row C3.out.lt).mono ?_; rintro e w8 ⟨rfl, q8⟩; rw [HB.out]; have Q8 := Lib.hid q8)
        | (go_at_call 12; refine (sum_any _ n n (fun _ => 0) _ (by first | exact HMZ.out _ | exact (HMZ.out _).below (Hid.out (by assumption)) | exact ((HMZ.out _).below (Hid.out (by assumption))).below (Hid.out (by assumption)) | exact (((HMZ.out _).below (Hid.out (by assumption))).below (Hid.out (by assumption))).below (Hid.out (by assumption))) (fun _ _ => by omega)).mono ?_; rintro e w9 ⟨rfl, q9⟩; rw [← HZZ.out]))
      all_goals
        go_wp2_with fail
        go_ret
        exact ⟨rfl, HBF.out _ (by assumption)⟩

theorem zero_big (a : Option Addr) (len cap : Nat) (b : Option Addr) (len2 cap2 : Nat) (w : World) (hm : len ≤ maxLen) (hm2 : len2 ≤ maxLen) (n : Nat) (hn : n = min len len2) (hle : 9000 < n) :
    Calls Try.prog 6 #[.slice a len cap, .slice b len2 cap2] w fun e w' => e = .returned (.bool true) ∧ Below w.heap.size w w' := by
  unfold maxLen at hm hm2
  have hd : decide (9000 < (n : Int)) = true := by simp; omega
  have hmin : (if len2 < len then (len2 : Int) else (len : Int)) = (n : Int) := by split <;> omega
  clear hn
  go_enter Try.func6, Try.ntmps6
  go_wp2_with fail
  refine (head_any w).mono ?_
  rintro e w0 ⟨rfl, b0⟩
  go_wp2_with fail
  go_ret
  exact ⟨rfl, b0⟩

theorem zero_all (a : Option Addr) (len cap : Nat) (f : Nat → Nat) (b : Option Addr) (len2 cap2 : Nat) (g : Nat → Nat) (w : World) (h : Arg w a len cap f) (h2 : Arg w b len2 cap2 g) :
    Calls Try.prog 6 #[.slice a len cap, .slice b len2 cap2] w fun e w' => e = .returned (.bool true) ∧ Below w.heap.size w w' := by
  by_cases hl : 9000 < min len len2
  · exact zero_big a len cap b len2 cap2 w h.row.le h2.row.le _ rfl hl
  · exact zero_walk a len cap f b len2 cap2 g w h h2 _ rfl (by omega)

end Go.Proofs.Ytkkhkcjgpefjiaa
