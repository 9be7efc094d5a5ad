/- Unbits. -/
import Derived.Test.YtdolgpogjnfpkaaG
namespace Go.Proofs.Ytdolgpogjnfpkaa
set_option linter.unusedVariables false
open Go.ChangeShapes Go.WideShapes Go.ChangeAt Go.RowKit

theorem wmade_zero (n : Nat) : (madeCells (Value.int .u16 0).cells (n * 1)).toList = wv (List.replicate n 0) := by
  simp [madeCells, Value.cells, wv, Nat.mod_one, List.map_const']
theorem make_w (n : Nat) (hn : n ≤ 2000000) (w : World) : (Instr.makeSlice 30 (.int .i64 (n : Int)) (.int .i64 (n : Int))).run Try.prog w = .ok (.slice (some ⟨w.heap.size, 0, none⟩) n n) (w.alloc (.cells (wv (List.replicate n 0)).toArray 34 (0, 0))) := by
  obtain ⟨ti, hti, hz0, hz1, hz2⟩ := info_parts info34
  have hr := run_make (P := Try.prog) w 30 34 ti _ Try.underlying30 hti hz0 .i64 .i64 (n : Int) (n : Int) (by omega) (Int.le_refl _) (by rw [hz2]; omega) (by omega)
  rw [hz1] at hr
  have e : (n : Int).toNat = n := by simp
  rw [e] at hr
  rw [hr]
  congr 2
  have := wmade_zero n
  rw [← this]
theorem wv_set (L : List Nat) (i x : Nat) : (wv L).set i (.int .u16 (x : Int)) = wv (L.set i x) := by simp [wv, List.map_set]
def ux (L : List Nat) (n k : Nat) : List Nat := (List.range n).map fun i => if i < k then bt L i else 0
theorem ux_len (L : List Nat) (n k : Nat) : (ux L n k).length = n := by simp [ux]
theorem ux_zero (L : List Nat) (n : Nat) : ux L n 0 = List.replicate n 0 := by
  apply List.ext_getElem
  · simp [ux]
  · intro i h1 h2; simp [ux]
theorem ux_set (L : List Nat) (n k : Nat) (hk : k < n) : ux L n (k + 1) = (ux L n k).set k (bt L k) := by
  apply List.ext_getElem
  · simp [ux]
  · intro i h1 h2
    rw [List.getElem_set]
    simp only [ux, List.getElem_map, List.getElem_range]
    by_cases e : k = i
    · subst e; rw [if_pos (by omega), if_pos rfl]
    · rw [if_neg e]
      by_cases h : i < k
      · rw [if_pos (by omega), if_pos h]
      · rw [if_neg (by omega), if_neg h]
theorem ux_full (L : List Nat) (n : Nat) : ux L n (min n (8 * L.length)) = unb L n := by
  unfold ux unb
  apply List.map_congr_left
  intro i hi
  have hi := List.mem_range.1 hi
  by_cases h : i < min n (8 * L.length)
  · rw [if_pos h]
  · rw [if_neg h]
    have : L.getD (i / 8) 0 = 0 := by simp [List.getD, List.getElem?_eq_none (show L.length ≤ i / 8 by omega)]
    unfold bt; rw [this]; simp
theorem and_one (x t : Nat) (hx : x < 256) : IntKind.u16.wrap (Go.bits .and .u8 ((x : Int) / 2 ^ t) 1) = ((x / 2 ^ t % 2 : Nat) : Int) := by
  have e : (x : Int) / 2 ^ t = ((x / 2 ^ t : Nat) : Int) := by simp
  have hy : x / 2 ^ t < 256 := Nat.lt_of_le_of_lt (Nat.div_le_self _ _) hx
  rw [e]
  generalize x / 2 ^ t = y at hy
  have g1 : (BitVec.ofInt 8 (y : Int)).toNat = y := by
    rw [BitVec.ofInt_natCast, BitVec.toNat_ofNat]; exact Nat.mod_eq_of_lt (by omega)
  have g2 : (BitVec.ofInt 8 1).toNat = 1 := by decide
  show IntKind.u16.wrap (IntKind.u8.wrap ((BitVec.ofInt 8 (y : Int) &&& BitVec.ofInt 8 1).toNat : Int)) = _
  rw [BitVec.toNat_and, g1, g2, Nat.and_one_is_mod]
  simp [IntKind.wrap, IntKind.bits, IntKind.signed]
  omega
def UnbP (w : World) (L : List Nat) (e : Ending) (w' : World) : Prop := ∃ g, e = .returned (.slice (some ⟨g, 0, none⟩) L.length L.length) ∧ w'.heap[g]? = some (.cells (wv L).toArray 34 (0, 0)) ∧ w.heap.size ≤ g ∧ Below w.heap.size w w'
theorem unb_no (a : Option Addr) (len c : Nat) (n : Int) (w : World) (hn : n < 0 ∨ 65536 < n) : Calls Try.prog 70 #[.slice a len c, .int .i64 n] w fun e w' => e = .returned (.slice none 0 0) ∧ w' = w := by
  by_cases h : n < 0
  · have d1 : decide (n < 0) = true := by simpa using h
    go_enter Try.func70, Try.ntmps70
    go_wp2_with fail
    go_ret
    exact ⟨rfl, rfl⟩
  · have d1 : decide (n < 0) = false := by simpa using h
    have d2 : decide (65536 < n) = true := by simp; omega
    go_enter Try.func70, Try.ntmps70
    go_wp2_with fail
    go_ret
    exact ⟨rfl, rfl⟩
set_option maxRecDepth 100000 in
set_option maxHeartbeats 4000000 in
theorem unb_any (a : Option Addr) (len c : Nat) (L : List Nat) (n : Nat) (w : World) (h : Bys w a len L) (hl : len ≤ 100000) (hn : n ≤ 65536) : Calls Try.prog 70 #[.slice a len c, .int .i64 (n : Int)] w (UnbP w (unb L n)) := by
  have H := Lib.hid h
  have hln := h.ln
  have hmk := make_w n (by omega)
  have h0 : (w.alloc (.cells (wv (List.replicate n 0)).toArray 34 (0, 0))).heap[w.heap.size]? = some (.cells (wv (ux L n 0)).toArray 34 (0, 0)) := by rw [ux_zero]; exact heap_alloc_new w _
  have H0 := Lib.hid h0
  have d1 : decide ((n : Int) < 0) = false := by simp
  have d2 : decide ((65536 : Int) < (n : Int)) = false := by simp; omega
  by_cases hcs : n ≤ 8 * len
  · have HQ := Lib.hid hcs
    have e1 : (n : Int) ≤ 8 * (len : Int) := by omega
    clear h h0 hcs
    go_enter Try.func70, Try.ntmps70
    go_wp2_with fail
    go_loopw [20] (fun iv wr => ∃ k : Nat, k ≤ n ∧ iv = .int .i64 k ∧ wr.heap[w.heap.size]? = some (.cells (wv (ux L n k)).toArray 34 (0, 0)) ∧ Below w.heap.size w wr) (fun iv _ => n - (intOf iv).toNat)
    case atStart => exact ⟨0, Nat.zero_le _, rfl, H0.out, (Below.refl _ _).alloc (Nat.le_refl _) _⟩
    case round =>
      obtain ⟨wo, rfl⟩ : ∃ wo : World, wo = wr := ⟨_, rfl⟩
      obtain ⟨k, hk, rfl, hO, hb⟩ := hrel
      by_cases hkn : k < n
      · obtain ⟨b, off, rfl, hbl, hc⟩ := H.out.pos (by have := HQ.out; omega)
        have hj : k / 8 < len := by have := HQ.out; omega
        have hkn2 : k < n := by have := HQ.out; omega
        have hc0 := (hb.cell (p := ⟨b, off + k / 8, none⟩) hbl).trans (hc (k / 8) hj)
        have hx := getD_lt H.out.by' (k / 8)
        have ht := ux_set L n k hkn2
        have hbt : bt L k = L.getD (k / 8) 0 / 2 ^ (k % 8) % 2 := rfl
        generalize L.getD (k / 8) 0 = x at hc0 hx hbt
        have d0 : (k : Int) < (n : Int) := by omega
        have i1 : (k : Int) / 8 < (len : Int) := by omega
        have i2 : (k : Int) < (n : Int) := by omega
        have hcell : wo.cell? ⟨w.heap.size, k, none⟩ = some (.int .u16 (((ux L n k).getD k 0 : Nat) : Int)) := by
          have := wv_get (ux L n k) k (by rw [ux_len]; exact hkn2)
          simp [World.cell?, hO, this]
        have hfr : wo.frozen? ⟨w.heap.size, k, none⟩ = false := by simp [World.frozen?, hO]
        have HO := Lib.hid hO
        have HB := Lib.hid hb
        have HT := Lib.hid ht
        have HBT := Lib.hid hbt
        clear hO hb hc ht hbt
        generalize ((ux L n k).getD k 0 : Nat) = y0 at hcell
        go_wp2_with fail
        rw [and_one x (k % 8) hx]
        have hset : (wo.setCell ⟨w.heap.size, k, none⟩ (.int .u16 ((x / 2 ^ (k % 8) % 2 : Nat) : Int))).heap[w.heap.size]? = some (.cells (wv (ux L n (k + 1))).toArray 34 (0, 0)) := by
          rw [HT.out, HBT.out, ← wv_set]
          simp [World.setCell, Array.getElem?_modify, HO.out]
        exact ⟨⟨k + 1, by omega, by go_num, hset, HB.out.setCell (Nat.le_refl _) _⟩, by simp [intOf]; omega⟩
      · have hk' : k = n := by omega
        have hf : UnbP w (unb L n) (.returned (.slice (some ⟨w.heap.size, 0, none⟩) n n)) wo := by
          have e : ux L n k = unb L n := by
            rw [hk', ← ux_full L n, hln]; congr 1; have := HQ.out; omega
          refine ⟨_, by rw [unb_len], by rw [← e]; exact hO, Nat.le_refl _, hb⟩
        have HF := Lib.hid hf
        subst hk'
        clear hO hb hf
        go_wp2_with fail
        go_ret
        exact HF.out
  · obtain ⟨q, hq⟩ : ∃ q, q = 8 * len := ⟨_, rfl⟩
    have HQ : Hid (q = 8 * len ∧ q < n) := Lib.hid ⟨hq, by omega⟩
    have e1 : ¬ (n : Int) ≤ 8 * (len : Int) := by omega
    have E2 : Hid (8 * (len : Int) = (q : Int)) := Lib.hid (by omega)
    clear h h0 hcs hq
    go_enter Try.func70, Try.ntmps70
    go_wp2_with fail
    rw [E2.out]
    clear e1
    go_loopw [20] (fun iv wr => ∃ k : Nat, k ≤ q ∧ iv = .int .i64 k ∧ wr.heap[w.heap.size]? = some (.cells (wv (ux L n k)).toArray 34 (0, 0)) ∧ Below w.heap.size w wr) (fun iv _ => q - (intOf iv).toNat)
    case atStart => exact ⟨0, Nat.zero_le _, rfl, H0.out, (Below.refl _ _).alloc (Nat.le_refl _) _⟩
    case round =>
      obtain ⟨wo, rfl⟩ : ∃ wo : World, wo = wr := ⟨_, rfl⟩
      obtain ⟨k, hk, rfl, hO, hb⟩ := hrel
      by_cases hkn : k < q
      · obtain ⟨b, off, rfl, hbl, hc⟩ := H.out.pos (by have := HQ.out; omega)
        have hj : k / 8 < len := by have := HQ.out; omega
        have hkn2 : k < n := by have := HQ.out; omega
        have hc0 := (hb.cell (p := ⟨b, off + k / 8, none⟩) hbl).trans (hc (k / 8) hj)
        have hx := getD_lt H.out.by' (k / 8)
        have ht := ux_set L n k hkn2
        have hbt : bt L k = L.getD (k / 8) 0 / 2 ^ (k % 8) % 2 := rfl
        generalize L.getD (k / 8) 0 = x at hc0 hx hbt
        have d0 : (k : Int) < (q : Int) := by omega
        have i1 : (k : Int) / 8 < (len : Int) := by omega
        have i2 : (k : Int) < (n : Int) := by omega
        have hcell : wo.cell? ⟨w.heap.size, k, none⟩ = some (.int .u16 (((ux L n k).getD k 0 : Nat) : Int)) := by
          have := wv_get (ux L n k) k (by rw [ux_len]; exact hkn2)
          simp [World.cell?, hO, this]
        have hfr : wo.frozen? ⟨w.heap.size, k, none⟩ = false := by simp [World.frozen?, hO]
        have HO := Lib.hid hO
        have HB := Lib.hid hb
        have HT := Lib.hid ht
        have HBT := Lib.hid hbt
        clear hO hb hc ht hbt
        generalize ((ux L n k).getD k 0 : Nat) = y0 at hcell
        go_wp2_with fail
        rw [and_one x (k % 8) hx]
        have hset : (wo.setCell ⟨w.heap.size, k, none⟩ (.int .u16 ((x / 2 ^ (k % 8) % 2 : Nat) : Int))).heap[w.heap.size]? = some (.cells (wv (ux L n (k + 1))).toArray 34 (0, 0)) := by
          rw [HT.out, HBT.out, ← wv_set]
          simp [World.setCell, Array.getElem?_modify, HO.out]
        exact ⟨⟨k + 1, by omega, by go_num, hset, HB.out.setCell (Nat.le_refl _) _⟩, by simp [intOf]; omega⟩
      · have hk' : k = q := by omega
        have hf : UnbP w (unb L n) (.returned (.slice (some ⟨w.heap.size, 0, none⟩) n n)) wo := by
          have e : ux L n k = unb L n := by
            rw [hk', ← ux_full L n, hln]; congr 1; have := HQ.out; omega
          refine ⟨_, by rw [unb_len], by rw [← e]; exact hO, Nat.le_refl _, hb⟩
        have HF := Lib.hid hf
        subst hk'
        clear hO hb hf
        go_wp2_with fail
        go_ret
        exact HF.out
end Go.Proofs.Ytdolgpogjnfpkaa
